import PyProof.Rows.All
import Wide.All
import OpenK.AllK
import Wide.FinOn
import Lean
import PyProof.EqAt
import PyProof.EqKinds
import PyProof.TupleCall
import PySem.Challenge.RW_beatplans_k19_found_with_stays
noncomputable section
set_option compiler.extract_closed false
set_option genSizeOf false
set_option genInjectivity false
set_option Elab.async false
set_option linter.all false
set_option maxRecDepth 100000
set_option maxHeartbeats 8000000
set_option maxRecDepth 100000 in
set_option maxHeartbeats 0 in
theorem Z.wellS:PySem.Challenge.rw_beatplans_k19_found_with_stays.wellSaid=true:=by decide +kernel
open List renaming all_cons->Op,all_eq_true->jl,any_cons->oh,any_eq_false->HI,any_eq_true->ny,append_assoc->Kz,append_nil->vh,dropLast_eq_take->mJ,drop_eq_getElem_cons->Kl,drop_length->NH,drop_of_length_le->fq,drop_zero->Xy,eraseIdxIfInBounds_toArray->AJ,exists_mem_of_ne_nil->iJ,ext_getElem->xz,filterMap_cons->Tu,filterMap_map->AI,filter_append->Ii,filter_cons_of_neg->XI,filter_cons_of_pos->YI,filter_sublist->YH,find?_cons->Bj,find?_cons_of_neg->pJ,flatMap_cons->II,flatten_append->ZH,flatten_cons->Lm,foldl->Ap,foldl_cons->Ny,getD->Xc,getD_eq_getElem?_getD->Ij,getElem?_append_left->Lh,getElem?_append_right->bq,getElem?_eq_getElem->ac,getElem?_eq_none->Zz,getElem?_inj->JI,getElem?_map->Lc,getElem?_range->mz,getElem?_replicate->ZI,getElem?_set_ne->Cj,getElem?_set_self->Dl,getElem?_take->Su,getElem_map->yz,getElem_mem->Mh,getElem_of_mem->bg,getElem_take->nI,isEmpty_iff->OH,isEmpty_map->zz,length->Cp,length_append->Ae,length_cons->Nh,length_drop->Qu,length_filter_le->nJ,length_map->Ua,length_nil->Uu,length_pos_of_mem->qJ,length_range->ci,length_set->Hi,length_singleton->aA,length_take->Zh,lookup->uy,lookup_cons->El,map_append->Oc,map_congr_left->ul,map_cons->Le,map_drop->Sy,map_inj_right->BI,map_map->Pe,map_nil->Lp,map_reverse->PH,map_take->ju,mem_append_left->Cf,mem_append_right->Ee,mem_cons->Ic,mem_cons_of_mem->Pd,mem_cons_self->cf,mem_filter->Ff,mem_flatMap->QH,mem_of_getElem?->Cd,mem_of_mem_take->Bu,mem_or_eq_of_mem_set->jJ,mem_singleton->bc,nil_append->ah,not_mem_nil->Je,of_mem_zip->Oy,pairwise_singleton->Ju,range->Qc,range_succ->Dp,replicate->Kb,replicate_succ->Ji,reverse_cons->Ip,set_eq_take_append_cons_drop->tJ,size_toArray->Bd,take_append_getElem->dJ,take_append_of_le_length->yJ,take_length->Ke,take_of_length_le->Gu,take_sublist->oI,take_succ->Ve,toArray->Mp
open PySem.Heap renaming SameBut->Em,get?_push_ne->Jz,get?_push_of_some->Fc,get?_push_size->Fe,get?_update_ne->XH,get?_update_other->Tz,get?_update_self->Yz,lt_size->Kc,size_push->Tp
open Nat renaming add_le_add_left->CI,add_mul->By,add_sub_cancel_left->rJ,le_of_eq->Yp,le_of_lt->Ki,le_refl->Db,le_succ->fu,le_trans->Fb,lt_irrefl->Hh,lt_of_le_of_lt->Eg,lt_of_lt_of_le->bf,lt_succ_of_lt->Cz,lt_trans->xy,mul_comm->uu,mul_le_mul->Il,ne_of_gt->yy,ne_of_lt->re,not_lt_zero->Ky,pow_le_pow_right->Au,pow_succ->xu,sub_self->zy,succ_le_succ->Mz,zero_add->Zp,zero_le->og
open PySem.W renaming BT->Fi,Frag->Lb,OpenLaw->Dz,WalkO->RH,boot_heap->Mm,boot_o_0->Qm,boot_o_1->Fl,boot_o_10->Om,boot_o_2->Rm,boot_o_3->aI,boot_o_4->Fm,boot_o_5->Gm,boot_o_6->Hm,boot_o_7->Im,boot_o_8->Jm,boot_o_9->Km,cellsFrom_some->KI,codeIn->Up,findIn->Nz,fnOf->Mi,instObj->Ez,kas_place->Tt,keepIn->Vp,kia_one->Ih,kitOne->Ou,kitx_dict->iI,kitx_list->jI,lookIn->Oz,methodObj->iz,mg_of->Qp,nsIn->ol,piece_app->jz,piecesOf->dz,plainGet->bI,segRunT->Fz,segRun_of->kz,specialIn->kI,topRun->qI,topStub->EI
open PySem renaming Comprehension->gu,DictEntry->vj,FuncData->om,NameKind->Qf,Operator->ml,PassesOwn->wj,Spec->oV,assignEach->lg,assignInOrder->Ey,attributeBase->Fj,behindInMarks->zu,binaryOp->Oe,bootBuiltins->Pi,builtinsNs->rm,call->Cy,call_meets->Qg,call_meetsIn->Zt,cellsFrom->Rf,codeAny_builtin->ku,codeAny_mono->au,compTurn->qm,compareOp->ee,concat_meets->oy,evalArgs_none->nz,evalPart_none->Fy,foldedForSure->Gy,foldedSetIterable->Oh,inplaceOp->Am,lastMarks->Ut,letOwnedTupleGo->Rp,mainGlobals->Ue,mem_of_lookup->Fg,newFunctionEnv->Yy,noFill_tuple_add->Wy,plainId_quiet->Hy,post_val_or_str->mu,pushCells->zp,repr_of_reads'->Zy,seqIndex?->Yt,seqIndex_neg->Jy,seqSlot_of->tI,seq_tuple_add->Iy,sizeLine->Za,sizeLine_eq->Kh,sliceBounds->Gi,slicePick->wm,starEach->md,swappedStores->Gh,swapsWith->yj,swapsWithSole->Ni,sysModules->jf,treeTable->zj,tupleKind->zm,tupleKind_room_in1->Ep,typeIs_int->xp,typeIs_str->yp,wpAny_Call_Name_kw->Fp,wpAny_Call_method0_late->TH,wpAny_binaryOp_repeat_ref->lJ,wpAny_bind->Ab,wpAny_callSpecial?_slot->Eu,wpAny_call_entry->Bm,wpAny_comprehension_free->dI,wpAny_execs_nil->Qy,wpAny_field->gi,wpAny_getItem_list_slice->Sz,wpAny_getItem_str_slice->Fu,wpAny_holding->Gj,wpAny_letOwnedTupleGo_enum->oJ,wpAny_mono->ng,wpAny_newList->sy,wpAny_newObj_type->xh,wpAny_passesOwn->Jl,wpAny_pure->fc,wpAny_pyIter_enum->Pu,wpAny_pyIter_list->Ly,wpAny_pyIter_tuple->wz,wpAny_pyNext_enum_endD->wI,wpAny_pyNext_enum_itemD->UH,wpAny_sequenceKey->My,wpAny_setField->Np,wpAny_standAt->su,wpAny_truthy_bool->Pm,wpAny_typeOf->bu
open Bool renaming and_eq_true->Hf,eq_iff_iff->Ej,false_eq_true->Jp,false_ne_true->Md,false_or->Ry,not_eq_true'->Iz,or_eq_true->Wp,true_or->az
open Option.some renaming inj->Zc
open Int renaming ediv_one->wy,emod_add_mul_ediv->vz,emod_lt_of_pos->rh,emod_nonneg->uh,eq_ofNat_of_zero_le->Gg,le_refl->Bp,mul_comm->tu,mul_le_mul_of_nonneg_right->xJ,sub_eq_add_neg->GI,toNat_natCast->Hl
open PySem.PyData renaming canLayAll0->Ru,depthAll->Yh,eqv->Ud,eqvAll->Dj,int->vp,showable->Az,showableAll->gI,shown->nl,shownAll->Cm,tuple->Uy
open PySem.Value renaming bool->Dy,int->um,none->ke,ref->sg,str->iu
open PySem.NameKind renaming cell->Gf,free->Sf
open PySem.W.Fast renaming te10110043849684766642->bA,te14364793385576792824->Um,te5923862056798008813->BJ
open PySem.Builtin.Slice renaming sliceAdjust->cq,sliceApplied->Wu,sliceFields->uJ,slicePlaces->Jj
open PySem.Builtin.Tuple renaming tupleExact->Hj,tupleIsExact->vJ,tupleItemsOf->Rz,tupleTooMany->wJ
open PyProof.Rows renaming args_tuple_getitem->Pz,assignInOrder_cons->Qz,boot_list->zJ,callWith_type1->dq,entry_tuple_getitem->Gz,keyLt'_oneType->Ay,slot_tuple_getitem->Qi,subscriptTail->qu,subscriptTail_builtinR->vI,tupleItemsOf_->qy
open Array renaming getD_eq_getD_getElem?->SI,getElem?_setIfInBounds_self_of_lt->cA,getElem?_toList->Du,length_toList->Al
open PySem.Obj renaming isFreed_of_fields->eI,mapFields->Oi,mapSeq->xj
open PySem.Str renaming ofString->Li
open PySem.Builtin.List renaming listTooLong->Vu
open True renaming intro->Jh
open PySem.Builtin.Str renaming occurrences->Xu
open Sum.inr renaming injEq->ql
open PySem.F renaming args_dict_get_3->MI,args_object_init_2->FI,args_tuple_add_2->Xz,args_tuple_mul_2->Bz,entry_dict_get->kJ,entry_enumerate_new->yI,entry_tuple_add->Wz,entry_tuple_mul->Py,newCall_enumerate_1->zI,plainAttrs_dict->Mu,plainAttrs_list->Nu,plain_list_iadd->NI,slot_dict_get->Hu,slot_dict_items->OI,slot_dict_values->RI,slot_int_rmul->ou,slot_list_lt->bJ,slot_tuple_add->Uz,slot_tuple_iterator_next->WI,slot_tuple_mul->qp,typeCall_enumerate_1->WH,type_dict_get->eJ
open PySem.Calls renaming Name_function_global->QI,callWith_builtin->Iu,spliced_cons->VH
open PySem.Around renaming in1_units->xI,under_plainId->Cu
open PySem.W.KasT renaming kasWp_bind->Xp,ret->Wt
open PySem.SeqAt renaming EqAt->kg,eqv_refl->Vz,in_listAt->SH,in_tupleAt->uI,notIn_listAt->cI,notIn_tupleAt->mI
open False renaming elim->Dm
open Prod.mk renaming inj->aq
open Prod renaming ext->Aj
open PySem.W.Hook renaming obs->qz,val->uz
open PySem.Paired renaming length->nu
open Option renaming getD_none->DI,isSome_map->gz,map_some->pI
open PySem.Builtin.Range renaming rangeSize->sJ
open PySem.Txt renaming slice->Vt,slice_le->yu
open List.cons renaming inj->Lz
open PySem.AutoSeq1 renaming wpAny_loadPart'->VI
open List.Pairwise renaming nil->LI
open PySem.SeqAt.EqAt renaming int_int->fJ,int_str->gJ,str_int->hJ
open PySem.W.Looks renaming of_pure->Vy
open PySem.ScopeKind renaming function->cJ
open PySem.Draws renaming list->aJ
open Lean.Parser.Tactic renaming simpLemma->ZU
open PySem.Builtin.SmallTypes renaming nextOf->XU,stopIteration->YU
open Array renaming getElem?_eq_some_iff->Yb
open Bool renaming false->ua,true->ma
open Int renaming toNat->Uj
open List renaming getElem?_eq_some_iff->Ba,length_eq_zero_iff->uc,mem_append->Fa,mem_map->Ea,mem_range->Ra,nodup_append->Ec,nodup_cons->Rb,pairwise_cons->Wa,pairwise_iff_getElem->ud,pairwise_map->Qe
open Nat renaming not_lt->Qd
open Ne renaming symm->Qa
open Option renaming none->Aa,some->la
open Or renaming symm->pA
open PyProof.Rows renaming AllBare->we,IntsAre->Nb,IsTup->Rh,Subscript_->mn,envOfC->ue,oneLt_int->fv,seqObj->se,size_push'->dn,sortedHeap->cn,tail_any->Pj
open PySem renaming Addr->Ca,Around->Ac,BindsTo->Lg,Builtin->Ob,CmpOp->oq,Expr->La,Heap->Xa,IsPart->Me,Meets->rg,OsState->li,Paired->Jd,Params->Vb,PlainL->nn,Program->Tb,PyData->Va,Scope->Od,Shared->Ia,Stmt->Pa,Value->Da,World->Cb,argBest->ve,assign->Gc,atKey->Rg,backTo->Sc,bindArgs->Tj,bindC->Qh,bindL->Ph,bindName->Sj,cLine->Xb,callerA->Kg,eval->Ib,getItem->Dd,holding->Uc,isTrue->yf,model->Ja,newList->nq,noteFrame->gv,rawInt->Rc,seqIndex_of->Qj,setFlight->cv,setItem->ki,slot_list_getitem->Mf,standAt->Lf,storeName->bv,valueAt->Kf,wpAny_Name->Zm,wpAny_load->Ym,wpAny_loadPart'->Ka,wpAny_rule->Xm
open PySem.Heap renaming IsSliceOf->fe
open PySem.SeqAt renaming RcAt->zh
open PySem.W renaming Hook->Ed,OpenLaw->mi,WShape->jn,kas_ask->Jg,kas_desc->Rj
open Sum renaming inl->Wb,inr->Eb
namespace L2
open PySem PySem.Spec PyProof.Rows

abbrev Ub:=Sum Int Str
noncomputable def Qk  : Ub->Da->Bool
 |.inl k,v=>Da.isInt k v
 |.inr x,v=>Da.isStrOf x v
noncomputable def keyH  (w:Cb):Ub->Int
 |.inl k=>hashInt k
 |.inr x=>hashStr w x
def Eh  : ∀{k } {v },Qk k v=ma->(∃i t,k=Wb i/\v=um i t)\/(∃x t,k=Eb x/\v=iu x t)
 |.inl i,v,h=>by
  obtain⟨t,e⟩:=Da.isInt_shape (k:=i) (v:=v) h;exact .inl ⟨i,t,rfl,e⟩
 |.inr x,v,h=>by
  obtain⟨t,e⟩:=Da.isStrOf_shape (x:=x) (v:=v) h;exact .inr ⟨x,t,rfl,e⟩
def wT   i t:Qk (.inl i) (.int i t)=ma:=by simp[Qk,Da.isInt]
def xT   x t:Qk (.inr x) (.str x t)=ma:=by simp[Qk,Da.isStrOf]
def pN   a b:decide ((Wb a:Ub)=Wb b)=(a==b):=by
 by_cases e:a=b
 ·subst e;simp
 ·have h:¬(Wb a:Ub)=Wb b:=λq=>e (Wb.inj q);rw[decide_eq_false h];exact(beq_eq_false_iff_ne.mpr e).symm
def sN   a b:decide ((Eb a:Ub)=Eb b)=decide (a=b):=by
 by_cases e:a=b
 ·subst e;simp
 ·have h:¬(Eb a:Ub)=Eb b:=λq=>e (Eb.inj q);rw[decide_eq_false h,decide_eq_false e]
def qN   a b:decide ((Wb a:Ub)=Eb b)=ua:=decide_eq_false (λq=>nomatch q)
def rN   a b:decide ((Eb a:Ub)=Wb b)=ua:=decide_eq_false (λq=>nomatch q)

def Yd   prog w:PySem.KeyKind prog w Ub where
 is:=Qk
 hash:=keyH w
 inj:=λv a b z q=>by
  rcases Eh z with⟨i,t,rfl,rfl⟩|⟨x,t,rfl,rfl⟩
  ·rcases Eh q with⟨j,u,rfl,e⟩|⟨y,u,rfl,e⟩
   ·injection e with e1 _;rw[e1]
   ·exact nomatch e
  ·rcases Eh q with⟨j,u,rfl,e⟩|⟨y,u,rfl,e⟩
   ·exact nomatch e
   ·injection e with e1 _;rw[e1]
 byValue:=λk v h=>by
  rcases Eh h with⟨i,t,rfl,rfl⟩|⟨x,t,rfl,rfl⟩<;>rfl
 pyHash:=λf h=>by
  rcases Eh f with⟨i,t,rfl,rfl⟩|⟨x,t,rfl,rfl⟩
  ·exact wpAny_pyHash_int h
  ·exact wpAny_pyHash_str h
 eqBool:=λhu f h=>by
  rcases Eh hu with⟨i,t,rfl,rfl⟩|⟨x,t,rfl,rfl⟩
  ·rcases Eh f with⟨j,u,rfl,rfl⟩|⟨y,u,rfl,rfl⟩
   ·rw[pN]at h;exact wpAny_eqBool_int h
   ·rw[qN]at h;exact gJ i t y u _ _ _ _ h
  ·rcases Eh f with⟨j,u,rfl,rfl⟩|⟨y,u,rfl,rfl⟩
   ·rw[rN]at h;exact hJ x t j u _ _ _ _ h
   ·rw[sN]at h;exact wpAny_eqBool_str h
 «strs»:=λk x t v h=>by
  rcases Eh h with⟨i,u,rfl,e⟩|⟨y,u,rfl,e⟩
  ·exact nomatch e
  ·injection e with e1 _
   subst e1
   cases v<;>rfl

def tU   prog w i t:(Yd prog w).is (.inl i) (.int i t)=ma:=wT i t
def iU   prog w x t:(Yd prog w).is (.inr x) (.str x t)=ma:=xT x t

set_option genInjectivity true
inductive V where
 |non|bl (b:Bool)|int (i:Int)|str (x:Str)|byt (b:Array UInt8)|flt (b:UInt64)|ref (a:Ca)|ty (n:String)
 deriving DecidableEq

set_option genInjectivity false
def RelV  : V->Da->Prop
 |.non,u=>u=ke
 |.bl b,u=>u=Dy b
 |.int i,u=>∃t,u=um i t
 |.str x,u=>∃t,u=iu x t
 |.byt b,u=>∃t,u=Da.bytes b t
 |.flt b,u=>∃t,u=Da.float b t
 |.ref a,u=>u=sg a
 |.ty n,u=>u=Da.type n

abbrev Vals  : List V->List Da->Prop:=Jd RelV
def Vals.length    (r:Vals xs us):xs.length=us.length:=nu r
theorem Vals.get  : ∀{xs } {us } {i:Nat} {x },Vals xs us->xs[i]?=la x->∃u,us[i]?=la u/\RelV x u
 |_,_,_,_,.nil,e=>by simp at e
 |_,_,0,_,.cons r _,e=>by simp at e;subst e;exact⟨_,rfl,r⟩
 |_,_,i+1,x,.cons _ t,e=>by
  obtain⟨u,q,j⟩:=Vals.get (i:=i) (x:=x) t (by simpa using e)
  exact⟨u,by simpa using q,j⟩
theorem Vals.set    (r:RelV x u):∀{xs } {us } i ,Vals xs us->Vals (xs.set i x) (us.set i u)
 |_,_,_,.nil=>.nil
 |_,_,0,.cons _ t=>.cons r t
 |_,_,i+1,.cons q t=>.cons q (Vals.set r i t)
theorem Vals.append  : ∀{xs ys } {us ws },Vals xs us->Vals ys ws->Vals (xs++ys) (us++ws)
 |_,_,_,_,.nil,s=>s
 |_,_,_,_,.cons r t,s=>.cons r (Vals.append t s)
theorem Vals.take  : ∀{xs } {us } n ,Vals xs us->Vals (xs.take n) (us.take n)
 |_,_,0,_=>.nil
 |_,_,_+1,.nil=>.nil
 |_,_,n+1,.cons r t=>.cons r (Vals.take n t)
theorem Vals.drop  : ∀{xs } {us } n ,Vals xs us->Vals (xs.drop n) (us.drop n)
 |_,_,0,r=>r
 |_,_,_+1,.nil=>.nil
 |_,_,n+1,.cons _ t=>Vals.drop n t
def RelO  : Option V->Option Da->Prop
 |some v,la u=>RelV v u
 |none,Aa=>True
 |_,_=>False
def KV  {κ:Type}:List (κ×V)->List (κ×Da)->Prop:=Jd λ(p:κ×V) (q:κ×Da)=>p.1=q.1/\RelV p.2 q.2

noncomputable def kV  : Ub->V
 |.inl i=>.int i
 |.inr x=>.str x

set_option genInjectivity true
inductive HO where
 |lst (xs:List V)
 |tup (xs:List V)
 |dK (kvs:List (Ub×V))|dT (kvs:List (List Ub×V))
 |set (S:Int->Bool) (n:Nat)
 |ins (C dx:Ca) (fs:List (Str×V))
 |own (x:Ca)
 |xd (fs:List (Str×V))
 |met (f x:Ca)
 |rng (lo hi:Int)
 |frz (o:Obj) (u:HO)
 |tbl (ps:Array Da)
 |ext (φ:Xa->Prop)

set_option genInjectivity false
abbrev Hp:=Ca->Option HO
noncomputable def upd  (H:Hp)(a:Ca)(o:HO):Hp:=λb=>if b=a then la o else H b
def fg     : upd H a o a=la o:=by unfold upd;rw[if_pos rfl]
def Pc     (h:b≠a):upd H a o b=H b:=by unfold upd;rw[if_neg h]
def DL  {H:Hp}(h:H a=la o)(h':H b=la u)(d:o≠u):a≠b:=by
 intro e;subst e;rw[h]at h';exact d (Zc h')
def zg  {H:Hp}(h:H a=la o)(h':H b=Aa):a≠b:=by
 intro e;subst e;rw[h]at h';cases h'

def TupD  (h:Xa)(a:Ca)(items:Array Da):Prop:=∃o,h.get? a=la o/\o.cls=.type "tuple" /\ ∃n,o.data=.seq items n/\o.dict=Aa
def TupD.tup     (x:TupD h a items):Rh h a items:=let ⟨o,e,c,n,d,_⟩:=x;⟨o,e,c,n,d⟩
def TupD.new  (h:Xa) items:TupD (h.push { cls:=.type "tuple",data:=.seq items }) h.objs.size items:=⟨_,Fe _ rfl,rfl,_,rfl,rfl⟩
section
variable (P:Tb)(w:Cb)
def je (H:Hp)(h:Xa)(a:Ca):HO->Prop
 |.lst z=>z.length<=Za/\∃(y:List Da) (n:Nat),Vals z y/\h.get? a=la { cls:=.type "list",data:=.seq y.toArray n }
 |.tup z=>z.length<=Za/\∃y:List Da,Vals z y/\TupD h a y.toArray
 |.dK j=>j.length<=Za/\(a==jf)=ua/\∃Y,KV j Y/\h.DictOf (Yd P w) a Y
 |.dT j=>j.length<=Za/\(a==jf)=ua/\∃z:List (List Ub×Ca×Da),
   Jd (λ(p:List Ub×V) (q:List Ub×Ca×Da)=>p.1=q.1/\H q.2.1=la (.tup (p.1.map kV))/\RelV p.2 q.2.2) j z/\
   ∃o R ep,h.get? a=la o/\o.ExactDict/\o.data=.dict R ep/\R.toList=z.map (entryOfKey (zm (Yd P w)))/\(z.map (·.1)).Nodup
 |.set S n=>h.SetOf (intKind P w) a S n
 |.ins C I fs=>H I=la (.own a)/\fs.length<=1000/\I≠a/\h.get? a=la (Ez C I)/\
   ∃F,h.Ns1 I F/\(∀f,RelO (fs.lookup f) (F f))/\PySem.Within F (fs.map (·.1))
 |.own _=>∃o,h.get? a=la o
 |.xd fs=>∃F,h.Ns1 a F/\∀f,RelO (fs.lookup f) (F f)
 |.rng lo hi=>∃t u v,h.get? a=la { cls:=.type "range",data:=.fields #[.int lo t,.int hi u,.int 1 v] }
 |.frz o u=>h.get? a=la o/\je H h a u
 |.tbl ps=>h.get? a=la { cls:=.none,data:=.fields ps }
 |.met f x=>h.get? a=la (iz (.ref f) (.ref x))
 |.ext J=>J h/\(∃o,h.get? a=la o)/\∀Z O:Xa,J Z->(∀o,Z.get? a=la o->O.get? a=la o)->J O
def Xd (H:Hp)(h:Xa):Prop:=∀a o,H a=la o->je P w H h a o
end

section
variable {P:Tb}{w:Cb}{H H':Hp}{h h':Xa}{a:Ca}{o:HO}
theorem je.lt  (x:je P w H h a o):a<h.objs.size:=by
 cases o with
 |lst q=>obtain⟨_,_,_,_,e⟩:=x;exact Kc e
 |tup q=>obtain⟨_,_,_,p⟩:=x;exact p.tup.lt
 |dK j=>obtain⟨_,_,_,_,o,_,_,e,_⟩:=x;exact Kc e
 |dT j=>obtain⟨_,_,_,_,o,_,_,e,_⟩:=x;exact Kc e
 |set S n=>obtain⟨o,_,_,_,e,_⟩:=x;exact Kc e
 |ins C F fs=>obtain⟨_,_,_,e,_⟩:=x;exact Kc e
 |own y=>obtain⟨_,e⟩:=x;exact Kc e
 |xd fs=>obtain⟨_,⟨_,_,_,e,_⟩,_⟩:=x;exact Kc e
 |rng R J=>obtain⟨_,_,_,e⟩:=x;exact Kc e
 |frz Y u=>obtain⟨e,_⟩:=x;exact Kc e
 |tbl I=>exact Kc (show h.get? a=la _ from x)
 |met f y=>exact Kc (show h.get? a=la _ from x)
 |ext O=>obtain⟨_,⟨_,e⟩,_⟩:=x;exact Kc e
theorem Paired.mapP    : ∀{q } {j },Jd F q j->(∀a b,F a b->G a b)->Jd G q j
 |_,_,.nil,_=>.nil
 |_,_,.cons r t,f=>.cons (f _ _ r) (Paired.mapP t f)
def je.stay  (x:je P w H h a o)(k:∀b u,(b=a\/H b=la (.own a))->h.get? b=la u->h'.get? b=la u)
  (ho:∀b,H b=la (.own a)->H' b=la (.own a)) (ht:∀b xs,H b=la (.tup xs)->H' b=la (.tup xs)):je P w H' h' a o:=by
 induction o with
 |lst xs=>obtain⟨z,J,n,r,e⟩:=x;exact⟨z,J,n,r,k _ _ (.inl rfl) e⟩
 |tup xs=>obtain⟨z,J,r,j,e,c⟩:=x;exact⟨z,J,r,j,k _ _ (.inl rfl) e,c⟩
 |dK Y=>obtain⟨z,y,vs,r,j,I,F,e,c⟩:=x;exact⟨z,y,vs,r,j,I,F,k _ _ (.inl rfl) e,c⟩
 |dT Y=>
  obtain⟨z,y,xs,r,j,I,F,e,c⟩:=x;exact⟨z,y,xs,Paired.mapP r λp q z=>⟨z.1,ht _ _ z.2.1,z.2.2⟩,j,I,F,k _ _ (.inl rfl) e,c⟩
 |set S n=>obtain⟨j,I,F,t,e,c⟩:=x;exact⟨j,I,F,t,k _ _ (.inl rfl) e,c⟩
 |ins C dx fs=>
  obtain⟨d,z,ne,e,R,⟨O,I,F,e2,c⟩,r⟩:=x;exact⟨ho _ d,z,ne,k _ _ (.inl rfl) e,R,⟨O,I,F,k _ _ (.inr d) e2,c⟩,r⟩
 |own y=>obtain⟨j,e⟩:=x;exact⟨j,k _ _ (.inl rfl) e⟩
 |xd fs=>obtain⟨R,⟨O,I,F,e,c⟩,r⟩:=x;exact⟨R,⟨O,I,F,k _ _ (.inl rfl) e,c⟩,r⟩
 |rng lo hi=>obtain⟨t,u,v,e⟩:=x;exact⟨t,u,v,k _ _ (.inl rfl) e⟩
 |frz j u ih=>obtain⟨e,q⟩:=x;exact⟨k _ _ (.inl rfl) e,ih q⟩
 |tbl Z=>
  have e:h.get? a=la { cls:=.none,data:=.fields Z }:=x;show h'.get? a=la { cls:=.none,data:=.fields Z };exact k a _ (.inl rfl) e
 |met f y=>
  have e:h.get? a=la (iz (.ref f) (.ref y)):=x;show h'.get? a=la (iz (.ref f) (.ref y));exact k a _ (.inl rfl) e
 |ext φ=>obtain⟨p,⟨o,e⟩,st⟩:=x;exact⟨st _ _ p λo q=>k _ _ (.inl rfl) q,⟨o,k _ _ (.inl rfl) e⟩,st⟩
def Xd.lt  (x:Xd P w H h)(e:H a=la o):a<h.objs.size:=(x a o e).lt
def Xd.fresh  (x:Xd P w H h)(e:h.objs.size<=a):H a=Aa:=by
 cases q:H a with
 |none=>rfl
 |some u=>exact absurd (bf (x.lt q) e) (Hh _)
def Xd.kept  (x:Xd P w H h)(k:∀b u,h.get? b=la u->h'.get? b=la u):Xd P w H h':=λa o e=>
 (x a o e).stay (λb u _ q=>k b u q) (λ_ q=>q) λ_ _ q=>q
def Xd.laid  (x:Xd P w H h)(k:∀b u,h.get? b=la u->h'.get? b=la u)(F:h.objs.size<=a)(new:je P w (upd H a o) h' a o):Xd P w (upd H a o) h':=λb u e=>by
 have y:=x.fresh F;by_cases j:b=a
 ·subst j;rw[fg]at e;cases e;exact new
 ·rw[Pc j]at e;exact(x b u e).stay (λc v _ q=>k c v q) (λc q=>by rw[Pc (zg q y)];exact q) λc I q=>by rw[Pc (zg q y)];exact q
end

def Rd  (H:Hp)(a:Ca)(u:HO):Prop:=H a=la u\/∃o,H a=la (.frz o u)
def Rd.of     (h:H a=la u):Rd H a u:=.inl h
def Rd.ok        (r:Rd H a u)(x:Xd P w H h):je P w H h a u:=by
 rcases r with r|⟨o,r⟩
 ·exact x a u r
 ·obtain⟨_,q⟩:=x a _ r;exact q
def iq  : Option HO->Prop
 |some (.lst _)=>True
 |some (.dK _)=>True
 |some (.dT _)=>True
 |some (.set _ _)=>True
 |some (.ins _ _ _)=>True
 |some (.ext _)=>True
 |_=>False

def Xd.write  (ok:Xd P w H h)(Y:iq (H x))(he:e=x\/H e=la (.own x))(k:∀b u,b≠e->h.get? b=la u->h'.get? b=la u)(Z:∃u,h'.get? e=la u)
  (new:je P w (upd H x o') h' x o'):Xd P w (upd H x o') h':=λb u q=>by
 have F:∀c y,H c=la (.own y)->c≠x:=λc y r z=>by subst z;rw[r]at Y;exact Y
 have I:∀c R,H c=la (.tup R)->c≠x:=λc R r z=>by subst z;rw[r]at Y;exact Y
 by_cases O:b=x
 ·subst O;rw[fg]at q;cases q;exact new
 ·rw[Pc O]at q;by_cases j:b=e
  ·have q':H b=la (.own x):=by
    rcases he with z|z
    ·exact absurd (j.trans z) O
    ·rw[j];exact z
   rw[q]at q';cases q';obtain⟨v,hv⟩:=Z;exact⟨v,by rw[j];exact hv⟩
  ·refine(ok b u q).stay (λc v J r=>k c v ?_ r) (λc r=>by rw[Pc (F c b r)];exact r) λc R r=>by rw[Pc (I c R r)];exact r
   rcases J with rfl|J
   ·exact j
   ·rintro rfl;rcases he with z|z
    ·exact F c b J z
    ·rw[J]at z;cases z;exact O rfl

structure Un (fs ex:List Ca)(H H':Hp)(h h':Xa):Prop where
 keep:∀b o,h.get? b=la o->H b=Aa->b∉fs->b∉ex->h'.get? b=la o
 slot:∀b o,h.get? b=la o->H b=Aa->b∈fs->b∉ex->∃sl,h'.get? b=la { o with slots:=sl }
 free:∀b o,h.get? b=la o->H b=Aa->b∉ex->H' b=Aa
 there:∀b o,h.get? b=la o->b∉ex->∃o',h'.get? b=la o'
 tups:∀b xs,H b=la (.tup xs)->H' b=la (.tup xs)
 frzs:∀b o u,H b=la (.frz o u)->H' b=la (.frz o u)
 tbls:∀b ps,H b=la (.tbl ps)->∃more,H' b=la (.tbl (ps++more))

def Un.any  (u:Un fs ex H H1 h J)(q:h.get? b=la j)(n:H b=Aa)(y:b∉ex):∃I,J.get? b=la { j with slots:=I }:=by
 by_cases F:b∈fs
 ·exact u.slot b j q n F y
 ·exact⟨j.slots,u.keep b j q n F y⟩
def Un.kept  (k:∀b u,h.get? b=la u->h'.get? b=la u):Un fs ex H H h h':=
 ⟨λb j q _ _ _=>k b j q,λb j q _ _ _=>⟨j.slots,k b j q⟩,λ_ _ _ n _=>n,λb j q _=>⟨j,k b j q⟩,λ_ _ q=>q,λ_ _ _ q=>q,λ_ y q=>⟨#[],by rw[q];simp⟩⟩
def Un.refl  : Un fs ex H H h h:=Un.kept λ_ _ q=>q
def Un.laid  {h: Xa}{a: Ca}(k:∀b u,h.get? b=la u->h'.get? b=la u)(y:h.objs.size<=a)(j:H a=Aa):Un fs ex H (upd H a o) h h' where
 keep:=λb u q _ _ _=>k b u q
 slot:=λb u q _ _ _=>⟨u.slots,k b u q⟩
 free:=λb u q n _=>by rw[Pc (re (bf (Kc q) y))];exact n
 there:=λb u q _=>⟨u,k b u q⟩
 tups:=λb F q=>by rw[Pc (zg q j)];exact q
 frzs:=λb u F q=>by rw[Pc (zg q j)];exact q
 tbls:=λb I q=>⟨#[],by rw[Pc (zg q j),q];simp⟩
def Un.write  (y:iq (H x))(Y:e=x\/H e=la (.own x))(k:∀b u,b≠e->h.get? b=la u->h'.get? b=la u)(I:∃u,h'.get? e=la u):Un fs ex H (upd H x o) h h':=by
 have J:∀b,H b=Aa->b≠x:=λb n z=>by subst z;rw[n]at y;exact y
 have O:∀b,H b=Aa->b≠e:=λb n z=>by
  subst z;rcases Y with r|r
  ·exact J b n r
  ·rw[n]at r;cases r
 have F:∀b u,H b=la u->¬iq (la u)->b≠x:=λb u q nm z=>by subst z;rw[q]at y;exact nm y
 refine⟨λb u q n _ _=>k b u (O b n) q,λb u q n _ _=>⟨u.slots,k b u (O b n) q⟩,λb u q n _=>by rw[Pc (J b n)];exact n,λb u q _=>?_,
  λb R q=>by rw[Pc (F b _ q λz=>z)];exact q,λb u R q=>by rw[Pc (F b _ q λz=>z)];exact q,λb Z q=>⟨#[],by rw[Pc (F b _ q λz=>z),q];simp⟩⟩
 by_cases j:b=e
 ·subst j;exact I
 ·exact⟨u,k b u j q⟩

noncomputable def qq  (h:Xa)(H:Hp):List Ca:=(Qc h.objs.size).filter λa=>(H a).isSome
def hidT  (h:Xa)(H:Hp):Xa:=PySem.W.hideAll h (qq h H)
def VR  (h:Xa) H:(hidT h H).objs.size=h.objs.size:=PySem.W.hideAll_size _ _
def Vw      (e:h.get? b=la o)(n:H b=Aa):(hidT h H).get? b=la o:=
 PySem.W.hideAll_get _ e λf=>by
  have q:(H b).isSome=ma:=(Ff.mp f).2;rw[n]at q;simp at q
def cP      (e:(hidT h H).get? b=la o):h.get? b=la o/\H b=Aa:=by
 have f:h.get? b=la o:=PySem.W.of_hideAll (qq h H) e;refine⟨f,?_⟩;cases q:H b with
 |none=>rfl
 |some x=>
  have j:b∈qq h H:=Ff.mpr ⟨Ra.mpr (Kc f),by simp[q]⟩
  have z:(hidT h H).get? b=Aa:=PySem.W.hideAll_none (qq h H) j;rw[z]at e;cases e

noncomputable def jO  (g h:Xa)(L:Ca):List (Ca×Obj):=(Qc h.objs.size).filterMap λa=>if a=L\/(g.get? a).isSome=ma then Aa else (h.get? a).map λo=>(a,o)
def rest  (g h:Xa)(L d:Ca):List (Ca×Obj):=(jO g h L).filter λp=>decide (p.1≠d)

structure Mod (K:Lb)(mg:Str->Option Da)(base:Xa):Prop where
 kin:K.In base
 glob:base.Ns Ue mg
 blt:∃mb,base.Ns rm mb/\∀x:Str,x ≠ "__name__" -> mb x=Pi x
 nolimit:base.NoLimit
 sys:∃o,K.lookup jf=la o/\o.cls=.type "dict"

structure Cx where
 prog:Tb
 w:Cb
 K:Lb
 mg:Str->Option Da
 base:Xa
 A:Ac
 N:List Str
 s₀:Ia
 H₀:Hp
 env:Env
 outer:List Env
 stack:List Env
 ex:List Ca
 fn:Str->Bool
 calm:Bool
 pn:List (Ca×Obj)
 xe:Da->Ia->Prop
noncomputable def Ef  (l:List Env):List Ca:=l.filterMap (·.frame)
abbrev Cx.fs  (X:Cx):List Ca:=Ef X.outer

def gq  (f:Od)(x:Str):Prop:=f.names.lookup x=la .local\/f.names.lookup x=la .cell\/f.names.lookup x=la .free
def Nl  (f:Od)(x:Str):Prop:=f.names.lookup x=la .local\/f.names.lookup x=la .cell
def Look  (env:Env)(h:Xa)(m:Str->Option Da)(x:Str)(u:Da):Prop:=
 (env.kindOf x=la .local/\m x=la u)\/((env.kindOf x=la .cell\/env.kindOf x=la .free)/\∃c,env.cells.lookup x=la c/\h.IsCell c (la u))

structure Cx.Ok (X:Cx):Prop where
 mod:Mod X.K X.mg X.base
 kind:X.env.scope.kind=.function
 glob:X.env.globals=Ue
 blt:X.env.builtins=rm
 above:X.s₀.heap.objs.size<=X.env.locals
 inj:∀x y c,X.env.cells.lookup x=la c->X.env.cells.lookup y=la c->x=y
 has:∀x,(X.env.kindOf x=la .cell\/X.env.kindOf x=la .free)->∃c,X.env.cells.lookup x=la c
 cab:∀x c,X.fn x=ma->X.env.cells.lookup x=la c->X.s₀.heap.objs.size<=c
 hd:X.calm=ma->X.A.handled=Aa
 frames:X.A.frames=la X.stack
 stk:X.stack=X.outer\/(X.stack=X.env::X.outer/\X.env.frame=la X.env.locals)
 exf:∀b∈X.ex,b≠X.env.locals/\∀x c,X.env.cells.lookup x=la c->c≠b
 bs:∀b o,X.base.get? b=la o->X.s₀.heap.get? b=la o/\X.H₀ b=Aa
 bsz:X.base.objs.size<=X.s₀.heap.objs.size
 noex:∀b o,X.base.get? b=la o->b∉X.ex
 exfs:∀b∈X.ex,b∉X.fs
 funs:X.s₀.heap.FunFrames X.base X.outer
 frf:∀b∈X.fs,X.H₀ b=Aa

structure Oa (X:Cx)(pins:List (Ca×Obj))(σ:List (Option V))(H:Hp)(s:Ia):Prop where
 ok:X.Ok
 os:s.os=X.s₀.os
 bare:we s.gens
 base:Un X.fs X.ex X.H₀ H X.s₀.heap s.heap
 loc:∃m,s.heap.Ns X.env.locals m/\∀(i:Nat) (x:Str) (v:V),X.N[i]?=la x->σ[i]?=la (la v)->gq X.env.scope x->∃u,RelV v u/\Look X.env s.heap m x u
 cell:∀x c,X.env.cells.lookup x=la c->∃v,s.heap.IsCell c v
 free:H X.env.locals=Aa
 freeC:∀x c,X.env.cells.lookup x=la c->H c=Aa
 pin:∀p∈X.pn++pins,s.heap.get? p.1=la p.2/\H p.1=Aa/\p.1≠X.env.locals/\p.1∉X.fs/\∀v,p.2.data≠.cell v
 hok:Xd X.prog X.w H s.heap
 len:σ.length=X.N.length

section
variable {X:Cx}{pins:List (Ca×Obj)}{σ:List (Option V)}{H H':Hp}{s:Ia}{h':Xa}

def Cx.Ok.nofr  (ok:X.Ok)(e:X.base.get? b=la o):b∉X.fs:=λj=>by
 have:=(ok.funs.mem j).1;rw[e]at this;cases this
def Oa.bs  (I:Oa X pins σ H s):∀b o,X.base.get? b=la o->s.heap.get? b=la o/\H b=Aa:=λb o e=>
 ⟨I.base.keep b o (I.ok.bs b o e).1 (I.ok.bs b o e).2 (I.ok.nofr e) (I.ok.noex b o e),I.base.free b o (I.ok.bs b o e).1 (I.ok.bs b o e).2 (I.ok.noex b o e)⟩
def Oa.bk  (I:Oa X pins σ H s):∀b o,X.base.get? b=la o->s.heap.get? b=la o:=λb o e=>(I.bs b o e).1
def Oa.mod  (I:Oa X pins σ H s):Mod X.K X.mg X.base:=I.ok.mod
def Oa.kIn  (I:Oa X pins σ H s):X.K.In s.heap:=I.ok.mod.kin.keeps I.bk
def Oa.lt  (I:Oa X pins σ H s):X.env.locals<s.heap.objs.size:=let ⟨_,j,_⟩:=I.loc;j.lt
def Oa.sz  (I:Oa X pins σ H s):X.s₀.heap.objs.size<=s.heap.objs.size:=Fb I.ok.above (Ki I.lt)
def Oa.nofs  (I:Oa X pins σ H s){a:Ca}(h:s.heap.objs.size<=a):a∉X.fs:=λq=>by
 obtain⟨_,o,j,_⟩:=I.ok.funs.mem q;exact absurd (bf (Kc j) (Fb I.sz h)) (Hh _)
def Oa.cne  (I:Oa X pins σ H s):∀x c,X.env.cells.lookup x=la c->c≠X.env.locals:=λx c e z=>by
 obtain⟨v,o,y,hd⟩:=I.cell x c e;obtain⟨m,⟨F,O,J,j,q,_⟩,_⟩:=I.loc;rw[z,j]at y;cases y;rw[q]at hd;cases hd
theorem Oa.funs  (I:Oa X pins σ H s):s.heap.FunFrames X.base X.outer:=by
 have all:∀(l:List Env),(∀b∈Ef l,b∈X.fs)->X.s₀.heap.FunFrames X.base l->s.heap.FunFrames X.base l:=by
  intro l
  induction l with
  |nil=>intro _ _;trivial
  |cons Y r J=>
   intro y F;obtain⟨hk,⟨L,o,q,R,O,hd⟩,Z⟩:=F;have hL:L∈X.fs:=y L (by unfold Ef;rw[Tu,q];exact cf)
   obtain⟨sl,e⟩:=I.base.slot L o O (I.ok.frf L hL) hL λz=>I.ok.exfs L z hL;exact⟨hk,⟨L,_,q,R,e,hd⟩,J (λb j=>y b (by unfold Ef;rw[Tu,q];exact Pd _ j)) Z⟩
 exact all X.outer (λ_ j=>j) I.ok.funs

def Oa.stack  (I:Oa X pins σ H s):s.heap.FunFrames X.base X.stack:=by
 rcases I.ok.stk with e|⟨e,hf⟩
 ·rw[e];exact I.funs
 ·rw[e];obtain⟨m,j,_⟩:=I.loc;refine .cons (by rw[I.ok.kind];decide) hf j ?_ I.funs
  exact Xa.get?_none_of_le (Fb I.ok.bsz I.ok.above)
def Oa.stkSub  (I:Oa X pins σ H s):∀b∈Ef X.stack,b∈X.env.locals::X.fs:=λb j=>by
 rcases I.ok.stk with e|⟨e,hf⟩
 ·rw[e]at j;exact Pd _ j
 ·rw[e]at j;unfold Ef at j;rw[Tu,hf]at j;exact j
def Oa.stkFree  (I:Oa X pins σ H s):∀b∈Ef X.stack,H b=Aa:=λb j=>by
 rcases Ic.mp (I.stkSub b j)with e|j
 ·rw[e];exact I.free
 ·obtain⟨_,o,q,_⟩:=I.ok.funs.mem j;exact I.base.free b o q (I.ok.frf b j) λz=>I.ok.exfs b z j

def Oa.step     {ch:List Ca}(I:Oa X pins σ H s)
  (F:∀b∈ch,(b∈X.ex\/X.s₀.heap.objs.size<=b)/\b≠X.env.locals/\(∀x c,X.env.cells.lookup x=la c->c≠b)/\∀p∈X.pn++pins,p.1≠b)
  (keep:∀b o,b≠X.env.locals->b∉X.fs->b∉ch->s.heap.get? b=la o->H b=Aa->h'.get? b=la o)
  (slot:∀b o,b≠X.env.locals->b∈X.fs->b∉ch->s.heap.get? b=la o->H b=Aa->∃sl,h'.get? b=la { o with slots:=sl }) (free:∀b o,b∉ch->s.heap.get? b=la o->H b=Aa->H' b=Aa)
  (there:∀b o,b∉ch->s.heap.get? b=la o->∃o',h'.get? b=la o')
  (tups:∀b xs,H b=la (.tup xs)->H' b=la (.tup xs)) (frzs:∀b o u,H b=la (.frz o u)->H' b=la (.frz o u)) (tbls:∀b ps,H b=la (.tbl ps)->∃za,H' b=la (.tbl (ps++za)))
  (ns:∀m,s.heap.Ns X.env.locals m->h'.Ns X.env.locals m) (ja:Xd X.prog X.w H' h') (hg:we g') :
  Oa X pins σ H' { s with heap:=h',gens:=g',drawn:=d',toks:=t' }:=by
 have xa:∀b o,X.s₀.heap.get? b=la o->b≠X.env.locals:=λb o e=>re (bf (Kc e) I.ok.above);have O:∀b o,X.s₀.heap.get? b=la o->b∉X.ex->b∉ch:=λb o e j Y=>by
  rcases(F b Y).1 with z|z
  ·exact j z
  ·exact absurd (bf (Kc e) z) (Hh _)
 have J:∀x c,X.env.cells.lookup x=la c->∀v,s.heap.IsCell c v->h'.IsCell c v:=λx c e v ⟨o,Z,hd⟩=>by
  have y:c∉ch:=λz=>(F c z).2.2.1 x c e rfl;by_cases hc:c∈X.fs
  ·obtain⟨sl,q⟩:=slot c o (I.cne x c e) hc y Z (I.freeC x c e);exact⟨_,q,hd⟩
  ·exact⟨o,keep c o (I.cne x c e) hc y Z (I.freeC x c e),hd⟩
 refine⟨I.ok,I.os,hg,⟨λb o e n Y j=>?_,λb o e n Y j=>?_,λb o e n j=>?_,λb o e j=>?_,λb xs e=>tups b xs (I.base.tups b xs e),λb o xs e=>frzs b o xs (I.base.frzs b o xs e),λb ps e=>?_⟩,?_,λx c e=>?_,?_,λx c e=>?_,λp hp=>?_,ja,I.len⟩
 ·exact keep b o (xa b o e) Y (O b o e j) (I.base.keep b o e n Y j) (I.base.free b o e n j)
 ·obtain⟨sl,R⟩:=I.base.slot b o e n Y j;obtain⟨va,e2⟩:=slot b _ (xa b o e) Y (O b o e j) R (I.base.free b o e n j);exact⟨va,e2⟩
 ·obtain⟨o',R⟩:=I.base.there b o e j;exact free b o' (O b o e j) R (I.base.free b o e n j)
 ·obtain⟨o',R⟩:=I.base.there b o e j;exact there b o' (O b o e j) R
 ·obtain⟨m1,R⟩:=I.base.tbls b ps e;obtain⟨m2,e2⟩:=tbls b _ R;exact⟨m1++m2,by rw[e2,Array.append_assoc]⟩
 ·obtain⟨m,hn,hl⟩:=I.loc;refine⟨m,ns m hn,λi x v R e2 e3=>?_⟩;obtain⟨u,r,l⟩:=hl i x v R e2 e3;refine⟨u,r,?_⟩;rcases l with l|⟨k,c,e,z⟩
  ·exact .inl l
  ·exact .inr ⟨k,c,e,J x c e _ z⟩
 ·obtain⟨v,z⟩:=I.cell x c e;exact⟨v,J x c e v z⟩
 ·obtain⟨m,⟨o,_,_,Z,_⟩,_⟩:=I.loc;exact free _ o (λz=>(F _ z).2.1 rfl) Z I.free
 ·obtain⟨v,o,Z,hd⟩:=I.cell x c e;exact free c o (λz=>(F c z).2.2.1 x c e rfl) Z (I.freeC x c e)
 ·obtain⟨e,n,ne,nf,d⟩:=I.pin p hp;have y:p.1∉ch:=λz=>(F p.1 z).2.2.2 p hp rfl;exact⟨keep p.1 p.2 ne nf y e n,free p.1 p.2 y e n,ne,nf,d⟩
def Oa.un   (I:Oa X pins σ H s)(u:Un X.fs [] H H' s.heap h')(y:Xd X.prog X.w H' h'):Oa X pins σ H' { s with heap:=h',toks:=t' }:=by
 obtain⟨m,⟨o,es,ep,O,r⟩,_⟩:=id I.loc;obtain⟨sl,hL⟩:=u.any O I.free (by simp)
 exact I.step (g':=s.gens) (d':=s.drawn) (ch:=[]) (λ_ z=>nomatch z) (λb o _ q _ e n=>u.keep b o e n q (by simp)) (λb o _ q _ e n=>u.slot b o e n q (by simp)) (λb o _ e n=>u.free b o e n (by simp)) (λb o _ e=>u.there b o e (by simp)) u.tups u.frzs u.tbls (λm' R=>by
  obtain⟨Z,J,F,j,Y⟩:=R;rw[O]at j;cases j;exact⟨_,J,F,hL,Y⟩) y I.bare
def Oa.call      (I:Oa X pins σ H s)(u:Un (Ef X.stack) ch H H' s.heap h')(F:Xd X.prog X.w H' h')(hg:we g')
  (y:∀b∈ch,(b∈X.ex\/X.s₀.heap.objs.size<=b)/\b≠X.env.locals/\(∀x c,X.env.cells.lookup x=la c->c≠b)/\∀p∈X.pn++pins,p.1≠b) :
  Oa X pins σ H' { s with heap:=h',gens:=g',drawn:=d',toks:=t' }:=by
 obtain⟨m,⟨o,es,ep,R,r⟩,_⟩:=id I.loc;obtain⟨sl,hL⟩:=u.any R I.free λz=>(y _ z).2.1 rfl;exact I.step (ch:=ch) y (λb o hL Z j e n=>u.keep b o e n (λz=>(Ic.mp (I.stkSub b z)).elim hL Z) j) (λb o _ _ j e n=>u.any e n j) (λb o j e n=>u.free b o e n j) (λb o j e=>u.there b o e j) u.tups u.frzs u.tbls (λm' Y=>by
  obtain⟨o',O,J,q,r'⟩:=Y;rw[R]at q;cases q;exact⟨_,O,J,hL,r'⟩) F hg
def Oa.turned    (I:Oa X pins σ H s)(k:∀b o,b≠it->s.heap.get? b=la o->h'.get? b=la o)(hn:H it=Aa)(hL:it≠X.env.locals)
  (h1:it∈X.ex\/X.s₀.heap.objs.size<=it) (Y:∀x c,X.env.cells.lookup x=la c->c≠it) (h3:∀p∈X.pn++pins,p.1≠it):Oa X pins σ H { s with heap:=h',toks:=t' }:=by
 have y:∀b u,H b=la u->b≠it:=λb u e z=>by rw[z,hn]at e;cases e
 refine I.step (g':=s.gens) (d':=s.drawn) (ch:=[it]) (λb J=>?_) (λb o _ _ j e _=>k b o (λz=>j (by simp[z])) e) (λb o _ _ j e _=>⟨o.slots,k b o (λz=>j (by simp[z])) e⟩) (λ_ _ _ _ n=>n)
  (λb o j e=>⟨o,k b o (λz=>j (by simp[z])) e⟩) (λ_ _ e=>e) (λ_ _ _ e=>e) (λb ps e=>⟨#[],by rw[e];simp⟩) (λm F=>?_) (λb u e=>?_) I.bare
 ·have e:b=it:=by simpa using J
  subst e;exact⟨h1,hL,Y,h3⟩
 ·obtain⟨o,Z,O,R,r⟩:=F;exact⟨o,Z,O,k _ o (Qa hL) R,r⟩
 ·refine(I.hok b u e).stay (λc v j q=>k c v ?_ q) (λ_ q=>q) λ_ _ q=>q;rcases j with z|z
  ·rw[z];exact y b u e
  ·exact y c _ z
def Oa.tok  (I:Oa X pins σ H s) t:Oa X pins σ H { s with toks:=t }:=I.un (h':=s.heap) (t':=t) Un.refl I.hok
def Oa.kept   (I:Oa X pins σ H s)(k:∀b u,s.heap.get? b=la u->h'.get? b=la u):Oa X pins σ H { s with heap:=h',toks:=t' }:=I.un (Un.kept k) (I.hok.kept k)
def Oa.laid  {a:Ca}(I:Oa X pins σ H s)(k:∀b u,s.heap.get? b=la u->h'.get? b=la u)(j:s.heap.objs.size<=a)(new:je X.prog X.w (upd H a o) h' a o) :
  Oa X pins σ (upd H a o) { s with heap:=h',toks:=t' }:=I.un (Un.laid k j (I.hok.fresh j)) (I.hok.laid k j new)
def Oa.write     (I:Oa X pins σ H s)(y:iq (H x))(q:e=x\/H e=la (.own x))(k:∀b u,b≠e->s.heap.get? b=la u->h'.get? b=la u)(j:∃u,h'.get? e=la u)
  (new:je X.prog X.w (upd H x o) h' x o):Oa X pins σ (upd H x o) { s with heap:=h',toks:=t' }:=I.un (Un.write y q k j) (I.hok.write y q k j new)
def Oa.pins_of  {j:List (Ca×Obj)}(I:Oa X pins σ H s)(h:∀p∈j,s.heap.get? p.1=la p.2/\H p.1=Aa/\p.1≠X.env.locals/\p.1∉X.fs/\∀v,p.2.data≠.cell v):Oa X j σ H s:=
 ⟨I.ok,I.os,I.bare,I.base,I.loc,I.cell,I.free,I.freeC,λp q=>(Fa.mp q).elim (λz=>I.pin p (Cf _ z)) (h p),I.hok,I.len⟩

def aD  {N:List Str}(q:N.Nodup){i j:Nat}(a:N[i]?=la x)(b:N[j]?=la x):i=j:=by
 obtain⟨F,f⟩:=Ba.mp a;obtain⟨z,y⟩:=Ba.mp b;exact(List.getElem_inj q).mp (f.trans y.symm)

section
variable {M:Model}{A:Ac}{E:Da->Ia->Prop}{i:Nat}{x:Str}{v:V}{u:Da}{Q:Unit->Ia->Prop}
def kE (I:Oa X pins σ H s)(hN:X.N.Nodup)(hi:X.N[i]?=la x)(R:Nl X.env.scope x)(r:RelV v u)
  (h:∀s',Oa X pins (σ.set i (la v)) H s'->(∃a,Em a s.heap s'.heap/\(a=X.env.locals\/X.env.cells.lookup x=la a))->Q () s') (hf:X.fn x=ma\/X.env.scope.names.lookup x=la .local:=by first|exact .inl rfl|exact .inr rfl|assumption):wpAny M A (bv X.env x u) Q E s:=by
 obtain⟨m,hn,hl⟩:=id I.loc;have va:(X.env.scope.kind == .class||(X.env.scope.kind == .module&&X.env.locals != X.env.globals))=ua:=by rw[I.ok.kind];rfl
 have xa:i<σ.length:=by rw[I.len];exact(Ba.mp hi).1
 have cne:=I.cne;have F:∀{a:Ca} {h':Xa},(∃o,s.heap.get? a=la o/\H a=Aa)->Em a s.heap h'->Xd X.prog X.w H h':=λ{a h'} ha f b ob e=>by
  obtain⟨_,_,Y⟩:=ha;refine(I.hok b ob e).stay (λc w' O q=>(f.2 c ?_).trans q) (λ_ q=>q) λ_ _ q=>q;rintro rfl;rcases O with rfl|O
  ·rw[Y]at e;cases e
  ·rw[Y]at O;cases O
 rcases R with hk|hk
 ·refine wpAny_storeName_local hk hn (λh' xb f=>?_) va;obtain⟨oL,_,_,zb,_⟩:=id hn;refine h _ ⟨I.ok,I.os,I.bare,⟨λb o e n hb R=>?_,λb o e n hb R=>?_,I.base.free,λb o e R=>?_,I.base.tups,I.base.frzs,I.base.tbls⟩,⟨_,xb,λj y v' J Z e3=>?_⟩,λy c e=>?_,I.free,I.freeC,λp hp=>?_,F ⟨oL,zb,I.free⟩ f,by simpa using I.len⟩ ⟨_,f,.inl rfl⟩
  ·exact(f.2 b (re (bf (Kc e) I.ok.above))).trans (I.base.keep b o e n hb R)
  ·obtain⟨sl,J⟩:=I.base.slot b o e n hb R;exact⟨sl,(f.2 b (re (bf (Kc e) I.ok.above))).trans J⟩
  ·obtain⟨o',J⟩:=I.base.there b o e R;exact⟨o',(f.2 b (re (bf (Kc e) I.ok.above))).trans J⟩
  ·by_cases hj:j=i
   ·subst hj;rw[hi]at J;cases J;rw[Dl xa]at Z;cases Z;exact⟨u,r,.inl ⟨hk,by simp⟩⟩
   ·rw[Cj (Qa hj)]at Z;obtain⟨u',r',q⟩:=hl j y v' J Z e3;refine⟨u',r',?_⟩;rcases q with⟨k,e⟩|⟨k,c,e,z⟩
    ·refine .inl ⟨k,?_⟩;have:y≠x:=λe=>hj (aD hN J (e ▸ hi));simp[this,e]
    ·exact .inr ⟨k,c,e,z.sameBut f (cne y c e)⟩
  ·obtain⟨w',z⟩:=I.cell y c e;exact⟨w',z.sameBut f (cne y c e)⟩
  ·obtain⟨e,n,ne,nf,d⟩:=I.pin p hp;exact⟨(f.2 p.1 ne).trans e,n,ne,nf,d⟩
 ·have za:X.fn x=ma:=by
   rcases hf with z|z
   ·exact z
   ·rw[z]at hk;cases hk
  obtain⟨c,O⟩:=I.ok.has x (.inl hk);obtain⟨w',z⟩:=I.cell x c O;refine wpAny_storeName_cell I.ok.kind hk O z (λh' wa f=>?_);obtain⟨oc,ya,ka⟩:=id z;refine h { s with heap:=h' } ⟨I.ok,I.os,I.bare,⟨λb o e n hb R=>?_,λb o e n hb R=>?_,I.base.free,λb o e R=>?_,I.base.tups,I.base.frzs,I.base.tbls⟩,⟨m,hn.sameBut f (Qa (cne x c O)),λj y v' J Z e3=>?_⟩,λy c' e=>?_,I.free,I.freeC,λp hp=>?_,F ⟨oc,ya,I.freeC x c O⟩ f,by simpa using I.len⟩ ⟨c,f,.inr O⟩
  ·exact(f.2 b (re (bf (Kc e) (I.ok.cab x c za O)))).trans (I.base.keep b o e n hb R)
  ·obtain⟨sl,J⟩:=I.base.slot b o e n hb R;exact⟨sl,(f.2 b (re (bf (Kc e) (I.ok.cab x c za O)))).trans J⟩
  ·obtain⟨o',J⟩:=I.base.there b o e R;exact⟨o',(f.2 b (re (bf (Kc e) (I.ok.cab x c za O)))).trans J⟩
  ·by_cases hj:j=i
   ·subst hj;rw[hi]at J;cases J;rw[Dl xa]at Z;cases Z;exact⟨u,r,.inr ⟨.inl hk,c,O,wa⟩⟩
   ·rw[Cj (Qa hj)]at Z;obtain⟨u',r',q⟩:=hl j y v' J Z e3;refine⟨u',r',?_⟩;rcases q with q|⟨k,c',e,z'⟩
    ·exact .inl q
    ·refine .inr ⟨k,c',e,z'.sameBut f ?_⟩;rintro rfl;exact hj (aD hN J (I.ok.inj _ _ _ e O ▸ hi))
  ·by_cases ja:c'=c
   ·subst ja;exact⟨_,wa⟩
   ·obtain⟨w2,z2⟩:=I.cell y c' e;exact⟨w2,z2.sameBut f ja⟩
  ·obtain⟨e,n,ne,nf,d⟩:=I.pin p hp;refine⟨(f.2 p.1 ?_).trans e,n,ne,nf,d⟩;intro q;rw[q,ya]at e;have q':oc=p.2:=Zc e;exact d w' (by rw[<- q'];exact ka)
def At (I:Oa X pins σ H s)(y:X.N.Nodup)(hi:X.N[i]?=la x)(j:Nl X.env.scope x)(r:RelV v u)
  (h:∀f,Oa X pins (σ.set i (la v)) H f->Q () f) (q:X.fn x=ma\/X.env.scope.names.lookup x=la .local:=by first|exact .inl rfl|exact .inr rfl|assumption):wpAny M A (bv X.env x u) Q E s:=
 kE I y hi j r (λf z _=>h f z) q
end
def Oa.call'    (I:Oa X pins σ H s)(J:j.os=s.os)(u:Un (Ef X.stack) ch H H' s.heap j.heap)(q:Xd X.prog X.w H' j.heap)(O:we j.gens)
  (y:∀b∈ch,(b∈X.ex\/X.s₀.heap.objs.size<=b)/\b≠X.env.locals/\(∀x c,X.env.cells.lookup x=la c->c≠b)/\∀p∈X.pn++pins,p.1≠b):Oa X pins σ H' j:=by
 obtain⟨R,g',d',t',F⟩:=j;have e:F=s.os:=J;subst e;exact I.call (g':=g') (t':=t') (d':=d') u q O y
end

abbrev XK:=Da->Option Ca->Hp->Prop
abbrev St:=List (Option V)
abbrev VK:=V->Hp->Prop
abbrev TE:=St->Hp->VK->Prop
abbrev TT:=St->Hp->(Bool->Hp->Prop)->Prop
abbrev TA:=St->Hp->(List V->Hp->Prop)->Prop
structure Ends where
 nx:St->Hp->Prop
 rt:VK
 bk:St->Hp->Prop:=λ_ _=>False
 ct:St->Hp->Prop:=λ_ _=>False
abbrev TS:=Ends->St->Hp->Prop

def EP  (X:Cx)(pins:List (Ca×Obj))(j:St)(Q:VK)(u:Da)(q:Ia):Prop:=∃v f,Oa X pins j f q/\RelV v u/\Q v f
def TP  (X:Cx)(pins:List (Ca×Obj))(j:St)(Q:Bool->Hp->Prop)(b:Bool)(q:Ia):Prop:=∃f,Oa X pins j f q/\Q b f
def AP  (X:Cx)(pins:List (Ca×Obj))(q:St)(Q:List V->Hp->Prop)(us:List Da)(y:Ia):Prop:=∃f j,Oa X pins q j y/\Vals f us/\Q f j
def SP  (X:Cx)(pins:List (Ca×Obj))(D:Ends)(f:Flow)(y:Ia):Prop:=
 match f with
 |.next=>∃j q,Oa X pins j q y/\D.nx j q
 |.brk=>∃j q,Oa X pins j q y/\D.bk j q
 |.cont=>∃j q,Oa X pins j q y/\D.ct j q
 |.ret u=>∃v j q,Oa X pins j q y/\RelV v u/\D.rt v q

def PE  (X:Cx)(e:La)(t:TE):Prop:=
 ∀(f:List (Ca×Obj)) (s:Ia) (σ:St) (H:Hp) (Q:VK),Oa X f σ H s->t σ H Q->wpAny (Ja X.prog X.w) X.A (Ib e X.env) (EP X f σ Q) X.xe s
def PT  (X:Cx)(e:La)(t:TT):Prop:=
 ∀(f:List (Ca×Obj)) (s:Ia) (σ:St) (H:Hp) (Q:Bool->Hp->Prop),Oa X f σ H s->t σ H Q->wpAny (Ja X.prog X.w) X.A (yf e X.env (Ib e X.env)) (TP X f σ Q) X.xe s
def PW  (X:Cx)(e:La)(t:TT):Prop:=
 ∀(f:Sem Da) (pins:List (Ca×Obj)) (s:Ia) (σ:St) (H:Hp) (Q:Bool->Hp->Prop),Oa X pins σ H s->t σ H Q->wpAny (Ja X.prog X.w) X.A (yf e X.env f) (TP X pins σ Q) X.xe s
def PW.pt     (h:PW X e t):PT X e t:=h _
def PA  (X:Cx)(j:List La)(t:TA):Prop:=
 ∀(f:Pos) (pins:List (Ca×Obj)) (s:Ia) (σ:St) (H:Hp) (Q:List V->Hp->Prop),Oa X pins σ H s->t σ H Q->wpAny (Ja X.prog X.w) X.A (spliced (Sc f (md j X.env))) (AP X pins σ Q) X.xe s
def PS  (X:Cx)(st:Pa)(t:TS):Prop:=
 ∀(f:List (Ca×Obj)) (s:Ia) (σ:St) (H:Hp) (D:Ends),Oa X f σ H s->t D σ H->wpAny (Ja X.prog X.w) X.A (exec st X.env) (SP X f D) X.xe s
def xf  (X:Cx)(st:List Pa)(t:TS):Prop:=
 ∀(f:List (Ca×Obj)) (s:Ia) (σ:St) (H:Hp) (D:Ends),Oa X f σ H s->t D σ H->wpAny (Ja X.prog X.w) X.A (execs st X.env) (SP X f D) X.xe s
def Pb    {Q f:α->Ia->Prop}(h:wpAny M A t Q E s)(j:∀a s,Q a s->f a s):wpAny M A t f E s:=ng h j λ_ _ x=>x
section
variable {X:Cx}

def tVar  (i:Nat):TE:=λf H Q=>∃v,f[i]?=la (la v)/\Q v H
def tC  (v:V):TE:=λ_ H Q=>Q v H
def VO {i:Nat}{x:Str}{q:Pos}(R:X.N[i]?=la x)(z:gq X.env.scope x)(hd:(x==("__debug__" : Str))=ua:=by decide)(y:(x==("__classdict__" : Str))=ua:=by decide):PE X (.Name x q) (tVar i):=by
 intro j s O H Q I h;obtain⟨v,e,h⟩:=h;obtain⟨m,Y,J⟩:=I.loc;obtain⟨u,r,l⟩:=J i x v R e z;have f:EP X j O Q u s:=⟨v,H,I,r,h⟩;rcases l with⟨hk,F⟩|⟨hk,c,hc,hcell⟩
 ·exact Zm (wpAny_loadName_local I.ok.kind hk Y F f) hd
 ·rcases hk with hk|hk
  ·exact Zm (wpAny_loadName_cell I.ok.kind hk hc hcell f) hd
  ·exact Zm (wpAny_loadName_free I.ok.kind hk hc hcell f y) hd
def fN   : PE X (.Constant (.int i) j pos) (tC (.int i)):=λ_ _ _ H _ I h=>wpAny_Constant_int ⟨.int i,H,I.tok _,⟨_,rfl⟩,h⟩
def NK   : PE X (.Constant (.bool b) j pos) (tC (.bl b)):=λ_ _ _ H _ I h=>Constant_bool ⟨.bl b,H,I,rfl,h⟩
def jN   : PE X (.Constant .none j pos) (tC .non):=λ_ _ _ H _ I h=>Constant_none ⟨.non,H,I,rfl,h⟩
def SO   : PE X (.Constant (.str x) j pos) (tC (.str x)):=λ_ _ _ H _ I h=>Calls.Constant_str ⟨.str x,H,I.tok _,⟨_,rfl⟩,h⟩

def Gl  (X:Cx)(x:Str):Prop:=X.env.kindOf x=la .globalImplicit
section
variable {E:Da->Ia->Prop}{pins:List (Ca×Obj)}{s:Ia}{σ:St}{H:Hp}{x:Str}{u:Da}{pos:Pos}{Q:Da->Ia->Prop}
def Sw (I:Oa X pins σ H s)(j:Gl X x)(f:X.mg x=la u)(h:Q u s)
  (hd:(x==("__debug__" : Str))=ua:=by decide):wpAny (Ja X.prog X.w) X.A (Ib (.Name x pos) X.env) Q E s:=
 QI I.ok.kind j (Calls.loadGlobal_global (by rw[I.ok.glob];exact I.mod.glob.keeps I.bk) f h) hd
def Rk (I:Oa X pins σ H s)(y:Gl X x)(j:X.mg x=Aa)(f:Pi x=la u)(h:Q u s)
  (z:x ≠ "__name__" := by decide) (hd:(x==("__debug__" : Str))=ua:=by decide):wpAny (Ja X.prog X.w) X.A (Ib (.Name x pos) X.env) Q E s:=by
 obtain⟨J,F,q⟩:=I.mod.blt;exact QI I.ok.kind y (Calls.loadGlobal_builtin (by rw[I.ok.glob];exact I.mod.glob.keeps I.bk) j (by rw[I.ok.blt];exact F.keeps I.bk) ((q x z).trans f) h) hd
end
section
variable {x:Str}{v:V}{u:Da}{pos:Pos}
def CP (j:Gl X x)(f:X.mg x=la u)(r:RelV v u)(hd:(x==("__debug__" : Str))=ua:=by decide):PE X (.Name x pos) (tC v):=
 λ_ _ _ H _ I h=>Sw I j f ⟨v,H,I,r,h⟩ hd
def yP (q:Gl X x)(y:X.mg x=Aa)(f:Pi x=la u)(r:RelV v u)(j:x ≠ "__name__" := by decide)(hd:(x==("__debug__" : Str))=ua:=by decide):PE X (.Name x pos) (tC v):=
 λ_ _ _ H _ I h=>Rk I q y f ⟨v,H,I,r,h⟩ j hd

end
def tB  (t:TE):TT:=λf H Q=>t f H λx j=>∃c,x=.bl c/\Q c j

def tAnd  (t u:TT):TT:=λf H Q=>t f H λc j=>if c=ma then u f j Q else Q ua j
def PJ  (t u:TT):TT:=λf H Q=>t f H λc j=>if c=ma then Q ma j else u f j Q
def tNot  (t:TT):TT:=λf H Q=>t f H λc j=>Q (!c) j
def pw_and1  (q:PT X a j):PW X (.BoolOp .And [a] pos) j:=by
 intro z f s y H Q I h;refine isTrue_and (Pb (q f s y H Q I h) λc s1 e=>?_);cases c with
 |true=>exact isTrue_and_nil e
 |false=>exact e
def pw_or1  (q:PT X a j):PW X (.BoolOp .Or [a] pos) j:=by
 intro z f s y H Q I h;refine isTrue_or (Pb (q f s y H Q I h) λc s1 e=>?_);cases c with
 |false=>exact isTrue_or_nil e
 |true=>exact e
def pw_and  {rest: List La}(R:PT X a F)(O:PW X (.BoolOp .And (b::rest) pos) j):PW X (.BoolOp .And (a::b::rest) pos) (tAnd F j):=by
 intro J f s q H Q I h;refine isTrue_and (Pb (R f s q H _ I h) λc s1 ⟨z,y,q1⟩=>?_);cases c with
 |true=>exact O J f s1 q z Q y q1
 |false=>exact⟨z,y,q1⟩
def pw_or  {rest: List La}(R:PT X a F)(O:PW X (.BoolOp .Or (b::rest) pos) j):PW X (.BoolOp .Or (a::b::rest) pos) (PJ F j):=by
 intro J f s q H Q I h;refine isTrue_or (Pb (R f s q H _ I h) λc s1 ⟨z,y,q1⟩=>?_);cases c with
 |true=>exact⟨z,y,q1⟩
 |false=>exact O J f s1 q z Q y q1
def xO  (q:PT X a j):PT X (.UnaryOp .Not a pos) (tNot j):=by
 intro f s y H Q I h;exact isTrue_not (q f s y H (λc z=>Q (!c) z) I h)
def YB    (h:PE X a t):PE X (.BoolOp op [a] pos) t:=λf s j H Q I q=>BoolOp_one (h f s j H Q I q)
def QJ  (t:TT)(q tb:TE):TE:=λf H Q=>t f H λc j=>if c=ma then q f j Q else tb f j Q
def AR   (z:PT X c F)(O:PE X a ta)(J:PE X b tb):PE X (.IfExp c a b pos) (QJ F ta tb):=by
 intro f s j H Q I h;refine wpAny_IfExp (Pb (z f s j H _ I h) λd s1 ⟨y,q,q1⟩=>?_);cases d with
 |true=>exact O f s1 j y Q q q1
 |false=>exact J f s1 j y Q q q1
end

def Nd  (K:Lb)(H:Hp)(a:Ca)(xs:List V):Prop:=
 Rd H a (.lst xs)\/
  ∃(o:Obj) (its:Array Da) (n:Nat),K.lookup a=la o/\o.cls=.type "list" /\ o.dict=Aa/\o.data=.seq its n/\its.size<=Za/\Vals xs its.toList
def td  (K:Lb)(H:Hp)(a:Ca)(xs:List V):Prop:=
 Rd H a (.tup xs)\/
  ∃(o:Obj) (its:Array Da) (n:Nat),K.lookup a=la o/\o.cls=.type "tuple" /\ o.data=.seq its n/\its.size<=Za/\Vals xs its.toList
noncomputable def absV  : Da->Option V
 |.none=>la .non
 |.bool b=>la (.bl b)
 |.int i _=>la (.int i)
 |.str x _=>la (.str x)
 |.bytes b _=>la (.byt b)
 |.float b _=>la (.flt b)
 |.ref a=>la (.ref a)
 |.type n=>la (.ty n)
 |_=>Aa
def RelV.abs    (r:RelV x u):absV u=la x:=by
 cases x with
 |non=>cases r;rfl
 |bl _=>cases r;rfl
 |int _=>obtain⟨t,rfl⟩:=r;rfl
 |str _=>obtain⟨t,rfl⟩:=r;rfl
 |byt _=>obtain⟨t,rfl⟩:=r;rfl
 |flt _=>obtain⟨t,rfl⟩:=r;rfl
 |ref _=>cases r;rfl
 |ty _=>cases r;rfl
def RelV.inj    (r:RelV x u)(q:RelV y u):x=y:=Zc (r.abs.symm.trans q.abs)
theorem Vals.inj  : ∀{xs ys } {us },Vals xs us->Vals ys us->xs=ys
 |_,_,_,.nil,.nil=>rfl
 |_,_,_,.cons r t,.cons r' t'=>by rw[r.inj r',Vals.inj t t']

def Nd.of  {K:Lb}(h:H a=la (.lst xs)):Nd K H a xs:=.inl (.inl h)
def td.of  {K:Lb}(h:H a=la (.tup xs)):td K H a xs:=.inl (.inl h)
def Oa.list  {q: St}(I:Oa X pins q H s)(h:Nd X.K H a xs):∃j ,Vals xs j/\nn s.heap a j.toArray/\xs.length<=Za:=by
 rcases h with h|⟨o,j,n,hk,hc,hd,hs,hz,r⟩
 ·obtain⟨z,j,n,r,e⟩:=h.ok I.hok;exact⟨j,r,⟨_,n,e,rfl,rfl,rfl⟩,z⟩
 ·refine⟨j.toList,r,⟨o,n,I.kIn a o hk,hc,hd,by simpa using hs⟩,?_⟩
  have e:=r.length;simp only[Al]at e
  lia
def Oa.tuple  {q: St}(I:Oa X pins q H s)(h:td X.K H a xs):∃j ,Vals xs j/\Rh s.heap a j.toArray/\xs.length<=Za:=by
 rcases h with h|⟨o,j,n,hk,hc,hs,hz,r⟩
 ·obtain⟨z,j,r,p⟩:=h.ok I.hok;exact⟨j,r,p.tup,z⟩
 ·refine⟨j.toList,r,⟨o,I.kIn a o hk,hc,n,by simpa using hs⟩,?_⟩
  have e:=r.length;simp only[Al]at e
  lia
def Oa.list_inj  {J: St}(I:Oa X pins J H s)(h:Nd X.K H a xs)(h':Nd X.K H a ys):xs=ys:=by
 obtain⟨q,r,⟨o,n,e,_,_,d⟩,_⟩:=I.list h;obtain⟨j,O,⟨R,Y,y,_,_,F⟩,_⟩:=I.list h';rw[e]at y;cases y;rw[d]at F;injection F with d1 _
 have:q=j:=by simpa using congrArg Array.toList d1
 subst this;exact r.inj O
def Oa.tuple_inj  {J: St}(I:Oa X pins J H s)(h:td X.K H a xs)(h':td X.K H a ys):xs=ys:=by
 obtain⟨q,r,⟨o,e,_,n,d⟩,_⟩:=I.tuple h;obtain⟨j,O,⟨R,y,_,Y,F⟩,_⟩:=I.tuple h';rw[e]at y;cases y;rw[d]at F;injection F with d1 _
 have:q=j:=by simpa using congrArg Array.toList d1
 subst this;exact r.inj O

noncomputable abbrev Cx.wish  (X:Cx)(E:Da->Ia->Prop):Cx:={ X with xe:=E }
def Cx.Ok.wish  {X:Cx}(ok:X.Ok) E:(X.wish E).Ok:=
 ⟨ok.mod,ok.kind,ok.glob,ok.blt,ok.above,ok.inj,ok.has,ok.cab,ok.hd,ok.frames,ok.stk,ok.exf,ok.bs,ok.bsz,ok.noex,ok.exfs,ok.funs,ok.frf⟩
def Cx.Ok.unwish  {X:Cx}(ok:(X.wish E).Ok):X.Ok:=
 ⟨ok.mod,ok.kind,ok.glob,ok.blt,ok.above,ok.inj,ok.has,ok.cab,ok.hd,ok.frames,ok.stk,ok.exf,ok.bs,ok.bsz,ok.noex,ok.exfs,ok.funs,ok.frf⟩
section
variable {X:Cx}{pins:List (Ca×Obj)}{σ:St}{H:Hp}{s:Ia}{E:Da->Ia->Prop}
def Oa.wish  (I:Oa X pins σ H s) E:Oa (X.wish E) pins σ H s:=⟨I.ok.wish E,I.os,I.bare,I.base,I.loc,I.cell,I.free,I.freeC,I.pin,I.hok,I.len⟩
def Oa.unwish  (I:Oa (X.wish E) pins σ H s):Oa X pins σ H s:=⟨I.ok.unwish,I.os,I.bare,I.base,I.loc,I.cell,I.free,I.freeC,I.pin,I.hok,I.len⟩
theorem SP.unwish     (h:SP (X.wish E) pins D f F):SP X pins D f F:=by
 cases f with
 |next=>obtain⟨j,y,I,q⟩:=h;exact⟨j,y,I.unwish,q⟩
 |brk=>obtain⟨j,y,I,q⟩:=h;exact⟨j,y,I.unwish,q⟩
 |cont=>obtain⟨j,y,I,q⟩:=h;exact⟨j,y,I.unwish,q⟩
 |ret u=>obtain⟨v,j,y,I,r,q⟩:=h;exact⟨v,j,y,I.unwish,r,q⟩
end

section
variable {X:Cx}{st:Pa}{rest:List Pa}{t u:TS}{e:La}{te:TE}{pos:Pos}
def ZL  : TS:=λD f H=>D.nx f H
def tSeq  (t u:TS):TS:=λD f H=>t { D with nx:=u D } f H
def vQ  : xf X [] ZL:=λ_ _ f H _ I h=>Qy ⟨f,H,I,h⟩
def BS  (R:PS X st t)(J:xf X rest u):xf X (st::rest) (tSeq t u):=by
 intro j s F H D I h;refine wpAny_execs_cons (Pb (R j s F H { D with nx:=u D } I h) λf s1 q=>?_)
 cases f with
 |next=>
  obtain⟨y,z,O,q⟩:=q;exact J j s1 y z D O q
 |ret v=>exact q
 |brk=>exact q
 |cont=>exact q
def Oa.quiet   {j:St}(I:Oa X pins j H s):interactive X.env=ua:=by simp[interactive,I.ok.kind]
def YL  (j:TE):TS:=λD f H=>j f H λ_ q=>D.nx f q
def eR (q:PE X e te)(hs:yj e Aa pos.line X.env=pure ua:=by rfl):PS X (.Expr e pos) (YL te):=by
 intro f s j H D I h;exact wpAny_Expr_any (Pb (q f s j H _ I h) λv s1 ⟨x,z,y,r1,q1⟩=>⟨j,z,y,q1⟩) I.quiet hs
def tRet  (j:TE):TS:=λD f H=>j f H D.rt
def vO  (q:PE X e te):PS X (.Return (la e) pos) (tRet te):=by
 intro f s j H D I h;exact wpAny_Return_some (Pb (q f s j H _ I h) λv s1 ⟨x,z,y,r1,q1⟩=>⟨x,j,z,y,r1,q1⟩)
def tIfS  (c:TT)(t u:TS):TS:=λD f H=>c f H λb j=>if b=ma then t D f j else u D f j
def WK     (z:PT X c tc)(J:xf X a t)(F:xf X b u):PS X (.If c a b pos) (tIfS tc t u):=by
 intro f s j H D I h;refine wpAny_If (Pb (z f s j H _ I h) λd s1 ⟨y,q,q1⟩=>?_);cases d with
 |true=>exact J f s1 j y D q q1
 |false=>exact F f s1 j y D q q1
end

abbrev TG:=V->St->Hp->(St->Hp->Prop)->Prop
abbrev Kj:=List V->St->Hp->(St->Hp->Prop)->Prop
def PG  (X:Cx)(f:La)(t:TG):Prop:=
 ∀(j:List (Ca×Obj)) (s:Ia) (σ:St) (H:Hp) (v:V) (u:Da) (Q:St->Hp->Prop),Oa X j σ H s->RelV v u->t v σ H Q->
  wpAny (Ja X.prog X.w) X.A (Gc f X.env u) (λ_ z=>∃q y,Oa X j q y z/\Q q y) X.xe s
def yh  (X:Cx)(ts:List La)(t:Kj):Prop:=
 ∀(f:List (Ca×Obj)) (s:Ia) (σ:St) (H:Hp) (vs:List V) (us:List Da) (Q:St->Hp->Prop),Oa X f σ H s->Vals vs us->t vs σ H Q->
  wpAny (Ja X.prog X.w) X.A (Ey ((lg ts X.env).map (·.2)) us) (λ_ y=>∃j q,Oa X f j q y/\Q j q) X.xe s
abbrev TSet:=V->V->V->Hp->(Hp->Prop)->Prop
def PSet  (X:Cx)(t:TSet):Prop:=
 ∀(f:List (Ca×Obj)) (s:Ia) (σ:St) (H:Hp) (o i v:V) (ov iv u:Da) (Q:Hp->Prop),Oa X f σ H s->RelV o ov->RelV i iv->RelV v u->t o i v H Q->
  wpAny (Ja X.prog X.w) X.A (ki ov iv u) (λ_ q=>∃j,Oa X f σ j q/\Q j) X.xe s
abbrev Yu:=V->V->Hp->VK->Prop
def EJ  (X:Cx)(j:ml)(t:Yu):Prop:=
 ∀(f:List (Ca×Obj)) (s:Ia) (σ:St) (H:Hp) (x y:V) (v u:Da) (Q:VK),Oa X f σ H s->RelV x v->RelV y u->t x y H Q->
  wpAny (Ja X.prog X.w) X.A (Am j v u) (EP X f σ Q) X.xe s
section
variable {X:Cx}{pos:Pos}
def Bs  (i:Nat):TG:=λv f H Q=>Q (f.set i (la v)) H
def WQ {i:Nat}{x:Str}(y:X.N.Nodup)(hi:X.N[i]?=la x)(j:Nl X.env.scope x)(q:X.fn x=ma\/X.env.scope.names.lookup x=la .local:=by first|exact .inl rfl|exact .inr rfl|assumption):PG X (.Name x pos) (Bs i):=by
 intro f s F H v u Q I r h;exact wpAny_assign_Name (At I y hi j r (λJ z=>⟨_,H,z,h⟩) q)
def gNil  : Kj:=λf j H Q=>f=[]/\Q j H
def rL  (t:TG)(u:Kj):Kj:=λy j H Q=>∃v r,y=v::r/\t v j H λf q=>u r f q Q
def XQ  : yh X [] gNil:=by
 intro f s j H y q Q I r h;obtain⟨e,h⟩:=h;subst e;cases r;exact assignInOrder_nil ⟨j,H,I,h⟩
def DR {e:La}{j:List La}{t:TG}{u:Kj}(z:PG X e t)(J:yh X j u)
  (hs:(lg (e::j) X.env).map (·.2)=Gc e X.env::(lg j X.env).map (·.2):=by rfl):yh X (e::j) (rL t u):=by
 intro f s F H Z Y Q I r h;obtain⟨v,vr,y,h⟩:=h;subst y;cases r with
 |cons r rr=>
  rw[hs];refine Qz (Pb (z f s F H _ _ _ I r h) λ_ s1 ⟨q,R,O,q1⟩=>?_);exact J f s1 q R _ _ Q O rr q1
def gTup  (K:Lb)(n:Nat)(t:Kj):TG:=λv j H Q=>∃a f,v=.ref a/\td K H a f/\f.length=n/\t f j H Q
def XO {j:List La}{k:Nat}{t:Kj}{n:Nat}(R:X.calm=ma)(h:yh X j t)
  (hn:(lg j X.env).length=n:=by rfl) (y:(lg j X.env).findIdx? (·.1)=Aa:=by rfl):PG X (.Tuple j k pos) (gTup X.K n t):=by
 intro f s z H v u Q I r q;obtain⟨a,xs,O,hq,Z,q⟩:=q;subst O;cases r;obtain⟨xa,F,Y,hz⟩:=I.tuple hq;refine assign_Tuple_tuple (I.ok.hd R) Y (by simp[hn,<- Z,F.length]) y λh' J=>?_
 have I1:Oa X f z H { s with heap:=h' }:=I.kept (t':=s.toks) λb o e=>J b o (re (Kc e)) e
 exact h f _ z H xs _ Q I1 (by simpa using F) q
def gSub  (y j:TE)(t:TSet):TG:=λv f H Q=>y f H λo F=>j f F λi z=>t o i v z λq=>Q f q
def WO {o i:La}{J F:TE}{t:TSet}(Z:PE X o J)(hi:PE X i F)(hs:PSet X t)
  (Y:∀v,Gc (.Subscript o i pos) X.env v=(do
   let j <- Uc [v] (Ib o X.env)
   let q <- Uc [v,j] (Ib i X.env)
   Lf pos
   Uc [v,j,q] (ki j q v)
   release [v,j,q] []):=by intro _;rfl):PG X (.Subscript o i pos) (gSub J F t):=by
 intro f s z H v u Q I r h;rw[Y];refine Ab (Gj (Pb (Z f s z H _ I h) λj s1 ⟨x,H1,I1,r1,q1⟩=>?_));refine Ab (Gj (Pb (hi f s1 z H1 _ I1 q1) λq s2 ⟨y,H2,R,r2,q2⟩=>?_));refine Ab (su (Ab (Gj (Pb (hs f s2 z H2 x y v j q u _ R r1 r2 r q2) λ_ s3 ⟨H3,O,q3⟩=>?_))));exact wpAny_release ⟨z,H3,O,q3⟩
def tAsg  (j:TE)(g:TG):TS:=λD f H=>j f H λx q=>g x f q D.nx
def aC {j e:La}{z:TE}{g:TG}(F:PE X e z)(O:PG X j g)(hs:Ni [j] e pos.line X.env=pure ua:=by rfl)(J:Gh [j] e X.env=pure Aa:=by rfl)
  (Z:(lg [j] X.env).map (·.2)=[Gc j X.env]:=by rfl):PS X (.Assign [j] e pos) (tAsg z g):=by
 intro f s y H D I h;refine wpAny_Assign_stores (Pb (F f s y H _ I h) λv s1 ⟨x,Y,R,r1,q1⟩=>?_) hs J;rw[Z];exact Pb (O f s1 y Y x v _ R r1 q1) λ_ s2 q=>q
def tPar  (i j:Nat)(q:TA):TS:=λD f H=>q f H λy z=>∃v w,y=[v,w]/\D.nx ((f.set i (la v)).set j (la w)) z
def uO {i j:Nat}{x y:Str}{a b:La}{ta:TA}{R py pt:Pos}{Y Z z}(hc:X.calm=ma)(hN:X.N.Nodup)(hi:X.N[i]?=la x)(hj:X.N[j]?=la y)(O:i≠j)
  (hx:X.env.scope.names.lookup x=la .local) (hy:X.env.scope.names.lookup y=la .local) (ha:PA X [a,b] ta)
  (hw:Gh [.Tuple [.Name x R,.Name y py] Y pt] (.Tuple [a,b] Z z) X.env=pure (la [x,y]))
  (hs:Ni [.Tuple [.Name x R,.Name y py] Y pt] (.Tuple [a,b] Z z) pos.line X.env=pure ua:=by rfl) :
  PS X (.Assign [.Tuple [.Name x R,.Name y py] Y pt] (.Tuple [a,b] Z z) pos) (tPar i j ta):=by
 intro f s σ H D I h;rw[exec_Assign_arm];refine Ab (su ?_);rw[hs];refine Ab (fc ?_);rw[if_neg (by decide)]
 refine Ab (Tuple_ (Pb (ha _ f s σ H _ I h) λus s1 ⟨vs,H1,I1,r1,q1⟩=>?_));obtain⟨v,w,e1,q1⟩:=q1;subst e1;obtain⟨F,J,rfl,rv,xa⟩:∃F J,us=[F,J]/\RelV v F/\RelV w J:=by
  cases r1 with
  |cons p q=>
   cases q with
   |cons p' q'=>
    cases q';exact⟨_,_,rfl,p,p'⟩
 refine xh ?_ (by show 2<=Za;decide)
 have I2:Oa X f σ H1 { s1 with heap:=s1.heap.push { cls:=.type "tuple",data:=.seq [F,J].toArray } }:=I1.kept (t':=s1.toks) λb o e=>Fc _ e
 rw[hw];refine Ab (fc ?_);show wpAny (Ja X.prog X.w) X.A (do rule "assign.swapped-stores";let items <- unpackItems (.ref s1.heap.objs.size) 2 Aa;Ey [λv=>Sj X.env y v,λv=>Sj X.env x v] items.reverse;pure Flow.next) _ _ _
 refine Ab (Xm (Ab (unpackItems_tuple (items:=#[F,J]) (I.ok.hd hc) (Rh.new s1.heap _) λh' za=>?_)));have I3:=I2.kept (h':=h') (t':=s1.toks) λb o e=>za b o (re (Kc e)) e;show wpAny _ _ (Ey [λv=>Sj X.env y v,λv=>Sj X.env x v] [J,F] >>= λ_=>pure Flow.next) _ _ _
 refine Ab (Qz (wpAny_bindName (At I3 hN hj (.inl hy) xa (λs2 I4=>?_) (.inr hy))));refine Qz (wpAny_bindName (At I4 hN hi (.inl hx) rv (λs3 I5=>assignInOrder_nil (fc ?_)) (.inr hx)));rw[List.set_comm _ _ (Qa O)]at I5;exact⟨_,H1,I5,q1⟩
def tAug  (i:Nat)(q:TE)(j:Yu):TS:=λD f H=>∃x,f[i]?=la (la x)/\q f H λy I=>j x y I λz F=>D.nx (f.set i (la z)) F
def ZO {i:Nat}{x:Str}{e:La}{R:TE}{J:ml}{Z:Yu}{F:Pos}(hN:X.N.Nodup)(hi:X.N[i]?=la x)(O:Nl X.env.scope x)(he:PE X e R)(ho:EJ X J Z)(hf:X.fn x=ma\/X.env.scope.names.lookup x=la .local:=by first|exact .inl rfl|exact .inr rfl|assumption) :
  PS X (.AugAssign (.Name x F) J e pos) (tAug i R Z):=by
 intro f s σ H D I h;obtain⟨v,e1,h⟩:=h;obtain⟨m,hn,hl⟩:=I.loc;have vis:gq X.env.scope x:=by rcases O with k|k;exact .inl k;exact .inr (.inl k)
 obtain⟨u,r,l⟩:=hl i x v hi e1 vis;refine wpAny_AugAssign_Name ?_;have Y:wpAny (Ja X.prog X.w) X.A (Ib e X.env) (λw j=>wpAny (Ja X.prog X.w) X.A (Am J u w) (λr q=>wpAny (Ja X.prog X.w) X.A (bv X.env x r) (λ_=>SP X f D .next) X.xe q) X.xe j) X.xe s:=by
  refine Pb (he f s σ H _ I h) λw s1 ⟨y,H1,I1,r1,q1⟩=>?_;refine Pb (ho f s1 σ H1 v y u w _ I1 r r1 q1) λz s2 ⟨zv,H2,I2,r2,q2⟩=>?_;exact At I2 hN hi O r2 (λs3 I3=>⟨_,H2,I3,q2⟩) hf
 rcases l with⟨hk,hm⟩|⟨hk,c,hc,hcell⟩
 ·exact wpAny_loadName_local I.ok.kind hk hn hm Y
 ·rcases hk with hk|hk
  ·exact wpAny_loadName_cell I.ok.kind hk hc hcell Y
  ·rcases O with k|k
   ·have:X.env.scope.names.lookup x=la .free:=hk;rw[k]at this;cases this
   ·have:X.env.scope.names.lookup x=la .free:=hk;rw[k]at this;cases this
def PGet  (X:Cx)(t:V->V->Hp->VK->Prop):Prop:=
 ∀(f:List (Ca×Obj)) (s:Ia) (σ:St) (H:Hp) (o i:V) (ov iv:Da) (Q:VK),Oa X f σ H s->RelV o ov->RelV i iv->t o i H Q->
  wpAny (Ja X.prog X.w) X.A (Dd ov iv) (EP X f σ Q) X.xe s
end


def QN  (c:TT)(tb:TS):TS:=λD f H=>∃W:Nat->St->Hp->Prop,(∃m,W m f H)/\∀m f H,W m f H->
 c f H λb z=>if b=ma then ∃N:St->Hp->Prop,(∀j q,N j q->∃y,y<m/\W y j q)/\tb { D with nx:=N,ct:=N,bk:=D.nx } f z else D.nx f z
def AS      (hp:wj (Ja X.prog X.w) X.A X.env X.xe)(hc:PT X c tc)(hb:xf X body tb):PS X (.While c body [] pos) (QN tc tb):=by
 intro q s σ H D I h;obtain⟨W,⟨m0,w0⟩,z⟩:=h;refine wpAny_While (codeAny_whileLoop (λn s'=>∃y H',Oa X q y H' s'/\W n y H') ?_ m0 ⟨σ,H,I,w0⟩);rintro n s1 ⟨σ1,H1,I1,w1⟩;refine Jl hp (Pb (hc q s1 σ1 H1 _ I1 (z n σ1 H1 w1)) λb s2 ⟨H2,I2,q2⟩=>?_);cases b with
 |true=>
  obtain⟨N,hN,q2⟩:=q2;rw[if_pos rfl];refine Jl hp (Pb (hb q s2 σ1 H2 _ I2 q2) λf s3 q3=>?_);cases f with
  |next=>
   obtain⟨j,F,Y,J⟩:=q3;obtain⟨R,O,Z⟩:=hN j F J;exact⟨R,O,j,F,Y,Z⟩
  |cont=>
   obtain⟨j,F,Y,J⟩:=q3;obtain⟨R,O,Z⟩:=hN j F J;exact⟨R,O,j,F,Y,Z⟩
  |brk=>exact q3
  |ret v=>exact q3
 |false=>
  rw[if_neg Md];exact Qy ⟨σ1,H2,I2,q2⟩

structure It where
 go:Nat->Hp->Prop
 yld:Nat->Hp->V->Hp->Prop
 stop:Nat->Hp->Prop
def FpOk  (X:Cx)(pins:List (Ca×Obj))(H:Hp)(b:Ca):Prop:=
 H b=Aa/\b≠X.env.locals/\b∉X.fs/\(b∈X.ex\/X.s₀.heap.objs.size<=b)/\(∀x c,X.env.cells.lookup x=la c->c≠b)/\∀p∈X.pn++pins,p.1≠b
def Oa.fpOk    {J:St}{b:Ca}(I:Oa X pins J H s)(j:s.heap.objs.size<=b)(F:H' b=Aa):FpOk X pins H' b:=by
 refine⟨F,yy (bf I.lt j),I.nofs j,.inr (Fb I.sz j),λx c e z=>?_,λp y z=>?_⟩
 ·obtain⟨v,q⟩:=I.cell x c e;exact absurd (bf q.lt (by rw[z];exact j)) (Hh _)
 ·exact absurd (bf (Kc (I.pin p y).1) (by rw[z];exact j)) (Hh _)
structure Turn (P:Tb)(w:Cb)(K:Lb)(tg:La)(J:It)(fp:List Ca)(it:Ca)(tn:Nat->Xa->Prop):Prop where
 mem:it∈fp
 obj:∀i h,tn i h->∀b∈fp,∃o,h.get? b=la o/\∀v,o.data≠.cell v
 keep:∀i h h',tn i h->(∀b∈fp,∀o,h.get? b=la o->h'.get? b=la o)->tn i h'
 item:∀(X:Cx),X.prog=P->X.w=w->X.K=K->X.calm=ma->∀(i:Nat) (pins:List (Ca×Obj)) (s:Ia) (σ:St) (H:Hp) (E:Da->Ia->Prop),Oa X pins σ H s->(∀b∈fp,FpOk X pins H b)->tn i s.heap->J.go i H->
  wpAny (Ja P w) X.A (pyNext (.ref it)) (λr s1=>∃u,r=la u/\
   wpAny (Ja P w) X.A (Rp tg (.ref it) u) (λ_ s2=>∃x H',Oa X pins σ H' s2/\RelV x u/\J.yld i H x H'/\tn (i+1) s2.heap/\∀b∈fp,H' b=Aa) E s1) E s
 done:∀(X:Cx),X.prog=P->X.w=w->X.K=K->X.calm=ma->∀(i:Nat) (pins:List (Ca×Obj)) (s:Ia) (σ:St) (H:Hp) (E:Da->Ia->Prop),Oa X pins σ H s->(∀b∈fp,FpOk X pins H b)->tn i s.heap->J.stop i H->
  wpAny (Ja P w) X.A (pyNext (.ref it)) (λr s1=>r=Aa/\Oa X pins σ H s1) E s
 self:∀(A:Ac) (i:Nat) (s:Ia) (Q:Da->Ia->Prop) (E:Da->Ia->Prop),tn i s.heap->Q (.ref it) s->wpAny (Ja P w) A (pyIter (.ref it)) Q E s
abbrev TI:=St->Hp->(It->Hp->Prop)->Prop
def FJ  (X:Cx)(pins:List (Ca×Obj))(y:St)(q:La)(R:It->Hp->Prop)(f:Da)(s2:Ia):Prop:=
 ∃(j:Ca) (fp:List Ca) (tn:Nat->Xa->Prop) (J:It) (H':Hp),f=.ref j/\Oa X pins y H' s2/\Turn X.prog X.w X.K q J fp j tn/\tn 0 s2.heap/\(∀b∈fp,FpOk X pins H' b)/\R J H'
def PI  (X:Cx)(y j:La)(q:TI):Prop:=
 ∀(f:List (Ca×Obj)) (s:Ia) (σ:St) (H:Hp) (R:It->Hp->Prop),Oa X f σ H s->q σ H R->
  wpAny (Ja X.prog X.w) X.A (Ib j X.env) (λv s1=>wpAny (Ja X.prog X.w) X.A (pyIter v) (FJ X f σ y R) X.xe s1) X.xe s

def Fs             (j : s.heap.get? it = la o)(q : o.cls = .type n)(hd : o.data = .fields vs)
    (y : ["enumerate", "zip", "dict_itemiterator", "dict_reverseitemiterator", "odict_iterator", "itertools.zip_longest", "itertools.pairwise"].contains n = ua) (f : Q () s) : wpAny M A (Rp tg (.ref it) u) Q E s := by
  unfold Rp
  cases tg <;> first
    | exact fc f
    | (cases u <;> first
        | exact fc f
        | (refine Ab (Ym j ?_)
           rw [q, hd]
           show wpAny M A (if (["enumerate", "zip", "dict_itemiterator", "dict_reverseitemiterator", "odict_iterator", "itertools.zip_longest", "itertools.pairwise"].contains n && vs[0]? == la (Rc _)) = ma then _ else _) Q E s
           rw [if_neg (by intro h; rw [y, Bool.false_and] at h; cases h)]
           exact fc f))

noncomputable def HJ  (K:Lb)(a:Ca):It:=
 ⟨λi H=>∃f x,Nd K H a f/\f[i]?=la x,λi H x j=>j=H/\∀f,Nd K H a f->f[i]?=la x,λi H=>∃f,Nd K H a f/\f.length<=i⟩
noncomputable def GJ  (K:Lb)(a:Ca):It:=
 ⟨λi H=>∃f x,td K H a f/\f[i]?=la x,λi H x j=>j=H/\∀f,td K H a f->f[i]?=la x,λi H=>∃f,td K H a f/\f.length<=i⟩
noncomputable def Zu  (lo:Int)(n:Nat):It:=⟨λi _=>i<n,λi H x f=>f=H/\x=.int (lo+i),λi _=>n<=i⟩
def NS    {K:Lb} a it:Turn P w K tg (HJ K a) [it] it (λi h=>h.IsListIter it a i) where
 mem:=by simp
 obj:=λi h f b q=>by
  have e:b=it:=by simpa using q
  subst e;obtain⟨o,e,c,d⟩:=f;exact⟨o,e,λv z=>by rw[d]at z;cases z⟩
 keep:=λi h J f k=>f.at λo e=>k it (by simp) o e
 item:=by
  intro X hP hw hK hc i j s σ H E I F f R;subst hP hw hK;obtain⟨xs,x,O,hx⟩:=R;obtain⟨Y,rv,p,hz⟩:=I.list O;obtain⟨u,hu,ru⟩:=rv.get hx;obtain⟨Z,f1,f2,f3,f4,f5⟩:=F it (by simp)
  refine wpAny_pyNext_list_item f p.isList (x:=u) (by simpa using hu) λJ y sb=>?_
  have I1:Oa X j σ H { s with heap:=J }:=I.turned (t':=s.toks) (λb o q e=>(sb.2 b q).trans e) Z f1 f3 f4 f5
  obtain⟨o,e,c,d⟩:=id y;exact⟨u,rfl,Fs (s:={ s with heap:=J }) e c d (by decide) ⟨x,H,I1,ru,⟨rfl,λys hy=>by rw[I.list_inj hy O];exact hx⟩,y,λb q=>(F b q).1⟩⟩
 done:=by
  intro X hP hw hK hc i j s σ H E I F f R;subst hP hw hK;obtain⟨xs,O,hx⟩:=R;obtain⟨Y,rv,p,hz⟩:=I.list O;obtain⟨Z,f1,f2,f3,f4,f5⟩:=F it (by simp)
  have hl:=rv.length;exact wpAny_pyNext_list_end (I.ok.hd hc) f p.isList (by simp;lia) λJ eb=>⟨rfl,I.turned (t':=s.toks) (λb o q e=>eb b o q e) Z f1 f3 f4 f5⟩
 self:=λ_ _ _ _ _ f h=>wpAny_pyIter_listiter f h
def WT    {K:Lb} a it:Turn P w K tg (GJ K a) [it] it (λi h=>h.IsTupleIter it a i) where
 mem:=by simp
 obj:=λi h f b y=>by
  have e:b=it:=by simpa using y
  subst e;obtain⟨o,e,c,d⟩:=f;exact⟨o,e,λv z=>by rw[d]at z;cases z⟩
 keep:=λi h O f k=>f.at λo e=>k it (by simp) o e
 item:=by
  intro X hP hw hK hc i j s σ H E I J f Y;subst hP hw hK;obtain⟨xs,x,R,hx⟩:=Y;obtain⟨q,rv,p,hz⟩:=I.tuple R;obtain⟨u,hu,ru⟩:=rv.get hx;obtain⟨Z,f1,f2,f3,f4,f5⟩:=J it (by simp)
  refine wpAny_pyNext_tuple_item f (show s.heap.IsTuple a q.toArray from p) (x:=u) (by simpa using hu) λO F sb=>?_
  have I1:Oa X j σ H { s with heap:=O }:=I.turned (t':=s.toks) (λb o y e=>(sb.2 b y).trans e) Z f1 f3 f4 f5
  obtain⟨o,e,c,d⟩:=id F;exact⟨u,rfl,Fs (s:={ s with heap:=O }) e c d (by decide) ⟨x,H,I1,ru,⟨rfl,λys hy=>by rw[I.tuple_inj hy R];exact hx⟩,F,λb y=>(J b y).1⟩⟩
 done:=by
  intro X hP hw hK hc i j s σ H E I J f Y;subst hP hw hK;obtain⟨xs,R,hx⟩:=Y;obtain⟨q,rv,p,hz⟩:=I.tuple R;obtain⟨Z,f1,f2,f3,f4,f5⟩:=J it (by simp)
  have hl:=rv.length;exact wpAny_pyNext_tuple_end (I.ok.hd hc) f (show s.heap.IsTuple a q.toArray from p) (by simp;lia) λO eb=>⟨rfl,I.turned (t':=s.toks) (λb o y e=>eb b o y e) Z f1 f3 f4 f5⟩
 self:=λ_ _ _ _ _ f h=>wpAny_pyIter_tupleiter f h
def VT    {K:Lb} it lo n:Turn P w K tg (Zu lo n) [it] it (λi h=>IsRangeIter h it (lo+(i:Nat)*1) ((n:Int)-(i:Nat)) 1) where
 mem:=by simp
 obj:=λi h f b q=>by
  have e:b=it:=by simpa using q
  subst e;exact⟨_,f,λv z=>by
   have z':Data.fields _=Data.cell v:=z;cases z'⟩
 keep:=λi h J f k=>k it (by simp) _ f
 item:=by
  intro X hP hw hK hc i j s σ H E I F f O;subst hP hw hK;obtain⟨R,Z,f2,f3,f4,Y⟩:=F it (by simp)
  have W:=Walks.range (prog:=X.prog) (w:=X.w) (I.ok.hd hc) it lo 1 n;refine W.item i s _ _ O f λv J tk hv y kk=>?_;obtain⟨t,rfl⟩:=hv;have I1:Oa X j σ H { s with heap:=J,toks:=tk }:=I.turned (λb o q e=>kk b o (by simpa using q) e) R Z f3 f4 Y
  refine⟨_,rfl,Fs (s:={ s with heap:=J,toks:=tk }) (n := "range_iterator") y rfl rfl (by decide) ⟨.int (lo+i),H,I1,⟨t,?_⟩,⟨rfl,rfl⟩,y,λb q=>(F b q).1⟩⟩
  rw[Int.mul_one]
 done:=by
  intro X hP hw hK hc i j s σ H E I F f O;subst hP hw hK;obtain⟨R,Z,f2,f3,f4,Y⟩:=F it (by simp)
  exact wpAny_pyNext_range_end (I.ok.hd hc) f (by have:n<=i:=O;lia) λJ eb=>⟨rfl,I.turned (t':=s.toks) (λb o q e=>eb b o q e) R Z f3 f4 Y⟩
 self:=λ_ _ _ _ _ f h=>wpAny_pyIter_rangeiter f h
section
variable {X:Cx}{tg:La}
def YR   {f:St}{lo hi:Int}(I:Oa X pins f H s)(Z:-(2 ^ 62)<=lo)(O:lo<2 ^ 62)(J:-(2 ^ 62)<=hi)(y:hi<2 ^ 62)
  (q:R (Zu lo (hi-lo).toNat) H):wpAny (Ja X.prog X.w) X.A (pyIter (.ref s.heap.objs.size)) (FJ X pins f tg R) E { s with heap:=s.heap.push { cls:=.type "range",data:=.fields #[.int lo t,.int hi u,.int 1 v] },toks:=tk }:=by
 refine wpAny_pyIter_range (IsRange.new ..) (small_one Z O J y) ?_;have j:Oa X pins f H { s with heap:=s.heap.push { cls:=.type "range",data:=.fields #[.int lo t,.int hi u,.int 1 v] },toks:=tk }:=I.kept λb o e=>Fc _ e
 refine⟨(s.heap.push { cls:=.type "range",data:=.fields #[.int lo t,.int hi u,.int 1 v] }).objs.size,[(s.heap.push { cls:=.type "range",data:=.fields #[.int lo t,.int hi u,.int 1 v] }).objs.size],_,_,H,rfl,
  j.kept (t':=tk) λb o e=>Fc _ e,VT _ lo (hi-lo).toNat,?_,λb F=>?_,q⟩
 ·have z:lo+((0:Nat):Int)*1=lo:=by simp
  have Y:(((hi-lo).toNat:Nat):Int)-((0:Nat):Int)=sJ lo hi 1:=by rw[rangeSize_one];split<;>lia
  show IsRangeIter _ _ (lo+((0:Nat):Int)*1) ((((hi-lo).toNat:Nat):Int)-((0:Nat):Int)) 1;rw[z,Y];exact Fe _ rfl
 ·have e:b=(s.heap.push { cls:=.type "range",data:=.fields #[.int lo t,.int hi u,.int 1 v] }).objs.size:=by simpa using F
  subst e;exact j.fpOk (Db _) (j.hok.fresh (Db _))
def uL  (f:TA):TI:=λy H R=>f y H λq z=>∃j:Int,q=[.int j]/\-(2 ^ 62)<=j/\j<2 ^ 62/\R (Zu 0 j.toNat) z
def mT {a:La}{z:TA}{p y:Pos}(Y:Gl X "range")(F:X.mg "range" = Aa)(J:PA X [a] z)(hs:md [a] X.env=[(ua,Ib a X.env)]:=by rfl):PI X tg (.Call (.Name "range" p) [a] [] y) (uL z):=by
 intro f s O H R I h;refine Call_ (Rk I Y F boot_range (dq (Pb (J y f s O H _ I h) λus s1 ⟨vs,H1,Z,r1,q1⟩=>?_) hs rfl));obtain⟨j,e,q1,q2,q⟩:=q1;subst e;cases r1 with
 |cons r rr=>
  cases rr;obtain⟨t,rfl⟩:=r;exact call_range_1 (YR Z (by lia) (by lia) q1 q2 (by simpa using q))
def tFor  (F:TI)(g:TG)(tb:TS):TS:=λD f H=>F f H λJ O=>∃W:Nat->Nat->St->Hp->Prop,(∃m,W 0 m f O)/\∀i m f H,W i m f H->
 (J.stop i H/\D.nx f H)\/(J.go i H/\∃N:St->Hp->Prop,(∀q j,N q j->∃z,z<m/\W (i+1) z q j)/\∀x j,J.yld i H x j->g x f j λy I=>tb { D with nx:=N,ct:=N,bk:=D.nx } y I)
noncomputable def Io  (f:List Ca)(h:Xa):List (Ca×Obj):=f.filterMap λb=>(h.get? b).map λo=>(b,o)
def Et      (f:b∈j)(e:h.get? b=la o):(b,o)∈Io j h:=List.mem_filterMap.mpr ⟨b,f,by rw[e];rfl⟩
def XS     (f:p∈Io y h):p.1∈y/\h.get? p.1=la p.2:=by
 obtain⟨b,j,e⟩:=List.mem_filterMap.mp f;cases q:h.get? b with
 |none=>rw[q]at e;cases e
 |some o=>
  rw[q]at e;have z:(b,o)=p:=Zc e;subst z;exact⟨j,q⟩
def Oa.pinned   {q:St}(I:Oa X pins q H s)(O:∀b∈F,FpOk X pins H b)(R:∀b∈F,∃o,s.heap.get? b=la o/\∀v,o.data≠.cell v):Oa X (pins++Io F s.heap) q H s:=
 I.pins_of λp J=>(Fa.mp J).elim (λz=>I.pin p (Ee _ z)) λz=>by
  obtain⟨j,e⟩:=XS z;obtain⟨f0,Z,Y,_⟩:=O p.1 j;obtain⟨o,y,d⟩:=R p.1 j;rw[e]at y;cases y;exact⟨e,f0,Z,Y,d⟩
def Oa.unpinned   {j:St}(I:Oa X (pins++y) j H s):Oa X pins j H s:=I.pins_of λp q=>I.pin p (Ee _ (Cf _ q))
def aP {Y:La}{body:List Pa}{wi:TI}{g:TG}{tb:TS}{ya:Pos}(hp:wj (Ja X.prog X.w) X.A X.env X.xe)(hc:X.calm=ma)(hi:PI X tg Y wi)(hg:PG X tg g)(O:xf X body tb)
  (hs:∀x,Oh Y X.env x=pure x:=by intro _;rfl):PS X (.For tg Y body [] ya) (tFor wi g tb):=by
 intro j s σ H D I h;refine wpAny_For (Pb (hi j s σ H _ I h) λv s1 h1=>Pb h1 λha s2 h2=>?_) hs;obtain⟨it,fp,tn,J,H2,e,I2,T,st2,f2,W,⟨m0,w0⟩,ja⟩:=h2;subst e;have Z:∀{H':Hp},(∀b∈fp,H' b=Aa)->∀b∈fp,FpOk X j H' b:=λhn b O=>⟨hn b O,(f2 b O).2⟩;refine codeAny_forLoop_any (λn s'=>∃i z H',Oa X j z H' s'/\tn i s'.heap/\(∀b∈fp,H' b=Aa)/\W i n z H') ?_ m0 ⟨0,σ,H2,I2,st2,λb O=>(f2 b O).1,w0⟩;rintro n s3 ⟨i,σ3,H3,I3,yn,fr3,w3⟩;rcases ja i n σ3 H3 w3 with⟨za,qn⟩|⟨go,N,hN,step⟩
 ·refine Jl hp (Pb (T.done X rfl rfl rfl hc i j s3 σ3 H3 X.xe I3 (Z fr3) yn za) λr s4 ⟨hr,I4⟩=>?_);subst hr;exact Qy ⟨σ3,H3,I4,qn⟩
 ·refine Jl hp (Pb (T.item X rfl rfl rfl hc i j s3 σ3 H3 X.xe I3 (Z fr3) yn go) λr s4 ⟨u,hr,h4⟩=>?_);subst hr;refine Jl hp (Pb h4 λ_ s5 ⟨x,H5,I5,r5,y5,xa,wa⟩=>?_);have va:=I5.pinned (Z wa) (T.obj _ _ xa);refine Jl hp (Pb (hg _ s5 σ3 H5 x u _ va r5 (step x H5 y5)) λ_ s6 ⟨ka,H6,I6,q6⟩=>?_);refine Jl hp (Pb (O _ s6 ka H6 _ I6 q6) λf s7 q7=>?_);have R:∀{q:St} {y:Hp},Oa X (j++Io fp s5.heap) q y s7->N q y->∃m,m<n/\∃i z H',Oa X j z H' s7/\tn i s7.heap/\(∀b∈fp,H' b=Aa)/\W i m z H':=λ{q y} F n7=>by
   obtain⟨m',hm,w7⟩:=hN q y n7;refine⟨m',hm,i+1,q,y,F.unpinned,T.keep _ _ _ xa λb O o e=>(F.pin (b,o) (Ee _ (Ee _ (Et O e)))).1,λb O=>?_,w7⟩;obtain⟨o,e,d⟩:=T.obj _ _ xa b O;exact(F.pin (b,o) (Ee _ (Ee _ (Et O e)))).2.1
  cases f with
  |next=>obtain⟨q,y,F,n7⟩:=q7;exact R F n7
  |cont=>obtain⟨q,y,F,n7⟩:=q7;exact R F n7
  |brk=>obtain⟨q,y,F,q7⟩:=q7;exact⟨q,y,F.unpinned,q7⟩
  |ret v=>obtain⟨x7,q,y,F,r7,q7⟩:=q7;exact⟨x7,q,y,F.unpinned,r7,q7⟩
end


abbrev R2:=V->V->Hp->VK->Prop
def Cc  (X:Cx)(f:Da->Da->Sem Da)(r:R2):Prop:=
 ∀(j:List (Ca×Obj)) (s:Ia) (σ:St) (H:Hp) (x y:V) (v u:Da) (Q:VK),Oa X j σ H s->RelV x v->RelV y u->r x y H Q->
  wpAny (Ja X.prog X.w) X.A (f v u) (EP X j σ Q) X.xe s
def dA  (X:Cx)(f:Da->Sem Da)(r:V->Hp->VK->Prop):Prop:=
 ∀(j:List (Ca×Obj)) (s:Ia) (σ:St) (H:Hp) (x:V) (v:Da) (Q:VK),Oa X j σ H s->RelV x v->r x H Q->
  wpAny (Ja X.prog X.w) X.A (f v) (EP X j σ Q) X.xe s
def Ye  (X:Cx)(f:Da)(r:List V->Hp->VK->Prop):Prop:=
 ∀(j:List (Ca×Obj)) (s:Ia) (σ:St) (H:Hp) (xs:List V) (us:List Da) (Q:VK),Oa X j σ H s->Vals xs us->r xs H Q->
  wpAny (Ja X.prog X.w) X.A (call f us) (EP X j σ Q) X.xe s
def TruR  (X:Cx)(r:V->Hp->(Bool->Hp->Prop)->Prop):Prop:=
 ∀(f:List (Ca×Obj)) (s:Ia) (σ:St) (H:Hp) (x:V) (v:Da) (Q:Bool->Hp->Prop),Oa X f σ H s->RelV x v->r x H Q->
  wpAny (Ja X.prog X.w) X.A (truthy v) (TP X f σ Q) X.xe s

def rq  (r:R2)(j tb:TE):TE:=λf H Q=>j f H λx z=>tb f z λy q=>r x y q Q
def NJ  (r:V->Hp->VK->Prop)(f:TE):TE:=λj H Q=>f j H λx q=>r x q Q
def rI  (C:Int->Int->Prop)(g:Int->Int->V):R2:=λx y H Q=>∃i j,x=.int i/\y=.int j/\C i j/\Q (g i j) H
def pi  (g:Int->Int->V):R2:=λx y H Q=>∃i j,x=.int i/\y=.int j/\Q (g i j) H
def rU  (g:Int->V):V->Hp->VK->Prop:=λx H Q=>∃i,x=.int i/\Q (g i) H


def binT  (Y:PE X a ta)(O:PE X b tb){j:St}{R:V->V->Hp->Prop}(I:Oa X pins j H s)
  (h:ta j H λx J=>tb j J λy q=>R x y q) {f:Da->Da->Sem Da}
  (Z:∀v u s2 x y q,Oa X pins j q s2->RelV x v->RelV y u->R x y q->wpAny (Ja X.prog X.w) X.A (f v u) Q X.xe s2) :
  wpAny (Ja X.prog X.w) X.A (Ib a X.env) (λv z=>wpAny (Ja X.prog X.w) X.A (Ib b X.env) (λu F=>wpAny (Ja X.prog X.w) X.A (f v u) Q X.xe F) X.xe z) X.xe s:=by
 refine Pb (Y pins s j H _ I h) λv s1 ⟨x,J,I1,r1,q1⟩=>?_;refine Pb (O pins s1 j J _ I1 q1) λu s2 ⟨y,q,I2,r2,q2⟩=>?_;exact Z v u s2 x y q I2 r1 r2 q2

def QK    (O:Cc X (Oe op) r)(z:PE X a ta)(j:PE X b tb):PE X (.BinOp a op b pos) (rq r ta tb):=by
 intro f s F H Q I h;exact wpAny_BinOp (binT z j I h λv u s2 x y R J Z Y q=>O f s2 F R x y v u Q J Z Y q)
def RK    (y:dA X (unaryOp op) r)(q:PE X a ta):PE X (.UnaryOp op a pos) (NJ r ta):=by
 intro f s j H Q I h;exact UnaryOp_ (Pb (q f s j H _ I h) λv s1 ⟨x,F,z,r1,q1⟩=>y f s1 j F x v Q z r1 q1)
def Jn    {g:Int->Int->Int}
  (z:∀i j t u (s:Ia) Q E ,C i j->Q (.int (g i j) s.toks) { s with toks:=s.toks+1 }->wpAny (Ja X.prog X.w) X.A (f (.int i t) (.int j u)) Q E s) :
  Cc X f (rI C λi j=>.int (g i j)):=by
 intro F s Z H x y v u Q I Y O h;obtain⟨i,j,rfl,rfl,J,q⟩:=h;obtain⟨t,rfl⟩:=Y;obtain⟨R,rfl⟩:=O;exact z i j t R s _ _ J ⟨.int (g i j),H,I.tok _,⟨_,rfl⟩,q⟩
def opI0   {g:Int->Int->Int}
  (z:∀i j t u (s:Ia) Q E ,Q (.int (g i j) s.toks) { s with toks:=s.toks+1 }->wpAny (Ja X.prog X.w) X.A (f (.int i t) (.int j u)) Q E s) :
  Cc X f (pi λi j=>.int (g i j)):=by
 intro F s Y H x y v u Q I R J h;obtain⟨i,j,rfl,rfl,q⟩:=h;obtain⟨t,rfl⟩:=R;obtain⟨O,rfl⟩:=J;exact z i j t O s _ _ ⟨.int (g i j),H,I.tok _,⟨_,rfl⟩,q⟩
def opB0   {g:Int->Int->Bool}
  (z:∀i j t u s Q E ,Q (.bool (g i j)) s->wpAny (Ja X.prog X.w) X.A (f (.int i t) (.int j u)) Q E s) :
  Cc X f (pi λi j=>.bl (g i j)):=by
 intro F s Y H x y v u Q I R J h;obtain⟨i,j,rfl,rfl,q⟩:=h;obtain⟨t,rfl⟩:=R;obtain⟨O,rfl⟩:=J;exact z i j t O s _ _ ⟨.bl (g i j),H,I,rfl,q⟩

def CDiv  (i j:Int):Prop:=0<j/\j<1073741824
def CPow  (i j:Int):Prop:=0<=j/\j<=1000000/\i.natAbs<2 ^ 64
def CMul  (i j:Int):Prop:=(-(2 ^ 64)<i/\i<2 ^ 64)\/(-(2 ^ 64)<j/\j<2 ^ 64)
def CMul.ok   (h:CMul i j):IntMulOk i j:=by
 rcases h with⟨y,q⟩|⟨y,q⟩
 ·exact .of_left (intBits_le_64 y q)
 ·exact .of_right (intBits_le_64 y q)
def JM  : Cc X (Oe .Add) (pi λi j=>.int (i+j)):=opI0 λ_ _ _ _ _ _ _ q=>add_int q
def UM  : Cc X (Oe .Sub) (pi λi j=>.int (i-j)):=opI0 λ_ _ _ _ _ _ _ q=>sub_int q
def QM  : Cc X (Oe .Mult) (rI CMul λi j=>.int (i*j)):=Jn λ_ _ _ _ _ _ _ f q=>mul_int q f.ok
def rP  : Cc X (Oe .FloorDiv) (rI CDiv λi j=>.int (i/j)):=Jn λi j _ _ _ _ _ f q=>by
 have z:(0:Int)<j:=f.1;have y:j<1073741824:=f.2;exact floordiv_int (by lia) (by rw[Int.fdiv_eq_ediv_of_nonneg i (by lia)];exact q) (.inl (PyProof.noPylong_small (by lia)))
def PM  : Cc X (Oe .Mod) (rI (λ_ j=>0<j) λi j=>.int (i%j)):=Jn λi j _ _ _ _ _ f q=>by
 have y:(0:Int)<j:=f;exact mod_int' (by lia) (by rw[Int.fmod_eq_emod_of_nonneg i (by lia)];exact q)
def SM  : Cc X (Oe .Pow) (rI CPow λi j=>.int (i ^ j.toNat)):=Jn λ_ _ _ _ _ _ _ f q=>pow_int_small f.1 f.2.1 f.2.2 q
def IP  : Cc X (Am .Add) (pi λi j=>.int (i+j)):=opI0 λ_ _ _ _ _ _ _ q=>iadd_int q
def KP  : Cc X (Am .Sub) (pi λi j=>.int (i-j)):=opI0 λ_ _ _ _ _ _ _ q=>isub_int q
def JP  : Cc X (Am .Mult) (rI CMul λi j=>.int (i*j)):=Jn λ_ _ _ _ _ _ _ f q=>imul_int q f.ok
def unI   {g:Int->Int}
  (j:∀i t (s:Ia) Q E ,Q (.int (g i) s.toks) { s with toks:=s.toks+1 }->wpAny (Ja X.prog X.w) X.A (f (.int i t)) Q E s) :
  dA X f (rU λi=>.int (g i)):=by
 intro y s F H x v Q I z h;obtain⟨i,rfl,q⟩:=h;obtain⟨t,rfl⟩:=z;exact j i t s _ _ ⟨.int (g i),H,I.tok _,⟨_,rfl⟩,q⟩
def eO  : dA X (unaryOp .USub) (rU λi=>.int (-i)):=unI λ_ _ _ _ _ q=>neg_int q

noncomputable def scal  : V->V->Bool
 |.non,.non=>ma|.non,.int _=>ma|.int _,.non=>ma|.non,.bl _=>ma|.bl _,.non=>ma|.non,.str _=>ma|.str _,.non=>ma
 |.int _,.int _=>ma|.bl _,.bl _=>ma|.str _,.str _=>ma|.byt _,.byt _=>ma
 |.int _,.str _=>ma|.str _,.int _=>ma|.bl _,.str _=>ma|.str _,.bl _=>ma
 |_,_=>ua
def TJ  : R2:=λx y H Q=>scal x y=ma/\Q (.bl (decide (x=y))) H
def SJ  : R2:=λx y H Q=>scal x y=ma/\Q (.bl (!decide (x=y))) H

def eC   : decide (V.int i=V.int j)=(i==j):=by
 rw[Ej];simp
def oB   : decide (V.bl i=V.bl j)=(i==j):=by
 rw[Ej];simp
def fC   : decide (V.str i=V.str j)=(i==j):=by
 rw[Ej];simp
def dC   : decide (V.byt i=V.byt j)=(i.toList==j.toList):=by
 rw[Ej];cases i;cases j;simp

section
variable {X:Cx}{a b c:La}{ta tb tc:TE}{pos:Pos}
def Sd   {f:St}(I:Oa X pins f H s)(q:Q (.bl k) H)(e:k=k'):EP X pins f Q (.bool k') s:=by
 subst e;exact⟨.bl k,H,I,rfl,q⟩
def HK  : Cc X (ee .Eq) TJ:=by
 intro O s R H x y v u Q I J f h;obtain⟨F,q⟩:=h;cases x with
 |non=>
  cases J;cases y with
  |non=>cases f;exact PySem.EqNone.eq_none_none (Sd I q (by simp))
  |bl j=>cases f;exact PySem.EqNone.eq_none_bool (Sd I q (by simp))
  |int j=>obtain⟨z,rfl⟩:=f;exact PySem.EqNone.eq_none_int (Sd I q (by simp))
  |str j=>obtain⟨z,rfl⟩:=f;exact PySem.EqNone.eq_none_str (Sd I q (by simp))
  |_=>exact absurd (show ua=ma from F) Md
 |bl i=>
  cases J;cases y with
  |non=>cases f;exact PySem.EqNone.eq_bool_none (Sd I q (by simp))
  |bl j=>cases f;exact eq_bool (Sd I q oB)
  |str j=>obtain⟨z,rfl⟩:=f;exact PySem.EqMixed.eq_bool_str (Sd I q (by simp))
  |_=>exact absurd (show ua=ma from F) Md
 |int i=>
  obtain⟨t,rfl⟩:=J;cases y with
  |non=>cases f;exact PySem.EqNone.eq_int_none (Sd I q (by simp))
  |int j=>obtain⟨z,rfl⟩:=f;exact eq_int (Sd I q eC)
  |str j=>obtain⟨z,rfl⟩:=f;exact PySem.EqMixed.eq_int_str (Sd I q (by simp))
  |_=>exact absurd (show ua=ma from F) Md
 |str i=>
  obtain⟨t,rfl⟩:=J;cases y with
  |non=>cases f;exact PySem.EqNone.eq_str_none (Sd I q (by simp))
  |bl j=>cases f;exact PySem.EqMixed.eq_str_bool (Sd I q (by simp))
  |int j=>obtain⟨z,rfl⟩:=f;exact PySem.EqMixed.eq_str_int (Sd I q (by simp))
  |str j=>obtain⟨z,rfl⟩:=f;exact eq_str (Sd I q fC)
  |_=>exact absurd (show ua=ma from F) Md
 |byt i=>
  obtain⟨t,rfl⟩:=J;cases y with
  |byt j=>obtain⟨z,rfl⟩:=f;exact PySem.W.eq_bytes (Sd I q dC)
  |_=>exact absurd (show ua=ma from F) Md
 |_=>cases y<;>exact absurd (show ua=ma from F) Md
def MK  : Cc X (ee .NotEq) SJ:=by
 intro O s R H x y v u Q I J f h;obtain⟨F,q⟩:=h;cases x with
 |non=>
  cases J;cases y with
  |non=>cases f;exact PySem.EqNone.ne_none_none (Sd I q (by simp))
  |bl j=>cases f;exact PySem.EqNone.ne_none_bool (Sd I q (by simp))
  |int j=>obtain⟨z,rfl⟩:=f;exact PySem.EqNone.ne_none_int (Sd I q (by simp))
  |str j=>obtain⟨z,rfl⟩:=f;exact PySem.EqNone.ne_none_str (Sd I q (by simp))
  |_=>exact absurd (show ua=ma from F) Md
 |bl i=>
  cases J;cases y with
  |non=>cases f;exact PySem.EqNone.ne_bool_none (Sd I q (by simp))
  |bl j=>cases f;exact ne_bool (Sd I q (congrArg not oB))
  |str j=>obtain⟨z,rfl⟩:=f;exact PySem.EqMixed.ne_bool_str (Sd I q (by simp))
  |_=>exact absurd (show ua=ma from F) Md
 |int i=>
  obtain⟨t,rfl⟩:=J;cases y with
  |non=>cases f;exact PySem.EqNone.ne_int_none (Sd I q (by simp))
  |int j=>obtain⟨z,rfl⟩:=f;exact ne_int (Sd I q (congrArg not eC))
  |str j=>obtain⟨z,rfl⟩:=f;exact PySem.EqMixed.ne_int_str (Sd I q (by simp))
  |_=>exact absurd (show ua=ma from F) Md
 |str i=>
  obtain⟨t,rfl⟩:=J;cases y with
  |non=>cases f;exact PySem.EqNone.ne_str_none (Sd I q (by simp))
  |bl j=>cases f;exact PySem.EqMixed.ne_str_bool (Sd I q (by simp))
  |int j=>obtain⟨z,rfl⟩:=f;exact PySem.EqMixed.ne_str_int (Sd I q (by simp))
  |str j=>obtain⟨z,rfl⟩:=f;exact ne_str (Sd I q (congrArg not fC))
  |_=>exact absurd (show ua=ma from F) Md
 |byt i=>
  obtain⟨t,rfl⟩:=J;cases y with
  |byt j=>obtain⟨z,rfl⟩:=f;exact PySem.W.ne_bytes (Sd I q (congrArg not dC))
  |_=>exact absurd (show ua=ma from F) Md
 |_=>cases y<;>exact absurd (show ua=ma from F) Md

def LK  : Cc X (ee .Lt) (pi λi j=>.bl (decide (i<j))):=opB0 λ_ _ _ _ _ _ _ q=>lt_int q
def JK  : Cc X (ee .LtE) (pi λi j=>.bl (decide (i<=j))):=opB0 λ_ _ _ _ _ _ _ q=>le_int q
def IK  : Cc X (ee .Gt) (pi λi j=>.bl (decide (j<i))):=opB0 λ_ _ _ _ _ _ _ q=>gt_int q
def gT  : Cc X (ee .In) (λx y H Q=>∃i j,x=.str i/\y=.str j/\Q (.bl (!(Xu j i 0 j.length 1).isEmpty)) H):=by
 intro f s O H x y v u Q I F z h;obtain⟨i,j,rfl,rfl,q⟩:=h;obtain⟨t,rfl⟩:=F;obtain⟨J,rfl⟩:=z;exact in_str (Sd I q rfl)

def GU  : Cc X (ee .NotIn) (λx y H Q=>∃i j,x=.str i/\y=.str j/\Q (.bl (!(!(Xu j i 0 j.length 1).isEmpty))) H):=by
 intro f s O H x y v u Q I F z h;obtain⟨i,j,rfl,rfl,q⟩:=h;obtain⟨t,rfl⟩:=F;obtain⟨J,rfl⟩:=z;exact notIn_str (Sd I q rfl)
def Cc.or    (h:Cc X f r)(h':Cc X f r'):Cc X f (λx y H Q=>r x y H Q\/r' x y H Q):=by
 intro j s O H x y v u Q I J F q;rcases q with q|q
 ·exact h j s O H x y v u Q I J F q
 ·exact h' j s O H x y v u Q I J F q

def zP    (R:Cc X (ee op) r)(F:PE X a ta)(z:PE X b tb)(j:zu op b=ua):PE X (.Compare a [op] [b] pos) (rq r ta tb):=by
 intro f s J H Q I h;exact wpAny_Compare1 (binT F z I h λv u s2 x y Y O rx Z q=>R f s2 J Y x y v u Q O rx Z q) j
def ZA  (t:TE):TT:=λf H Q=>t f H λx j=>∃k,x=.bl k/\Q k j
def wQ    (Y:Cc X (ee op) r)(R:PE X a ta)(J:PE X b tb)(F:zu op b=ua):PT X (.Compare a [op] [b] pos) (ZA (rq r ta tb)):=by
 intro f s j H Q I h;refine wpAny_isTrue_Compare1 (Pb (R f s j H _ I h) λv s1 ⟨x,H1,I1,r1,q1⟩=>Pb (J f s1 j H1 _ I1 q1) λu s2 ⟨y,H2,O,r2,q2⟩=>
  Pb (Y f s2 j H2 x y v u _ O r1 r2 q2) λc s3 ⟨z,Z,q,r3,k,e,q3⟩=>?_) F
 subst e;cases r3;exact Pm ⟨Z,q,q3⟩
def LB  (r R:R2)(F tb I:TE):TE:=λf H Q=>F f H λx Y=>tb f Y λy O=>r x y O λz j=>∃k,z=.bl k/\
 (if k=ma then I f j λJ q=>R y J q Q else Q (.bl ua) j)
section
variable {op op':oq}{r r':R2}
def yR (Y:Cc X (ee op) r)(q:Cc X (ee op') r')(ha:PE X a ta)(hb:PE X b tb)(hc:PE X c tc)
  (hm:Ut [op,op'] [b,c]=ua:=by with_unfolding_all rfl):PE X (.Compare a [op,op'] [b,c] pos) (LB r r' ta tb tc):=by
 intro f s j H Q I h;refine Compare_chain (Pb (ha f s j H _ I h) λv s1 ⟨x,H1,I1,r1,q1⟩=>chain_link (Pb (hb f s1 j H1 _ I1 q1) λu s2 ⟨y,H2,O,r2,q2⟩=>
  Pb (Y f s2 j H2 x y v u _ O r1 r2 q2) λd s3 ⟨z,J,F,r3,k,e,q3⟩=>?_)) hm
 subst e;cases r3;refine Pm ?_;cases k with
 |false=>exact ite_ff ⟨.bl ua,J,F,rfl,q3⟩
 |true=>exact ite_tt (chain_last (Pb (hc f s3 j J _ F q3) λw' R ⟨Z,H4,I4,r4,q4⟩=>q f R j H4 y Z u w' Q I4 r2 r4 q4))
def CS (Y:Cc X (ee op) r)(q:Cc X (ee op') r')(ha:PE X a ta)(hb:PE X b tb)(hc:PE X c tc)
  (hm:Ut [op,op'] [b,c]=ua:=by with_unfolding_all rfl):PT X (.Compare a [op,op'] [b,c] pos) (ZA (LB r r' ta tb tc)):=by
 intro f s j H Q I h;refine isTrue_chain (Pb (ha f s j H _ I h) λv s1 ⟨x,H1,I1,r1,q1⟩=>test_link (Pb (hb f s1 j H1 _ I1 q1) λu s2 ⟨y,H2,O,r2,q2⟩=>
  Pb (Y f s2 j H2 x y v u _ O r1 r2 q2) λd s3 ⟨z,J,F,r3,k,e,q3⟩=>?_)) hm
 subst e;cases r3;refine Pm ?_;cases k with
 |false=>
  obtain⟨k',e',q'⟩:=q3;cases e';exact ite_ff ⟨J,F,q'⟩
 |true=>
  refine ite_tt (test_last (Pb (hc f s3 j J _ F q3) λw' R ⟨Z,H4,I4,r4,q4⟩=>Pb (q f R j H4 y Z u w' _ I4 r2 r4 q4) λd' s5 ⟨z2,H5,I5,r5,k2,e2,q5⟩=>?_));subst e2;cases r5;exact Pm ⟨H5,I5,q5⟩

end
def TruV  (K:Lb)(x:V)(H:Hp)(k:Bool):Prop:=
 match x with
 |.non=>k=ua
 |.bl b=>k=b
 |.int i=>k=(i != 0)
 |.str y=>y.length<=Za/\k=((y.length:Int) != 0)
 |.byt y=>y.size<=Za/\k=((y.size:Int) != 0)
 |.ref p=>(∃f,Nd K H p f/\k = !f.isEmpty)\/(∃f,td K H p f/\k = !f.isEmpty)\/∃j,H p=la (.dK j)/\k = !j.isEmpty
 |_=>False
def cU     (r:KV kvs vs):(!vs.isEmpty) = !kvs.isEmpty:=by
 cases r<;>rfl
def sF    (r:Vals xs f):(!f.toArray.isEmpty) = !xs.isEmpty:=by
 cases r<;>simp
def Tk  : (Za:Nat)<2 ^ 63:=by rw[Kh];decide
def Ys  : TruR X (λx H Q=>∃k,TruV X.K x H k/\Q k H):=by
 intro xa s σ H x v Q I J h;obtain⟨k,e,q⟩:=h;have hl:=Tk;have hs:Za=16777216:=Kh;cases x with
 |non=>
  cases J;have f:k=ua:=e;subst f;exact truthy_none ⟨H,I,q⟩
 |bl b=>
  cases J;have f:k=b:=e;subst f;exact Pm ⟨H,I,q⟩
 |int i=>
  obtain⟨t,rfl⟩:=J;have f:k=(i != 0):=e;subst f;exact PySem.P.truthy_int ⟨H,I,q⟩
 |str y=>
  obtain⟨t,rfl⟩:=J;obtain⟨hy,f⟩:y.length<=Za/\k=((y.length:Int) != 0):=e;subst f;exact PySem.P.truthy_str (by lia) ⟨H,I.tok _,q⟩
 |byt y=>
  obtain⟨t,rfl⟩:=J;obtain⟨hy,f⟩:y.size<=Za/\k=((y.size:Int) != 0):=e;subst f;exact PySem.W.truthy_bytes (by lia) ⟨H,I.tok _,q⟩
 |ref p=>
  cases J;have f:(∃F,Nd X.K H p F/\k = !F.isEmpty)\/(∃F,td X.K H p F/\k = !F.isEmpty)\/∃j,H p=la (.dK j)/\k = !j.isEmpty:=e;rcases f with⟨F,O,f⟩|⟨F,O,f⟩|⟨j,O,f⟩
  ·subst f;obtain⟨Z,r,Y,hz⟩:=I.list O;have z:=r.length;exact wpAny_truthy_list Y.isList (by simp only[Bd];lia) ⟨H,I.tok _,by rw[sF r];exact q⟩
  ·subst f;obtain⟨Z,r,Y,hz⟩:=I.tuple O;have z:=r.length;exact truthy_tuple Y (by simp only[Bd];lia) ⟨H,I.tok _,by rw[sF r];exact q⟩
  ·subst f;obtain⟨hz,hS,R,r,m⟩:j.length<=Za/\(p==jf)=ua/\∃R,KV j R/\s.heap.DictOf (Yd X.prog X.w) p R:=I.hok p _ O;have z:j.length=R.length:=nu r;exact wpAny_truthy_dict hS m (by lia) ⟨H,I.tok _,by rw[cU r];exact q⟩
 |_=>exact(show False from e).elim
def DS  (F:PE X a ta)(z:∀f,yf a X.env f=(do let v <- f;Lf a.pos;Uc [v] (truthy v))) :
  PT X a (λq H Q=>ta q H λx y=>∃k,TruV X.K x y k/\Q k y):=by
 intro j s q H Q I h;exact isTrue_plain (Pb (F j s q H _ I h) λv s1 ⟨x,O,J,r1,q1⟩=>Ys j s1 q O x v Q J r1 q1) (z _)

def FT  : Cc X (Oe .Add) (λx y H Q=>∃i j,x=.str i/\y=.str j/\i.length+j.length<=Za/\Q (.str (i++j)) H):=by
 intro f s Y H x y v u Q I O J h;obtain⟨i,j,rfl,rfl,F,q⟩:=h;obtain⟨t,rfl⟩:=O;obtain⟨z,rfl⟩:=J;exact add_str (λz R=>⟨.str (i++j),H,I.tok _,⟨_,rfl⟩,q⟩) F
def sU  : Cc X (Am .Add) (λx y H Q=>∃i j,x=.str i/\y=.str j/\i.length+j.length<=Za/\Q (.str (i++j)) H):=by
 intro f s Y H x y v u Q I O J h;obtain⟨i,j,rfl,rfl,F,q⟩:=h;obtain⟨t,rfl⟩:=O;obtain⟨z,rfl⟩:=J;exact iadd_str (λz R=>⟨.str (i++j),H,I.tok _,⟨_,rfl⟩,q⟩) F
def Ng    (r:Vals [x] us):∃u,us=[u]/\RelV x u:=by
 cases r with
 |cons r1 r2=>cases r2;exact⟨_,rfl,r1⟩
def bB    (r:Vals [x,y] us):∃u f,us=[u,f]/\RelV x u/\RelV y f:=by
 cases r with
 |cons r1 r2=>
  cases r2 with
  |cons r3 j=>cases j;exact⟨_,_,rfl,r1,r3⟩
def tS  (z:X.calm=ma):Ye X (.builtin "max") (λxs H Q=>∃i j,xs=[.int i,.int j]/\Q (.int (if j>i then j else i)) H):=by
 intro y s R H xs Z Q I r h;obtain⟨i,j,rfl,q⟩:=h;obtain⟨u,Y,rfl,⟨t,rfl⟩,⟨J,rfl⟩⟩:=bB r;refine max_two_ints (I.ok.hd z) λO F k=>⟨_,H,I.kept k,?_,q⟩;by_cases f:j>i
 ·rw[if_pos f,if_pos f];exact⟨_,rfl⟩
 ·rw[if_neg f,if_neg f];exact⟨_,rfl⟩
def uS  (z:X.calm=ma):Ye X (.builtin "min") (λxs H Q=>∃i j,xs=[.int i,.int j]/\Q (.int (if j<i then j else i)) H):=by
 intro y s R H xs Z Q I r h;obtain⟨i,j,rfl,q⟩:=h;obtain⟨u,Y,rfl,⟨t,rfl⟩,⟨J,rfl⟩⟩:=bB r;refine min_two_ints (I.ok.hd z) λO F k=>⟨_,H,I.kept k,?_,q⟩;by_cases f:j<i
 ·rw[if_pos f,if_pos f];exact⟨_,rfl⟩
 ·rw[if_neg f,if_neg f];exact⟨_,rfl⟩
def pS  : Ye X (.type "int") (λxs H Q=>(∃i,xs=[.int i]/\Q (.int i) H)\/∃k,xs=[.bl k]/\Q (.int (if k then 1 else 0)) H):=by
 intro f s y H xs j Q I r h;rcases h with⟨i,rfl,q⟩|⟨k,rfl,q⟩
 ·obtain⟨u,rfl,t,rfl⟩:=Ng r;exact call_int_int ⟨.int i,H,I,⟨_,rfl⟩,q⟩
 ·obtain⟨u,rfl,r1⟩:=Ng r;cases r1;exact call_int_bool ⟨.int (if k then 1 else 0),H,I.tok _,⟨_,rfl⟩,q⟩
def LenV  (K:Lb)(x:V)(H:Hp)(n:Nat):Prop:=
 match x with
 |.str y=>y.length<=Za/\n=y.length
 |.byt y=>y.size<=Za/\n=y.size
 |.ref p=>(∃f,Nd K H p f/\n=f.length)\/∃f,td K H p f/\n=f.length
 |_=>False
def GR  : Ye X (.builtin "len") (λxs H Q=>∃x n,xs=[x]/\LenV X.K x H n/\Q (.int n) H):=by
 intro Y s σ H xs us Q I r h;obtain⟨x,n,rfl,e,q⟩:=h;obtain⟨u,rfl,R⟩:=Ng r;have hl:=Tk;have hs:Za=16777216:=Kh;cases x with
 |str y=>
  obtain⟨t,rfl⟩:=R;obtain⟨hy,j⟩:y.length<=Za/\n=y.length:=e;subst j;exact len_str (by lia) ⟨.int _,H,I.tok _,⟨_,rfl⟩,q⟩
 |byt y=>
  obtain⟨t,rfl⟩:=R;obtain⟨hy,j⟩:y.size<=Za/\n=y.size:=e;subst j;exact PySem.W.len_bytes (by lia) ⟨.int _,H,I.tok _,⟨_,rfl⟩,q⟩
 |ref p=>
  cases R;have j:(∃xs,Nd X.K H p xs/\n=xs.length)\/∃xs,td X.K H p xs/\n=xs.length:=e;rcases j with⟨xs,z,j⟩|⟨xs,z,j⟩
  ·subst j;obtain⟨O,F,J,Z⟩:=I.list z;have f:=F.length;exact Calls.call_len_list J.isList (by simp only[Bd];lia) ⟨.int xs.length,H,I.tok _,⟨_,by simp only[Bd];rw[f]⟩,q⟩
  ·subst j;obtain⟨O,F,J,Z⟩:=I.tuple z;have f:=F.length;exact len_tuple J (by simp only[Bd];lia) ⟨.int xs.length,H,I.tok _,⟨_,by simp only[Bd];rw[f]⟩,q⟩
 |_=>exact(show False from e).elim
end

structure ObjM (h:Xa)(x dx C:Ca)(mA:Str->Option Da):Prop where
 obj:h.get? x=la (Ez C dx)
 ns:h.Ns1 dx mA
 ne:dx≠x

def yT  {h:Xa}(n:h.Ns1 J mA):∃j,h.get? J=la j/\∀name,Oz name j=la (mA name):=by
 obtain⟨o,F,Z,O,hd,hk,_,I⟩:=n;refine⟨o,O,λname=>?_⟩;have e:=I name;unfold nsFind findBy at e;rw[<- Array.find?_toList]at e;unfold Oz;rw[hd];dsimp only;split
 ·rename_i y q;rw[q]at e;exact congrArg la e
 ·rename_i q;rw[q]at e;have a:F.toList.any (·.refKey)=ua:=by
   rw[HI];intro y Y;obtain⟨z,t,f⟩:=hk y (Array.mem_toList_iff.mp Y);simp[vj.refKey,f]
  have R:¬F.toList.any (·.refKey)=ma:=by rw[a];exact Md
  rw[if_neg R];exact congrArg la e

def ObjM.look     (I:ObjM h x F C mA):∃j,PySem.W.InstAt h x (Ez C F) C (la j)/\∀name,Oz name j=la (mA name):=
 let ⟨j,q,y⟩:=yT I.ns
 ⟨j,⟨I.obj,rfl,rfl,q⟩,y⟩



def RelO.some_of    (r:RelO (la v) o):∃u,o=la u/\RelV v u:=by
 cases o with
 |none=>exact(show False from r).elim
 |some u=>exact⟨u,rfl,r⟩

def HP  (F:Xd P w H h)(e:H a=la (.ins C y fs)):∃j,ObjM h a y C j/\(∀f,RelO (fs.lookup f) (j f))/\PySem.Within j (fs.map (·.1))/\fs.length<=1000/\H y=la (.own a):=by
 obtain⟨d,z,I,J,j,n,r,q⟩:=(show je P w H h a (.ins C y fs)from F a _ e);exact⟨j,⟨J,n,I⟩,r,q,z,d⟩

structure nA (K:Lb)(C:Ca):Prop where
 pg:bI K C Str.empty=ma
 hd:PySem.W.hasDictIn K C=ma
 po:PySem.W.plainOver K C=ma
 sa:Nz K (.ref C) "__setattr__" = la (la (.builtin "object.__setattr__"))
def nA.get  {K:Lb}(c:nA K C) f:bI K C f=ma:=c.pg
structure Con (K:Lb)(C:Ca)(f:Str)(v:V)(u:Da):Prop where
 at_:Nz K (.ref C) f=la (la u)
 rel:RelV v u
 get:kI K u "__get__" = la Aa
 cp:PySem.W.copiedNames.contains f=ua




section
variable {X:Cx}{pins:List (Ca×Obj)}{σ:St}{H:Hp}{s:Ia}{A:Ac}{E:Da->Ia->Prop}{Q:Da->Ia->Prop}{c:Da}{b:Bool}
inductive TyOf (K:Lb)(H:Hp):V->Da->Prop where
 |non:TyOf K H .non (.type "NoneType")
 |bl (x:Bool):TyOf K H (.bl x) (.type "bool")
 |int (i:Int):TyOf K H (.int i) (.type "int")
 |str (x:Str):TyOf K H (.str x) (.type "str")
 |flt (x:UInt64):TyOf K H (.flt x) (.type "float")
 |lst {a:Ca} {xs:List V} (e:H a=la (.lst xs)):TyOf K H (.ref a) (.type "list")
 |frz {a:Ca} {o:Obj} {xs:List V} (e:H a=la (.frz o (.lst xs))):TyOf K H (.ref a) (.type "list")
 |tup {a:Ca} {xs:List V} (e:H a=la (.tup xs)):TyOf K H (.ref a) (.type "tuple")
 |dK {a:Ca} {kvs:List (Ub×V)} (e:H a=la (.dK kvs)):TyOf K H (.ref a) (.type "dict")
 |dT {a:Ca} {kvs:List (List Ub×V)} (e:H a=la (.dT kvs)):TyOf K H (.ref a) (.type "dict")
 |ins {a C dx:Ca} {fs:List (Str×V)} (e:H a=la (.ins C dx fs)) (cl:nA K C) (ha:Nz K (.ref C) "__class__" = la (la (.builtin "object.__class__")))
   (hn:kI K (.builtin "object.__class__") "__get__" = la (la (.builtin "getset_descriptor.__get__"))) (htk:PySem.W.takesIn K (.builtin "object.__class__")=la ma)
   (hm:PySem.W.mroIn K C (.type "object")=la ma):TyOf K H (.ref a) (.ref C)
def vT    (I:Oa X pins σ H s)(j:RelV x u)(ty:TyOf X.K H x t)(e:Ou X.K t c=la b)(h:∀tk,Q (.bool b) { s with toks:=tk }) :
  wpAny (Ja X.prog X.w) A (call (.builtin "isinstance") [u,c]) Q E s:=by
 cases ty with
 |non=>cases(show u=ke from j);exact Ih PySem.W.kitx_none I.kIn Jh e (λz=>nomatch z) h
 |bl y=>cases(show u=Dy y from j);exact Ih PySem.W.kitx_bool I.kIn Jh e (λz=>nomatch z) h
 |int i=>obtain⟨t,q⟩:=(show ∃t,u=um i t from j);cases q;exact Ih PySem.W.kitx_int I.kIn Jh e (λz=>nomatch z) h
 |str y=>obtain⟨t,q⟩:=(show ∃t,u=iu y t from j);cases q;exact Ih PySem.W.kitx_str I.kIn Jh e (λz=>nomatch z) h
 |flt y=>obtain⟨t,q⟩:=(show ∃t,u=Da.float y t from j);cases q;exact Ih PySem.W.kitx_float I.kIn Jh e (λz=>nomatch z) h
 |@lst a Y f=>
  cases(show u=sg a from j);obtain⟨_,_,n,_,F⟩:=(show je X.prog X.w H s.heap a (.lst Y)from I.hok a _ f);exact Ih jI I.kIn ⟨_,F,rfl⟩ e (λz=>nomatch z) h
 |@frz a ob Y f=>
  cases(show u=sg a from j);obtain⟨_,_,_,n,_,F⟩:=(show je X.prog X.w H s.heap a (.frz ob (.lst Y))from I.hok a _ f);exact Ih jI I.kIn ⟨_,F,rfl⟩ e (λz=>nomatch z) h
 |@tup a Y f=>
  cases(show u=sg a from j);obtain⟨_,_,_,p⟩:=(show je X.prog X.w H s.heap a (.tup Y)from I.hok a _ f);obtain⟨o,F,Z,_⟩:=p;exact Ih PySem.W.kitx_tuple I.kIn ⟨o,F,Z⟩ e (λz=>nomatch z) h
 |@dK a R f=>
  cases(show u=sg a from j);obtain⟨_,_,vs,_,p⟩:=(show je X.prog X.w H s.heap a (.dK R)from I.hok a _ f);obtain⟨o,es,ep,F,Z,_⟩:=p;exact Ih iI I.kIn ⟨o,F,Z.1⟩ e (λz=>nomatch z) h
 |@dT a R f=>
  cases(show u=sg a from j);obtain⟨_,_,Y,_,o,es,ep,F,Z,_⟩:=(show je X.prog X.w H s.heap a (.dT R)from I.hok a _ f);exact Ih iI I.kIn ⟨o,F,Z.1⟩ e (λz=>nomatch z) h
 |@ins a C dx fs f cl ha hn xa hm=>
  cases(show u=sg a from j);obtain⟨mA,O,_⟩:=HP I.hok f;obtain⟨od,J,_⟩:=O.look;exact Ih (PySem.W.kitx_own (cl.get _) cl.hd ha hn xa hm) I.kIn J e (λz=>nomatch z) h
end

structure Room (k:Nat)(A:Ac):Prop where
 hd:A.handled=Aa
 dp:A.depth+k+20<recursionLimit
 un:A.units+8*k+200<Xb
 gd:A.guards=la []
def Room.mono    (r:Room k A)(h:j<=k):Room j A:=⟨r.hd,by have:=r.dp;lia,by have:=r.un;lia,r.gd⟩
def Room.deeper    (r:Room (k+1) A) env:Room k (A.deeper env):=
 ⟨r.hd,by have:=r.dp;show A.depth+1+k+20<_;lia,by have:=r.un;show A.units+3+8*k+200<_;lia,r.gd⟩
def Room.depth    (r:Room k A):A.depth<recursionLimit:=by have:=r.dp;lia
def Room.units    (r:Room k A):A.units+64<Xb:=by have:=r.un;lia
def Room.units0    (r:Room k A):A.units<Xb:=by have:=r.un;lia

def tNil  : TA:=λ_ H Q=>Q [] H
def HM  (q:TE)(z:TA):TA:=λf H Q=>q f H λx F=>z f F λj y=>Q (x::j) y
section
variable {X:Cx}{e:La}{es:List La}{te:TE}{t:TA}{pos:Pos}
def eN  : PA X [] tNil:=λ_ _ _ _ H Q I h=>Calls.spliced_nil ⟨[],H,I,.nil,h⟩
def wP (z:PE X e te)(R:PA X es t)(hs:md (e::es) X.env=(ua,Ib e X.env)::md es X.env:=by rfl):PA X (e::es) (HM te t):=by
 intro j f s q H Q I h;rw[hs];show wpAny _ _ (spliced ((ua,Ib e X.env)::Sc j (md es X.env))) _ _ s;refine VH (Pb (z f s q H _ I h) λu s1 ⟨x,Y,J,r1,q1⟩=>?_);exact Pb (R j f s1 q Y _ J q1) λZ s2 ⟨y,O,F,r2,q2⟩=>⟨x::y,O,F,.cons r1 r2,q2⟩

def tTup  (t:TA):TE:=λq H Q=>t q H λf j=>f.length<=Za/\∀p,j p=Aa->Q (.ref p) (upd j p (.tup f))
def tLst  (t:TA):TE:=λq H Q=>t q H λf j=>f.length<=Za/\∀p,j p=Aa->Q (.ref p) (upd j p (.lst f))
def UO   (h:PA X es t):PE X (.Tuple es Z pos) (tTup t):=by
 intro f s J H Q I R;refine wpAny_Tuple_spliced (Pb (h pos f s J H _ I R) λY s1 ⟨F,y,j,r,z,q⟩=>⟨by rw[<- r.length];exact z,?_⟩)
 have O:y s1.heap.objs.size=Aa:=j.hok.fresh (Db _);refine⟨.ref s1.heap.objs.size,upd y s1.heap.objs.size (.tup F),j.laid (t':=s1.toks) (λb u e=>Fc _ e) (Db _) ?_,rfl,q _ O⟩;exact⟨z,Y,r,⟨_,Fe _ rfl,rfl,_,rfl,rfl⟩⟩
def iN  (h:PA X es t):PE X (.List es pos) (tLst t):=by
 intro f s J H Q I R;refine wpAny_List_spliced (Pb (h pos f s J H _ I R) λY s1 ⟨F,y,j,r,z,q⟩=>⟨by rw[<- r.length];exact z,?_⟩)
 have O:y s1.heap.objs.size=Aa:=j.hok.fresh (Db _);refine⟨.ref s1.heap.objs.size,upd y s1.heap.objs.size (.lst F),j.laid (t':=s1.toks) (λb u e=>Fc _ e) (Db _) ?_,rfl,q _ O⟩;exact⟨z,Y,0,r,Fe _ rfl⟩
end

abbrev Sp:=List V->Hp->VK->XK->Prop
abbrev Wm:=List Env->Hp->Ia->XK->Da->Ia->Prop

structure Env0 (P:Tb)(w:Cb)(K:Lb)(mg:Str->Option Da)(base:Xa)(A:Ac)(outer:List Env)(s:Ia)(H:Hp):Prop where
 frames:A.frames=la outer
 mod:Mod K mg base
 bs:∀b o,base.get? b=la o->s.heap.get? b=la o/\H b=Aa
 bsz:base.objs.size<=s.heap.objs.size
 funs:s.heap.FunFrames base outer
 frf:∀b∈Ef outer,H b=Aa
 hok:Xd P w H s.heap
 bare:we s.gens
def CE  (outer:List Env)(P:Tb)(w:Cb)(H:Hp)(s:Ia)(Q:VK)(u:Da)(f:Ia):Prop:=
 ∃v j,f.os=s.os/\we f.gens/\Un (Ef outer) [] H j s.heap f.heap/\Xd P w j f.heap/\RelV v u/\Q v j
def CR  (CX:Wm)(outer:List Env)(P:Tb)(w:Cb)(H:Hp)(s:Ia)(Q:VK)(E:XK)(r:Result)(f:Ia):Prop:=
 match r with
 |.ok (.ret u)=>CE outer P w H s Q u f
 |.ok _=>False
 |.error e=>CX outer H s E e f
structure FnOk (P:Tb)(w:Cb)(K:Lb)(mg:Str->Option Da)(base:Xa)(CX:Wm)(k:Nat)(f:Ca)(fd:om)(ps:List Str)(sp:Sp):Prop where
 len:∀vs H Q E,sp vs H Q E->vs.length=ps.length
 run:∀(A:Ac) (outer:List Env) (s:Ia) (H:Hp) (args:Args) (us:List Da) (vs:List V) (Q:VK) (E:XK),Room k A->Env0 P w K mg base A outer s H->Lg s fd args (ps.zip us)->Vals vs us->sp vs H Q E->
  codeAny (Ja P w) A (.call (.ref f) args) (CR CX outer P w H s Q E) s

def Oa.env0  {j: St}(I:Oa X pins j H s):Env0 X.prog X.w X.K X.mg X.base X.A X.stack s H:=
 ⟨I.ok.frames,I.ok.mod,I.bs,Fb I.ok.bsz I.sz,I.stack,I.stkFree,I.hok,I.bare⟩
def Oa.after  {F: St}(I:Oa X pins F H s)(h:CE X.stack X.prog X.w H s Q u J):EP X pins F Q u J:=by
 obtain⟨v,R,Y,bare,un,y,r,q⟩:=h;obtain⟨O,g,d,t,j⟩:=J;obtain rfl:j=s.os:=Y;exact⟨v,R,I.call (h':=O) (g':=g) (d':=d) (t':=t) (ch:=[]) un y bare (λb z=>absurd z (by simp)),r,q⟩

def Binds  (K:Lb)(j:om)(ps:List Str)(f:List Da):Prop:=
 ∀(s:Ia) (us:List Da),K.In s.heap->(us++f).length=ps.length->Lg s j ⟨us,[]⟩ (ps.zip (us++f))
def Binds.all  {K:Lb}(h:∀us ,us.length=ps.length->Tj q ⟨us,[]⟩=pure (ps.zip us)):Binds K q ps []:=λs us _ j=>by
 rw[vh]at j ⊢;exact .of_eq (h us j)





structure FnScope (N P:List Str)(sc:Od):Prop where
 kind:sc.kind=.function
 co:sc.isCoroutine=ua
 gen:sc.isGenerator=ua
 nd:N.Nodup
 pre:N.take P.length=P
 par:∀x∈P,sc.names.lookup x=la .local\/sc.names.lookup x=la .cell
 nofree:∀y∈sc.names,y.2≠.free

theorem ED  {kindOf:Str->Option Qf}:∀{binds } {m },(∀v,(x,v)∉binds)->Ph kindOf binds m x=m x
 |[],_,_=>rfl
 |(n,v)::r,m,h=>by
  unfold Ph;rw[ED λw f=>h w (Pd _ f)];split
  ·have:x≠n:=by rintro rfl;exact h v cf
   simp[this]
  ·rfl
theorem CD  {kindOf:Str->Option Qf}:∀{binds } {m },(∀v,(x,v)∉binds)->Qh kindOf binds m x=m x
 |[],_,_=>rfl
 |(n,v)::r,m,h=>by
  unfold Qh;rw[CD λw f=>h w (Pd _ f)];split
  ·rfl
  ·have:x≠n:=by rintro rfl;exact h v cf
   simp[this]
theorem DD  {kindOf:Str->Option Qf}:∀{P:List Str} {vs } {i:Nat} {m },P.Nodup->P[i]?=la x->vs[i]?=la v->kindOf x=la .local->
  Ph kindOf (P.zip vs) m x=la v
 |[],_,_,_,_,h,_,_=>by simp at h
 |_::_,[],_,_,_,_,h,_=>by simp at h
 |p::P,w::vs,0,m,nd,h1,h2,hk=>by
  simp at h1 h2;subst h1;subst h2;show Ph kindOf ((p,w)::P.zip vs) m p=_;unfold Ph;rw[ED λv f=>(Rb.mp nd).1 (Oy f).1,if_pos hk];simp
 |p::P,w::vs,i+1,m,nd,h1,h2,hk=>by
  show Ph kindOf ((p,w)::P.zip vs) m x=_;unfold Ph;exact DD (i:=i) (Rb.mp nd).2 (by simpa using h1) (by simpa using h2) hk
theorem BD  {kindOf:Str->Option Qf}:∀{P:List Str} {vs } {i:Nat} {m },P.Nodup->P[i]?=la x->vs[i]?=la v->kindOf x≠la .local->
  Qh kindOf (P.zip vs) m x=la v
 |[],_,_,_,_,h,_,_=>by simp at h
 |_::_,[],_,_,_,_,h,_=>by simp at h
 |p::P,w::vs,0,m,nd,h1,h2,hk=>by
  simp at h1 h2;subst h1;subst h2;show Qh kindOf ((p,w)::P.zip vs) m p=_;unfold Qh;rw[CD λv f=>(Rb.mp nd).1 (Oy f).1,if_neg hk];simp
 |p::P,w::vs,i+1,m,nd,h1,h2,hk=>by
  show Qh kindOf ((p,w)::P.zip vs) m x=_;unfold Qh;exact BD (i:=i) (Rb.mp nd).2 (by simpa using h1) (by simpa using h2) hk

noncomputable def start  (N:List Str)(vs:List V):St:=vs.map la++Kb (N.length-vs.length) Aa

noncomputable def cxOf  (CX:Wm)(P:Tb)(w:Cb)(K:Lb)(mg:Str->Option Da)(base:Xa)(N:List Str)(j:Str)(scope:Od)(f:Ca)(y:Da)(A:Ac)(outer:List Env)(s:Ia)(H:Hp)(E:XK):Cx where
 prog:=P
 w:=w
 K:=K
 mg:=mg
 base:=base
 A:=A.deeper (ue j scope s.heap.objs.size f y)
 N:=N
 s₀:=s
 H₀:=H
 env:=ue j scope s.heap.objs.size f y
 outer:=outer
 stack:=ue j scope s.heap.objs.size f y::outer
 ex:=[]
 calm:=ma
 fn:=λ_=>ma
 pn:=[]
 xe:=λe F=>wpAny (Ja P w) (A.deeper (ue j scope s.heap.objs.size f y)) (leaving (ue j scope s.heap.objs.size f y) e) (λ_ q=>CX outer H s E e q) (λz q=>CX outer H s E z q) F

def Uw  {f:Od}(h:f.names.lookup x=la .cell):∃c,(Rf n f.names []).lookup x=la c:=by
 have q:=KI f.names n [] (.inl h);exact Option.isSome_iff_exists.mp q

def WR     {K:Lb} 
  (S:FnScope N ps scope) (hd:A.handled=Aa) (e0:Env0 P w K mg base A outer s H) (hl:vs.length=ps.length) (r:Vals vs us)
  (x:InCallC s s.heap.objs.size (Ph (ue F scope s.heap.objs.size f cd).kindOf (ps.zip us) λ_=>Aa) (Rf (s.heap.objs.size+1) scope.names []) (Qh (ue F scope s.heap.objs.size f cd).kindOf (ps.zip us) λ_=>Aa) s1) :
  Oa (cxOf CX P w K mg base N F scope f cd A outer s H E) [] (start N vs) H s1:=by
 have xa:ps.length<=N.length:=by have:=congrArg Cp S.pre;rw[Zh]at this;lia
 obtain⟨Z,tk,rfl,hk⟩:=x.done;have I:∀b:Ca,b∉(cxOf CX P w K mg base N F scope f cd A outer s H E).ex:=λb z=>absurd (show b∈([]:List Ca)from z) (by simp)
 refine⟨⟨e0.mod,S.kind,rfl,rfl,Db _,λy z c Z j=>?_,λy J=>?_,λy c _ h=>?_,λ_=>hd,Ac.frames_deeper e0.frames,.inr ⟨rfl,rfl⟩,λb z=>absurd z (I b),e0.bs,e0.bsz,λb _ _=>I b,λb z=>absurd z (I b),e0.funs,e0.frf⟩,
  rfl,e0.bare,Un.kept hk,⟨_,x.toInCall.ns,λi y v Z j h3=>?_⟩,λy c h=>⟨_,x.cell y c h⟩,e0.hok.fresh (Db _),λy c h=>?_,λp O=>absurd (show p∈([]:List (Ca×Obj))from O) (by simp),e0.hok.kept hk,?_⟩
 ·exact name_of_addr x.apart (Fg Z) (Fg j)
 ·have J:scope.names.lookup y=la .cell\/scope.names.lookup y=la .free:=J;rcases J with J|J
  ·exact Uw J
  ·exact absurd rfl (S.nofree _ (Fg J))
 ·exact Ki (x.above y c (Fg h))
 ·have Y:i<vs.length:=by
   unfold start at j;by_cases Y:i<vs.length
   ·exact Y
   ·rw[bq (by simpa using Y)]at j
    rw[ZI]at j;split at j<;>cases j
  have ha:vs[i]?=la v:=by
   unfold start at j;rw[Lh (by simpa using Y),Lc]at j
   cases e:vs[i]? with
   |none=>rw[e]at j;cases j
   |some a=>rw[e]at j;cases j;rfl
  obtain⟨u,hu,rv⟩:=r.get ha;have O:ps[i]?=la y:=by
   rw[<- S.pre,List.getElem?_take_of_lt (by lia)];exact Z
  have R:ps.Nodup:=by rw[<- S.pre];exact S.nd.sublist (oI _ _)
  refine⟨u,rv,?_⟩;rcases S.par y (Cd O)with k|k
  ·exact .inl ⟨k,DD R O hu k⟩
  ·obtain⟨c,e⟩:=Uw (n:=s.heap.objs.size+1) k;refine .inr ⟨.inl k,c,e,?_⟩;have q:=x.cell y c e;rw[BD R O hu (by show scope.names.lookup y≠_;rw[k];decide)]at q
   exact q
 ·exact e0.hok.fresh (Ki (x.above y c (Fg h)))
 ·unfold start;show _=N.length;rw[Ae,Ua,List.length_replicate]
  lia

def qL     {K : Lb}{dV kV xa pm z ct oc : Da} 
       (lk : K.lookup f = la ⟨oc, od, .func (Mi name j params body scope dV kV xa pm an z ct), ka⟩) (va : Up K z j = ma) (S : FnScope N ps scope)
    (len : ∀ vs H Q E, sp vs H Q E -> vs.length = ps.length)
    (R : ∀ (A : Ac) outer (s : Ia) H (vs : List V) Q E , Room k (A.deeper (ue j scope s.heap.objs.size f z)) -> sp vs H Q E ->
      ∃ t, xf (cxOf CX P w K mg base N j scope f z A outer s H E) body t /\ t { nx := λ_ O => Q .non O, rt := Q } (start N vs) H) :
    FnOk P w K mg base CX (k + 1) f (Mi name j params body scope dV kV xa pm an z ct) ps sp := by
  refine ⟨len, λA outer s H wa us vs Q E hr e0 hb r za => ?_⟩
  have hl := len _ _ _ _ za
  have KX : K.In s.heap := e0.mod.kin.keeps λb o e => (e0.bs b o e).1
  have ya : s.heap.NoLimit := e0.mod.nolimit.keeps λb o e => (e0.bs b o e).1
  have Y : ∀ y ∈ ps.zip us, scope.names.lookup y.1 = la .local \/ (scope.names.lookup y.1 = la .cell /\ ((Rf (s.heap.objs.size + 1) scope.names []).lookup y.1).isSome = ma) := λ⟨n, v⟩ hy => by
    rcases S.par n (Oy hy).1 with q | q
    · exact .inl q
    · exact .inr ⟨q, KI _ _ _ (.inl q)⟩
  refine codeAny_call_function hr.depth (KX _ _ lk) rfl S.co S.gen rfl (PySem.W.codeRec_of KX va) (hb _ _ _ _ ?_)
  refine wpAny_newFunctionEnv_cells S.kind Y λha he s1 x => ?_
  subst he
  refine ⟨ya.keeps x.toInCall.keep, codeAny_func ?_⟩
  obtain ⟨t, ht, hq⟩ := R A outer s H vs Q E (hr.deeper _) za
  have I : Oa (cxOf CX P w K mg base N j scope f z A outer s H E) [] (start N vs) H s1 := WR S hr.hd e0 hl r x
  refine ng (ht [] s1 (start N vs) H _ I hq) (λfl s' Z => ?_) λe s' Z => Z
  have ja : ∀ {F : St} {O : Hp} {v : V} {u : Da}, Oa (cxOf CX P w K mg base N j scope f z A outer s H E) [] F O s' -> RelV v u -> Q v O -> CE outer P w H s Q u s' :=
    λ{F O v u} J rv q => ⟨v, O, J.os, J.bare, J.base, J.hok, rv, q⟩
  cases fl with
  | ret u =>
    obtain ⟨v, F, O, J, rv, q⟩ := Z
    exact ja J rv q
  | next =>
    obtain ⟨F, O, J, q⟩ := Z
    exact ja (v := V.non) (u := ke) J rfl q
  | brk =>
    obtain ⟨_, _, _, q⟩ := Z
    exact Dm q
  | cont =>
    obtain ⟨_, _, _, q⟩ := Z
    exact Dm q
section
variable {X:Cx}{x:Str}{p pos:Pos}{e:La}{es:List La}{t:TA}{id T:String}{r:List V->Hp->VK->Prop}

def sv  (r:List V->Hp->VK->Prop)(t:TA):TE:=λj H Q=>t j H λf q=>r f q Q
def xR (F:Ye X (.builtin id) r)(hg:Gl X x)(J:X.mg x=Aa)(z:Pi x=la (.builtin id))(Y:PA X (e::es) t)(Z:x ≠ "__name__" := by decide)(q:(x==("__debug__" : Str))=ua:=by decide)
  (R:md (e::es) X.env=(ua,Ib e X.env)::md es X.env:=by rfl) (j:(Sc pos (md es X.env)).any (·.1)=ua:=by rfl):PE X (.Call (.Name x p) (e::es) [] pos) (sv r t):=by
 intro f s y H Q I h;refine Fp (Rk I hg J z ?_ Z q);exact PyProof.Rows.callWith_builtin1 (Pb (Y pos f s y H _ I h) λO s1 ⟨vs,H1,I1,r1,q1⟩=>F f s1 y H1 vs O Q I1 r1 q1) R j
def Kt (F:Ye X (.type T) r)(hg:Gl X x)(J:X.mg x=Aa)(z:Pi x=la (.type T))(Y:PA X (e::es) t)(Z:x ≠ "__name__" := by decide)(q:(x==("__debug__" : Str))=ua:=by decide)
  (R:md (e::es) X.env=(ua,Ib e X.env)::md es X.env:=by rfl) (j:(Sc pos (md es X.env)).any (·.1)=ua:=by rfl):PE X (.Call (.Name x p) (e::es) [] pos) (sv r t):=by
 intro f s y H Q I h;refine Fp (Rk I hg J z ?_ Z q);exact dq (Pb (Y pos f s y H _ I h) λO s1 ⟨vs,H1,I1,r1,q1⟩=>F f s1 y H1 vs O Q I1 r1 q1) R j
end
end L2

namespace HT
open PySem PyProof.Rows

noncomputable def lexLt  : List Int->List Int->Bool
 |[],[]=>ua
 |[],_::_=>ma
 |_::_,[]=>ua
 |x::xs,y::ys=>if x=y then lexLt xs ys else decide (x<y)
def lexLt_cons   x y xs ys:lexLt (x::xs) (y::ys)=if x=y then lexLt xs ys else decide (x<y):=rfl
def lexLt_nil_nil  : lexLt [] []=ua:=rfl
def lexLt_nil_cons   y ys:lexLt [] (y::ys)=ma:=rfl
def lexLt_cons_nil   x xs:lexLt (x::xs) []=ua:=rfl

def eqAt_int   A s a (t:Tok) c u:∃e,kg A s (.int a t) (.int c u) e/\(e=ma↔a=c):=
 ⟨(a==c),fJ a t c u,by simp⟩
def rcLt_int   A s a t c u prog w E Q (h:Q (.bool (decide (a<c))) s) :
  wpAny (Ja prog w) A (richCompare .Lt (.int a t) (.int c u)) Q E s:=
 (PyProof.Rows.lt_int h:wpAny (Ja prog w) A (ee .Lt (.int a t) (.int c u)) Q E s)

section
open PySem.SeqAt
open PySem.AutoSeq1 (wpAny_loadPart')
open PySem.MeetsSeq PySem.MeetsSeq2 PySem.MeetsSeq3

end

section
variable {prog:Tb}{w:Cb}{A:Ac}{E:Da->Ia->Prop}{s:Ia}

def cat_tup     (ht:Rh s.heap t vs.toArray)(hb:Rh s.heap b ws.toArray)(O:vs≠[])
  (h1:ws=[]->Q (.ref t) s) (h2:ws≠[]->Q (.ref s.heap.objs.size) { s with heap:=s.heap.push { cls:=.type "tuple",data:=.seq (vs++ws).toArray } })
  (hsz:vs.length+ws.length<=Za):wpAny (Ja prog w) A (Oe .Add (.ref t) (.ref b)) Q E s:=by
 obtain⟨⟨cls,Y,data,sl⟩,I,R,n,hd⟩:=id ht;obtain⟨⟨xa,z,J,y⟩,f,j,Z,q⟩:=id hb;simp only at R hd j q;subst R hd j q;have e:vs.toArray++ws.toArray=(vs++ws).toArray:=by simp
 by_cases F:ws=[]
 ·exact oy ⟨_,I,rfl⟩ ⟨_,f,rfl⟩ Wy Iy Uz Wz (Xz _ _)
   (tuple_addW1 t b vs.toArray ws.toArray n Z Y z sl y (by simpa using O) (by simp[F])) ⟨I,f,h1 F⟩
 ·refine oy ⟨_,I,rfl⟩ ⟨_,f,rfl⟩ Wy Iy Uz Wz (Xz _ _)
   (tuple_addW2 t b vs.toArray ws.toArray n Z Y z sl y (by simpa using O) (by simpa using F) (by rw[Bd,Bd];exact hsz)) ⟨I,f,?_⟩
  rw[e];exact h2 F

noncomputable def sIx  (n d:Nat):Option Int->Nat
 |none=>d
 |some v=>if v<0 then (v+(n:Int)).toNat else min v.toNat n
def sIx_none   n d:sIx n d Aa=d:=rfl
def sIx_nat  (n d k:Nat):sIx n d (la (k:Int))=min k n:=by
 show(if (k:Int)<0 then ((k:Int)+(n:Int)).toNat else min (k:Int).toNat n)=min k n
 rw[if_neg (by lia),Hl]
def CO   n d (hd:d<=n) o:sIx n d o<=n:=by
 cases o with
 |none=>exact hd
 |some v=>
  show(if v<0 then (v+(n:Int)).toNat else min v.toNat n)<=n
  by_cases f:v<0
  ·rw[if_pos f];lia
  ·rw[if_neg f];exact Nat.min_le_right _ _
def cC   v (n d:Nat):(if v<0 then max (v+(n:Int)) 0 else min v (n:Int))=((sIx n d (la v):Nat):Int):=by
 show(if v<0 then max (v+(n:Int)) 0 else min v (n:Int))=(((if v<0 then (v+(n:Int)).toNat else min v.toNat n):Nat):Int)
 by_cases f:v<0
 ·simp only[if_pos f];lia
 ·simp only[if_neg f];lia
def OS   lo hi (n:Nat):cq lo hi 1 (n:Int)=(((sIx n 0 lo:Nat):Int),((sIx n n hi:Nat):Int)):=by
 have f:¬((1:Int)<0):=by lia
 unfold cq;simp only[f,if_false];refine Aj ?_ ?_
 ·cases lo with
  |none=>rfl
  |some v=>exact cC v n 0
 ·cases hi with
  |none=>rfl
  |some v=>exact cC v n n
def JT  (i j:Nat):Jj (i:Int) (j:Int) 1=j-i:=by
 unfold Jj;have f:(1:Int)>0:=by lia
 simp only[f,if_true,wy];split<;>lia
def Xo     (p:Me v o)(h:Q o s):wpAny (Ja prog w) A (Ob.Slice.slicePartIndex v) Q E s:=by
 cases p with
 |none=>exact slicePart_none h
 |int i t=>exact slicePart_int h
def YG    {lo hi:Option Int}{n:Nat}(hs:s.heap.IsSliceOf I y q .none)(F:Me y lo)(J:Me q hi)
  (h:Q (((sIx n 0 lo:Nat):Int),1,sIx n n hi-sIx n 0 lo) s):wpAny (Ja prog w) A (Wu (.ref I) (pure (n:Int))) Q E s:=by
 obtain⟨O,j,z,f⟩:=id hs;unfold Wu uJ;refine Ab (Ab (gi j f (x:=y) rfl (Ab (gi j f (x:=q) rfl (Ab (gi j f (x:=.none) rfl (fc ?_)))))));refine Ab (slicePart_none ?_);show wpAny _ _ (if ((1:Int)==0)=ma then _ else _) _ _ s
 rw[if_neg (by decide)]
 refine Ab (Xo F (Ab (Xo J (Ab (fc ?_)))));show wpAny _ _ (match cq lo hi 1 (n:Int)with|(lo,hi)=>pure (lo,(1:Int),Jj lo hi 1)) _ _ s
 rw[OS lo hi n];show wpAny _ _ (pure (((sIx n 0 lo:Nat):Int),(1:Int),Jj ((sIx n 0 lo:Nat):Int) ((sIx n n hi:Nat):Int) 1)) _ _ s;rw[JT];exact fc h
def wS  (xs:Array Da)(i k:Nat):((Qc k).filterMap λ(m:Nat)=>xs[((i:Int)+(m:Int)*1).toNat]?).toArray=((xs.toList.drop i).take k).toArray:=by
 have e:(λ(m:Nat)=>xs[((i:Int)+(m:Int)*1).toNat]?)=λm=>xs[i+m]?:=by
  funext m;have:((i:Int)+(m:Int)*1).toNat=i+m:=by lia
  rw[this]
 rw[e];have:=pick_run xs i k;rw[AI]at this;have f:((λx=>xs[x]?) ∘ λx=>i+x)=λm=>xs[i+m]?:=rfl;rw[f]at this;rw[this]

def getItem_tuple_cut     {lo hi:Option Int}(j:Rh s.heap t items)(hs:s.heap.IsSliceOf J vl O .none)(pl:Me vl lo)(Z:Me O hi)
  (R:¬(sIx items.size 0 lo=0/\sIx items.size items.size hi=items.size))
  (h:Q (.ref s.heap.objs.size) { s with heap:=s.heap.push { cls:=.type "tuple",data:=.seq ((items.toList.drop (sIx items.size 0 lo)).take (sIx items.size items.size hi-sIx items.size 0 lo)).toArray } })
  (hsz:items.size<=Za):wpAny (Ja prog w) A (Dd (.ref t) (.ref J)) Q E s:=by
 have f:sizeOk (.seq ((items.toList.drop (sIx items.size 0 lo)).take (sIx items.size items.size hi-sIx items.size 0 lo)).toArray):=by
  show((items.toList.drop (sIx items.size 0 lo)).take (sIx items.size items.size hi-sIx items.size 0 lo)).toArray.size<=Za;rw[Bd,Zh,Qu,Al]
  lia
 have hj:sIx items.size items.size hi<=items.size:=CO _ _ (Db _) hi;obtain⟨Y,I,y,xa⟩:=id hs;have z:s.TypeIs (.ref J) "slice" := ⟨Y,I,y⟩;unfold Dd
 try with_reducible refine Gj ?_
 first|refine Ab (fc ?_)|skip
 refine Ab (My j.typeIs (by decide) ?_)
 refine Ab (Eu (name:=Li "__getitem__") j.typeIs Qi
  (Bm Qi j.typeIs Gz ?_ (Pz _ _)))
 show wpAny _ _ (Rz (.ref t) >>= _) _ _ s;refine Ab (qy j ?_);refine Ab (bu z ?_);rw[if_pos (by decide)]
 refine Ab (YG hs pl Z ?_);have F:¬((((sIx items.size 0 lo:Nat):Int)==0&&(1:Int)==1&&(sIx items.size items.size hi-sIx items.size 0 lo)==items.size)=ma):=by
  intro q;rw[Hf,Hf]at q;have q1:((sIx items.size 0 lo:Nat):Int)=0:=eq_of_beq q.1.1;have q2:sIx items.size items.size hi-sIx items.size 0 lo=items.size:=eq_of_beq q.2;exact R ⟨by lia,by lia⟩
 show wpAny _ _ (if (((sIx items.size 0 lo:Nat):Int)==0&&(1:Int)==1&&(sIx items.size items.size hi-sIx items.size 0 lo)==items.size)=ma then _ else _) _ _ s
 rw[if_neg F,wS]
 first
  |exact Ab (m:=Hj _) (xh (fc ⟨_,rfl,fc h⟩) f)
  |exact Ab (m:=Hj _) (xh (Ab (fc (fc ⟨_,rfl,fc h⟩))) f)
  |exact Ab (Ab (m:=Hj _) (xh (fc (fc ⟨_,rfl,fc h⟩)) f))
  |exact Ab (Ab (m:=Hj _) (xh (fc ⟨_,rfl,fc h⟩) f))
end
end HT

namespace L2
open PySem PySem.Spec PyProof.Rows

abbrev TO:=St->Hp->(Option Int->Hp->Prop)->Prop
def PO  (X:Cx)(e:Option La)(t:TO):Prop:=
 ∀(f:List (Ca×Obj)) (s:Ia) (σ:St) (H:Hp) (Q:Option Int->Hp->Prop),Oa X f σ H s->t σ H Q->
  wpAny (Ja X.prog X.w) X.A (evalPart e X.env) (λu q=>∃o j,Oa X f σ j q/\Me u o/\Q o j) X.xe s
def LQ  : TO:=λ_ H Q=>Q Aa H
def bM  (t:TE):TO:=λf H Q=>t f H λx j=>∃i,x=.int i/\Q (la i) j


def aR  : PO X Aa LQ:=by
 intro f s j H Q I h;rw[Fy];exact fc ⟨Aa,H,I,.none,h⟩
def bR  (h:PE X e te):PO X (la e) (bM te):=by
 intro f s j H Q I y;rw[evalPart_some];refine Pb (h f s j H _ I y) λu s1 ⟨x,F,z,r1,q1⟩=>?_;obtain⟨i,rfl,q⟩:=q1;obtain⟨t,rfl⟩:=r1;exact⟨la i,F,z,.int i t,q⟩

def dh  (X:Cx)(r:V->Option Int->Option Int->Hp->VK->Prop):Prop:=
 ∀(f:List (Ca×Obj)) (s:Ia) (σ:St) (H:Hp) (x:V) (v vl vu:Da) (lo hi:Option Int) (sl:Ca) (Q:VK),Oa X f σ H s->RelV x v->s.heap.IsSliceOf sl vl vu .none->Me vl lo->Me vu hi->r x lo hi H Q->
  ∃T j,typeLookup (.type T) "__getitem__" = pure (la (.builtin j))/\s.TypeIs v T/\wpAny (Ja X.prog X.w) X.A (Dd v (.ref sl)) (EP X f σ Q) X.xe s
def dh.or   (h:dh X r)(h':dh X r'):dh X (λx lo hi H Q=>r x lo hi H Q\/r' x lo hi H Q):=by
 intro j s J H x v Z y lo hi R Q I Y F O pu q;rcases q with q|q
 ·exact h j s J H x v Z y lo hi R Q I Y F O pu q
 ·exact h' j s J H x v Z y lo hi R Q I Y F O pu q
def OJ  (r:V->Option Int->Option Int->Hp->VK->Prop)(F:TE)(j z:TO):TE:=λf H Q=>F f H λx I=>j f I λl y=>z f y λu q=>r x l u q Q
def BR  {lo: Option La}(hr:dh X r)(he:PE X e te)(hl:PO X lo tl)(hu:PO X hi th):PE X (.Subscript e (.Slice lo hi Aa Y) pos) (OJ r te tl th):=by
 intro f s y H Q I h;refine mn (Pb (he f s y H _ I h) λv s1 ⟨x,H1,I1,r1,q1⟩=>?_);refine wpAny_Slice (Pb (hl f s1 y H1 _ I1 q1) λF s2 ⟨l,H2,R,pl,q2⟩=>Pb (hu f s2 y H2 _ R q2) λz j ⟨u,J,I3,pu,q3⟩=>?_);rw[Fy];refine fc ?_;have I4:Oa X f y J { j with heap:=j.heap.push { cls:=.type "slice",data:=.fields #[F,z,.none] } }:=I3.kept (t':=j.toks) λb ob q=>Fc _ q
 obtain⟨T,id,hT,O,Z⟩:=hr f { j with heap:=j.heap.push { cls:=.type "slice",data:=.fields #[F,z,.none] } } y J x v F z l u j.heap.objs.size Q I4 r1 (fe.new ..) pl pu q3;show wpAny (Ja X.prog X.w) X.A (qu e (.Slice lo hi Aa Y) v (.ref j.heap.objs.size)) (EP X f y Q) X.xe { j with heap:=j.heap.push { cls:=.type "slice",data:=.fields #[F,z,.none] } }
 exact Pj (ops:=[.ref j.heap.objs.size,v]) O hT Z (by with_unfolding_all rfl)

def cutV  (xs:List V)(lo hi:Option Int):List V:=(xs.drop (HT.sIx xs.length 0 lo)).take (HT.sIx xs.length xs.length hi-HT.sIx xs.length 0 lo)
def aF  (xs:List V) lo hi:(cutV xs lo hi).length<=xs.length:=by
 unfold cutV;rw[Zh,Qu]
 lia
def rSlT  (K:Lb):V->Option Int->Option Int->Hp->VK->Prop:=λx j q H Q=>∃a f,x=.ref a/\td K H a f/\
 ¬(HT.sIx f.length 0 j=0/\HT.sIx f.length f.length q=f.length)/\∀p,H p=Aa->Q (.ref p) (upd H p (.tup (cutV f j q)))
def NO  : dh X (rSlT X.K):=by
 intro R s σ H x v vl vu y F sl Q I rx hs Y Z h;obtain⟨a,j,rfl,hx,hw,q⟩:=h;cases rx;obtain⟨z,r,J,O⟩:=I.tuple hx;have f:z.toArray.size=j.length:=by rw[Bd];exact r.length.symm
 refine⟨"tuple",_,Qi.lookup,J.typeIs,?_⟩;refine HT.getItem_tuple_cut J hs Y Z (by rw[f];exact hw) ?_ (by rw[f];exact O)
 rw[f];refine⟨.ref s.heap.objs.size,_,I.laid (t':=s.toks) (o:=.tup (cutV j y F)) (λb ob q=>Fc _ q) (Db _) ?_,rfl,q _ (I.hok.fresh (Db _))⟩;exact⟨Fb (aF j y F) O,_,(r.drop (HT.sIx j.length 0 y)).take (HT.sIx j.length j.length F-HT.sIx j.length 0 y),TupD.new _ _⟩

def aL  (K:Lb):R2:=λx y H Q=>∃a b j f,x=.ref a/\y=.ref b/\td K H a j/\td K H b f/\j≠[]/\j.length+f.length<=Za/\
 (f=[]->Q (.ref a) H)/\(f≠[]->∀p,H p=Aa->Q (.ref p) (upd H p (.tup (j++f))))
def Vals.nil_iff    (r:Vals xs us):us=[]↔xs=[]:=by
 cases r with
 |nil=>simp
 |cons _ _=>simp
def qP  : Cc X (Oe .Add) (aL X.K):=by
 intro f s σ H x y v u Q I rx O h;obtain⟨a,b,Y,ys,rfl,rfl,Z,R,J,j,q1,q2⟩:=h;cases rx;cases O;obtain⟨xa,r1,p1,_⟩:=I.tuple Z;obtain⟨F,r2,p2,_⟩:=I.tuple R;refine HT.cat_tup p1 p2 (λz=>J (r1.nil_iff.mp z)) (λz=>⟨.ref a,H,I,rfl,q1 (r2.nil_iff.mp z)⟩) (λz=>?_) (by rw[<- r1.length,<- r2.length];exact j)
 refine⟨.ref s.heap.objs.size,_,I.laid (t':=s.toks) (o:=.tup (Y++ys)) (λb ob q=>Fc _ q) (Db _) ?_,rfl,q2 (λw=>z (r2.nil_iff.mpr w)) _ (I.hok.fresh (Db _))⟩;exact⟨by rw[Ae];exact j,_,r1.append r2,TupD.new _ _⟩

noncomputable def gg  (n:Nat)(i:Int):Option Nat:=if 0<=i then (if i<n then la i.toNat else Aa) else if -(n:Int)<=i then la (i+n).toNat else Aa
def atI  {f:Type}(xs:List f)(i:Int):Option f:=(gg xs.length i).bind λj=>xs[j]?
def OC     (h:gg n i=la j):Yt i n=la j/\j<n/\-(n:Int)<=i/\i<n:=by
 unfold gg at h;by_cases h0:0<=i
 ·rw[if_pos h0]at h;by_cases f:i<n
  ·rw[if_pos f]at h;have e:i.toNat=j:=Zc h;exact⟨by rw[Qj h0 f,e],by lia,by lia,f⟩
  ·rw[if_neg f]at h;cases h
 ·rw[if_neg h0]at h;by_cases f:-(n:Int)<=i
  ·rw[if_pos f]at h;have e:(i+n).toNat=j:=Zc h;exact⟨by rw[Jy (by lia) f,e],by lia,f,by lia⟩
  ·rw[if_neg f]at h;cases h
def Dw      (h:atI xs i=la v):∃j,Yt i xs.length=la j/\xs[j]?=la v/\j<xs.length/\-(xs.length:Int)<=i/\i<xs.length:=by
 unfold atI at h;cases e:gg xs.length i with
 |none=>rw[e]at h;cases h
 |some j=>
  rw[e]at h;obtain⟨z,q,y,f⟩:=OC e;exact⟨j,z,h,q,y,f⟩
def tf    {j:Nat}{v:α}(h:xs[j]?=la v):atI xs (j:Int)=la v:=by
 have f:j<xs.length:=(Ba.mp h).1;have e:gg xs.length (j:Int)=la j:=by
  unfold gg;rw[if_pos (by lia),if_pos (by lia)];simp
 unfold atI;rw[e];exact h
def Bw  (b:La):Prop:=∀o i,subscripted b ua o i=operate [o,i] (Dd o i)
def ii  (X:Cx)(r:R2):Prop:=
 ∀(j f:La) (pins:List (Ca×Obj)) (s:Ia) (σ:St) (H:Hp) (x y:V) (v u:Da) (Q:VK),Oa X pins σ H s->RelV x v->RelV y u->r x y H Q->
  subscripted f ua v u=operate [v,u] (Dd v u)->wpAny (Ja X.prog X.w) X.A (qu j f v u) (EP X pins σ Q) X.xe s
def Ml  (X:Cx)(id:String)(r:V->List V->Hp->VK->Prop):Prop:=
 ∀(f:List (Ca×Obj)) (s:Ia) (σ:St) (H:Hp) (x:V) (xs:List V) (v:Da) (us:List Da) (Q:VK),Oa X f σ H s->RelV x v->Vals xs us->r x xs H Q->
  wpAny (Ja X.prog X.w) X.A (call (.builtin id) (v::us)) (EP X f σ Q) X.xe s

def ii.or   (h:ii X r)(h':ii X r'):ii X (λx y H Q=>r x y H Q\/r' x y H Q):=by
 intro F j J s R H x y v u Q I Y Z q O;rcases q with q|q
 ·exact h F j J s R H x y v u Q I Y Z q O
 ·exact h' F j J s R H x y v u Q I Y Z q O
def Ml.or  {id:String}(h:Ml X id r)(h':Ml X id r'):Ml X id (λx xs H Q=>r x xs H Q\/r' x xs H Q):=by
 intro j s y H x xs v O Q I J F q;rcases q with q|q
 ·exact h j s y H x xs v O Q I J F q
 ·exact h' j s y H x xs v O Q I J F q
def OK   (Z:ii X r)(z:PE X a ta)(j:PE X b tb)(hs:Bw b):PE X (.Subscript a b pos) (rq r ta tb):=by
 intro f s F H Q I h;exact mn (binT z j I h λv u s2 x y R J O Y q=>Z a b f s2 F R x y v u Q J O Y q (hs _ _))

def rIxL  (K:Lb):R2:=λx y H Q=>∃p f i v,x=.ref p/\y=.int i/\Nd K H p f/\atI f i=la v/\Q v H
def rIxT  (K:Lb):R2:=λx y H Q=>∃p f i v,x=.ref p/\y=.int i/\td K H p f/\atI f i=la v/\Q v H
def rIxS  : R2:=λx y H Q=>∃z i c,x=.str z/\y=.int i/\z.length<=Za/\atI z.cps.toList i=la c/\Q (.str ⟨#[c]⟩) H
def OP  : ii X (rIxL X.K):=by
 intro R xa f s σ H x y v u Q I rx ry h hs;obtain⟨p,xs,i,z,rfl,rfl,hq,he,q⟩:=h;cases rx;obtain⟨t,rfl⟩:=ry;obtain⟨O,r,Y,hz⟩:=I.list hq;obtain⟨j,J,h2,h3,h4,h5⟩:=Dw he;obtain⟨w,ew,Z⟩:=r.get h2;have hl:=r.length;have hn:=Tk;have F:EP X f σ Q w s:=⟨z,H,I,Z,q⟩;by_cases h0:0<=i
 ·have hj:i.toNat=j:=by
   rw[Qj h0 h5]at J;exact Zc J
  exact item_listR Y.isList h0 (by lia) (by rw[hj];simpa using ew) F hs
 ·have hj:(i+(O.toArray.size:Int)).toNat=j:=by
   rw[Jy (by lia) h4]at J
   rw[Bd,<- hl];exact Zc J
  exact vI (x:=w) Y.isList.typeIs Mf.lookup
   (wpAny_getItem_list_neg (Q:=λr s'=>r=w/\EP X f σ Q r s') Y.isList (by lia) (by rw[Bd]<;>lia) (by lia) (by rw[hj];simpa using ew) ⟨rfl,F⟩) hs
def nN  : ii X (rIxT X.K):=by
 intro F O f s Z H x y v u Q I rx ry h hs;obtain⟨p,xs,i,z,rfl,rfl,hq,he,q⟩:=h;cases rx;obtain⟨t,rfl⟩:=ry;obtain⟨xa,r,Y,hz⟩:=I.tuple hq;obtain⟨j,h1,h2,h3,h4,h5⟩:=Dw he;obtain⟨w,ew,J⟩:=r.get h2;have hl:=r.length;have hn:=Tk;have R:EP X f Z Q w s:=⟨z,H,I,J,q⟩;exact vI (x:=w) Y.typeIs slot_tuple_getitem.lookup
  (getItem_tuple (j:=j) (Q:=λr s'=>r=w/\EP X f Z Q r s') Y (by lia) (by lia) (by rw[Bd,<- hl];exact h1) (by simpa using ew) ⟨rfl,R⟩) hs
def lN  : ii X rIxS:=by
 intro f F O s σ H x y v u Q I rx Y h R;obtain⟨z,i,c,rfl,rfl,hz,he,q⟩:=h;obtain⟨t,rfl⟩:=rx;obtain⟨t',rfl⟩:=Y;obtain⟨j,J,h2,h3,h4,h5⟩:=Dw he;have hl:z.cps.toList.length=z.length:=by simp[Str.length]
 rw[hl]at J h4 h5;have hn:=Tk;exact Pj (yp s z t) slot_str_getitem.lookup (getItem_str (c:=c) (by
  have e1:decide (i < -(2 ^ 63:Int))=ua:=decide_eq_false (by lia)
  have Z:decide (i ≥ 2 ^ 63)=ua:=decide_eq_false (by lia)
  rw[e1,Z,Bool.or_false]) (by rw[J];simpa using h2) ⟨.str ⟨#[c]⟩,H,I.tok _,⟨_,rfl⟩,q⟩) R
def vv  (K:Lb):R2:=λx y H Q=>rIxL K x y H Q\/rIxT K x y H Q\/rIxS x y H Q
def ON  : ii X (vv X.K):=OP.or (nN.or lN)

def eU  (f:List Da)(n j:Nat) u:xj (·.setIfInBounds j u) { cls:=.type "list",data:=.seq f.toArray n }={ cls:=.type "list",data:=.seq (f.set j u).toArray n }:=by
 simp[xj]
def Oa.lst   {q:St}(I:Oa X pins q H s)(h:H p=la (.lst xs)) :
  ∃(j:List Da) (n:Nat),Vals xs j/\s.heap.get? p=la { cls:=.type "list",data:=.seq j.toArray n }/\xs.length<=Za:=by
 obtain⟨z,j,n,r,e⟩:=I.hok p _ h;exact⟨j,n,r,e,z⟩
def Oa.lstUpd   {J:St}{j its':List Da}(I:Oa X pins J H s)(h:H p=la (.lst xs))
  (R:s.heap.get? p=la { cls:=.type "list",data:=.seq j.toArray n }) (F:f { cls:=.type "list",data:=.seq j.toArray n }={ cls:=.type "list",data:=.seq its'.toArray y }) (r:Vals ys its') (Y:ys.length<=Za) t :
  Oa X pins J (upd H p (.lst ys)) { s with heap:=s.heap.update p f,toks:=t }:=by
 have e:(s.heap.update p f).get? p=la { cls:=.type "list",data:=.seq its'.toArray y }:=by
  rw[Yz f R (by rw[F]<;>rfl),F]
 refine I.write (x:=p) (e:=p) (by rw[h];trivial) (.inl rfl) (λb u O q=>(Tz _ _ (Qa O)).trans q) ⟨_,e⟩ ?_
 exact⟨Y,its',y,r,e⟩
def eB  : V->V->V->Hp->(Hp->Prop)->Prop:=λo i v H Q=>∃p f k j,o=.ref p/\i=.int k/\H p=la (.lst f)/\gg f.length k=la j/\Q (upd H p (.lst (f.set j v)))
def fS  : PSet X eB:=by
 intro y s σ H o i v ov iv u Q I ro ri rv h;obtain⟨p,xs,k,j,rfl,rfl,Y,hj,q⟩:=h;cases ro;obtain⟨t,rfl⟩:=ri;obtain⟨f,n,r,F,hz⟩:=I.lst Y;obtain⟨z,h2,R,Z⟩:=OC hj;have J:=r.length;have hn:=Tk;have O:Oa X y σ (upd H p (.lst (xs.set j v))) { s with heap:=s.heap.update p (xj (·.setIfInBounds j u)) }:=
  I.lstUpd Y F (eU f n j u) (r.set rv j) (by rw[Hi];exact hz) s.toks
 by_cases h0:0<=k
 ·have hk:k.toNat=j:=by
   rw[Qj h0 Z]at z;exact Zc z
  exact PySem.W.ki_setAt F h0 (by lia) (by rw[Bd,<- J];exact Z) (by rw[hk];exact⟨_,O,q⟩)
 ·have hk:(k+(f.toArray.size:Int)).toNat=j:=by
   rw[Jy (by lia) R]at z
   rw[Bd,<- J];exact Zc z
  exact PySem.W.ki_setBack F (by lia) (by rw[Bd,<- J];exact R) (by lia) (by rw[hk];exact⟨_,O,q⟩)

def JU   lo hi n:(Gi lo hi Aa n).1=((HT.sIx n 0 lo:Nat):Int)/\(Gi lo hi Aa n).2.1=((HT.sIx n n hi:Nat):Int)/\(Gi lo hi Aa n).2.2=1:=by
 refine⟨?_,?_,rfl⟩
 ·cases lo with
  |none=>simp[Gi,HT.sIx]
  |some i=>
   simp only[Gi,HT.sIx,DI,show(1:Int)>0 by decide,if_true]
   by_cases h:i<0
   ·simp only[h,if_true]<;>lia
   ·simp only[h,if_false]<;>lia
 ·cases hi with
  |none=>simp[Gi,HT.sIx]
  |some i=>
   simp only[Gi,HT.sIx,DI,show(1:Int)>0 by decide,if_true]
   by_cases h:i<0
   ·simp only[h,if_true]<;>lia
   ·simp only[h,if_false]<;>lia
def AU  (f:List Da) lo hi:wm f.toArray lo hi Aa=((f.drop (HT.sIx f.length 0 lo)).take (HT.sIx f.length f.length hi-HT.sIx f.length 0 lo)).toArray:=by
 obtain⟨y,q,j⟩:=JU lo hi f.toArray.size;unfold wm;rw[y,q,j];simp only[sliceRange_one,pick_run,Bd]<;>rfl
def rSlL  (K:Lb):V->Option Int->Option Int->Hp->VK->Prop:=λx j q H Q=>∃a f,x=.ref a/\Nd K H a f/\∀p,H p=Aa->Q (.ref p) (upd H p (.lst (cutV f j q)))
def GQ  : dh X (rSlL X.K):=by
 intro F s σ H x v vl vu y z sl Q I rx R Z Y h;obtain⟨a,f,rfl,O,q⟩:=h;cases rx;obtain⟨xa,r,J,hz⟩:=I.list O;have j:=r.length;refine⟨"list",_,Mf.lookup,J.isList.typeIs,?_⟩;refine Sz J.isList R Z Y .none (by simp) ?_ (by rw[Bd]<;>lia)
 rw[AU,<- j];refine⟨.ref s.heap.objs.size,_,I.laid (t':=s.toks) (o:=.lst (cutV f y z)) (λb ob q=>Fc _ q) (Db _) ?_,rfl,q _ (I.hok.fresh (Db _))⟩;exact⟨Fb (aF f y z) hz,_,0,(r.drop (HT.sIx f.length 0 y)).take (HT.sIx f.length f.length z-HT.sIx f.length 0 y),Fe _ rfl⟩

noncomputable def jh  : V->Bool
 |.non=>ma
 |.bl _=>ma
 |.int _=>ma
 |.str _=>ma
 |_=>ua
noncomputable def Ei  : V->V->Bool
 |.non,.non=>ma
 |.bl a,.bl b=>a==b
 |.bl a,.int b=>(if a then 1 else 0)==b
 |.int a,.bl b=>a==(if b then 1 else 0)
 |.int a,.int b=>a==b
 |.str a,.str b=>a==b
 |_,_=>ua
def SL      (q:RelV y u)(f:RelV x v)(F:jh y=ma)(z:jh x=ma):kg A s u v (Ei y x):=by
 cases y with
 |non=>
  cases q;cases x with
  |non=>cases f;exact kg.same _
  |bl b=>cases f;exact kg.none_bool b
  |int b=>obtain⟨t,rfl⟩:=f;exact kg.none_int b t
  |str b=>obtain⟨t,rfl⟩:=f;exact kg.none_str b t
  |_=>exact absurd (show ua=ma from z) Md
 |bl a=>
  cases q;cases x with
  |non=>cases f;exact kg.bool_none a
  |bl b=>cases f;exact kg.bool_bool a b
  |int b=>obtain⟨t,rfl⟩:=f;exact kg.bool_int a b t
  |str b=>obtain⟨t,rfl⟩:=f;exact kg.bool_str a b t
  |_=>exact absurd (show ua=ma from z) Md
 |int a=>
  obtain⟨j,rfl⟩:=q;cases x with
  |non=>cases f;exact kg.int_none a j
  |bl b=>cases f;exact kg.int_bool a j b
  |int b=>obtain⟨t,rfl⟩:=f;exact fJ a j b t
  |str b=>obtain⟨t,rfl⟩:=f;exact gJ a j b t
  |_=>exact absurd (show ua=ma from z) Md
 |str a=>
  obtain⟨j,rfl⟩:=q;cases x with
  |non=>cases f;exact kg.str_none a j
  |bl b=>cases f;exact kg.str_bool a j b
  |int b=>obtain⟨t,rfl⟩:=f;exact hJ a j b t
  |str b=>obtain⟨t,rfl⟩:=f;exact kg.str_str a j b t
  |_=>exact absurd (show ua=ma from z) Md
 |_=>exact absurd (show ua=ma from F) Md
def eqU  (x:V)(u:Da):Bool:=match u with
 |.none=>Ei .non x
 |.bool b=>Ei (.bl b) x
 |.int i _=>Ei (.int i) x
 |.str z _=>Ei (.str z) x
 |_=>ua
def rB    (r:RelV y u)(f:jh y=ma):eqU x u=Ei y x:=by
 cases y with
 |non=>cases r;rfl
 |bl b=>cases r;rfl
 |int i=>obtain⟨t,rfl⟩:=r;rfl
 |str z=>obtain⟨t,rfl⟩:=r;rfl
 |_=>exact absurd (show ua=ma from f) Md
theorem Oo   : ∀{xs } {us },Vals xs us->xs.all jh=ma->us.any (eqU x)=xs.any λy=>Ei y x
 |_,_,.nil,_=>rfl
 |y::xs,u::us,.cons r t,f=>by
  rw[Op,Hf]at f;rw[oh,oh,rB r f.1,Oo t f.2]
theorem Vo      (j:RelV x v)(q:jh x=ma):∀{xs } {us },Vals xs us->xs.all jh=ma->∀u∈us,kg A s u v (eqU x u)
 |_,_,.nil,_=>λu hu=>by cases hu
 |y::xs,u::us,.cons r t,f=>λz hu=>by
  rw[Op,Hf]at f;rcases Ic.mp hu with rfl|hu
  ·rw[rB r f.1];exact SL r j f.1 q
  ·exact Vo j q t f.2 z hu
def ap  (x:V)(xs:List V):Bool:=xs.any λy=>Ei y x
def rA  (K:Lb)(j:Bool):R2:=λx y H Q=>∃p f,y=.ref p/\(Nd K H p f\/td K H p f)/\jh x=ma/\f.all jh=ma/\Q (.bl (if j then !ap x f else ap x f)) H
def fT  : Cc X (ee .In) (rA X.K ua):=by
 intro J s σ H x y v u Q I R Z h;obtain⟨p,xs,rfl,j,O,fs,q⟩:=h;cases Z;rcases j with j|j
 ·obtain⟨f,r,F,Y⟩:=I.list j;refine SH (eqU x) F.isList (λw z=>Vo R O r fs w (by simpa using z)) ⟨.bl _,H,I,rfl,?_⟩
  rw[show f.toArray.any (eqU x)=f.any (eqU x) by simp,Oo r fs]
  exact q
 ·obtain⟨f,r,F,Y⟩:=I.tuple j;refine uI (eqU x) F (λw z=>Vo R O r fs w (by simpa using z)) ⟨.bl _,H,I,rfl,?_⟩
  rw[show f.toArray.any (eqU x)=f.any (eqU x) by simp,Oo r fs]
  exact q
def FU  : Cc X (ee .NotIn) (rA X.K ma):=by
 intro J s σ H x y v u Q I R Z h;obtain⟨p,xs,rfl,j,O,fs,q⟩:=h;cases Z;rcases j with j|j
 ·obtain⟨f,r,F,Y⟩:=I.list j;refine cI (eqU x) F.isList (λw z=>Vo R O r fs w (by simpa using z)) ⟨.bl _,H,I,rfl,?_⟩
  rw[show f.toArray.any (eqU x)=f.any (eqU x) by simp,Oo r fs]
  exact q
 ·obtain⟨f,r,F,Y⟩:=I.tuple j;refine mI (eqU x) F (λw z=>Vo R O r fs w (by simpa using z)) ⟨.bl _,H,I,rfl,?_⟩
  rw[show f.toArray.any (eqU x)=f.any (eqU x) by simp,Oo r fs]
  exact q
def Ye.or    (h:Ye X f r)(h':Ye X f r'):Ye X f (λxs H Q=>r xs H Q\/r' xs H Q):=by
 intro j s J H xs F Q I y q;rcases q with q|q
 ·exact h j s J H xs F Q I y q
 ·exact h' j s J H xs F Q I y q
def mU  : Ye X (.type "list") (λxs H Q=>∃p F,xs=[.ref p]/\(Nd X.K H p F\/td X.K H p F)/\∀l,H l=Aa->Q (.ref l) (upd H l (.lst F))):=by
 intro J s σ H xs us Q I r h;obtain⟨p,F,rfl,O,q⟩:=h;obtain⟨u,rfl,rx⟩:=Ng r;cases rx;have Y:∀(f:List Da),Vals F f->F.length<=Za->∀(j:Xa) (z:Nat),(∀b o',s.heap.get? b=la o'->j.get? b=la o')->
   j.get? s.heap.objs.size=la { cls:=.type "list",dict:=Aa,data:=.seq f.toArray z,slots:=#[] }->EP X J σ Q (.ref s.heap.objs.size) { s with heap:=j }:=λf y R j z kp e=>
  ⟨.ref s.heap.objs.size,_,I.laid (t':=s.toks) kp (Db _) (show je X.prog X.w _ j _ (.lst F)from⟨R,f,z,y,e⟩),rfl,q _ (I.hok.fresh (Db _))⟩
 rcases O with O|O
 ·obtain⟨f,y,pl,R⟩:=I.list O;have Z:=y.length;obtain⟨o,ho,hc,n,hd⟩:=pl.isList;exact call_list_seq p (.inl rfl) ho hc hd (λj z kp e=>Y f y R j z kp e) (by simp only[Bd]<;>lia)
 ·obtain⟨f,y,pl,R⟩:=I.tuple O;have Z:=y.length;obtain⟨o,ho,hc,n,hd⟩:=pl;exact call_list_seq p (.inr rfl) ho hc hd (λj z kp e=>Y f y R j z kp e) (by simp only[Bd]<;>lia)
def xU  : Ye X (.type "tuple") (λxs H Q=>∃p y,xs=[.ref p]/\((Nd X.K H p y/\∀l,H l=Aa->Q (.ref l) (upd H l (.tup y)))\/(td X.K H p y/\Q (.ref p) H))):=by
 intro f s R H xs us Q I r h;obtain⟨p,y,rfl,h⟩:=h;obtain⟨u,rfl,rx⟩:=Ng r;cases rx;rcases h with⟨J,q⟩|⟨J,q⟩
 ·obtain⟨j,F,O,Y⟩:=I.list J;have xa:=F.length;refine call_tuple_list O.isList (λz kp=>?_) (by simp only[Bd]<;>lia)
  have Z:Oa X f R H { s with heap:=z }:=I.kept (t':=s.toks) kp
  have I2:Oa X f R (upd H z.objs.size (.tup y)) { s with heap:=z.push { cls:=.type "tuple",data:=.seq j.toArray } }:=
   Z.laid (t':=s.toks) (λb o e=>Fc _ e) (Db _) (show je X.prog X.w _ _ _ (.tup y)from⟨Y,j,F,TupD.new _ _⟩)
  exact⟨.ref z.objs.size,_,I2,rfl,q _ (Z.hok.fresh (Db _))⟩
 ·obtain⟨j,F,O,Y⟩:=I.tuple J;exact call_tuple_same O ⟨.ref p,H,I,rfl,q⟩

def mv  (K:Lb)(T:String)(x:V)(H:Hp):Prop:=match x with
 |.str _=>T = "str"
 |.int _=>T = "int"
 |.ref p=>(T = "list" /\ ∃j,Nd K H p j)\/(T = "tuple" /\ ∃o,K.lookup p=la o/\o.cls=.type "tuple" /\ o.dict=Aa)\/
   (T = "dict" /\ ((∃f,H p=la (.dK f))\/∃f,H p=la (.dT f)))\/(T = "set" /\ ∃S n,H p=la (.set S n))\/(T = "tuple" /\ ∃j,H p=la (.tup j))
 |_=>False
def OB   {Y:St}(I:Oa X pins Y H s)(r:RelV x v)(q:mv X.K T x H) :
  s.TypeIs v T/\∀a,v=.ref a->∃R,s.heap.get? a=la R/\R.dict=Aa:=by
 cases x with
 |str z=>
  obtain⟨t,rfl⟩:=r;cases(show T = "str" from q);exact⟨yp s z t,λ_ e=>nomatch e⟩
 |int i=>
  obtain⟨t,rfl⟩:=r;cases(show T = "int" from q);exact⟨xp s i t,λ_ e=>nomatch e⟩
 |ref p=>
  cases r;rcases q with⟨rfl,J,Z⟩|⟨rfl,o,hk,hc,hd⟩|⟨rfl,hk⟩|⟨rfl,S,n,hk⟩|⟨rfl,J,hk⟩
  ·obtain⟨F,_,O,_⟩:=I.list Z;refine⟨O.isList.typeIs,λa e=>?_⟩;cases e;obtain⟨o,n,e,c,hd,_⟩:=O;exact⟨o,e,hd⟩
  ·refine⟨⟨o,I.kIn p o hk,hc⟩,λa e=>?_⟩;cases e;exact⟨o,I.kIn _ o hk,hd⟩
  ·have z:∃o,s.heap.get? p=la o/\o.ExactDict:=by
    rcases hk with⟨y,hk⟩|⟨y,hk⟩
    ·obtain⟨_,_,_,_,o,_,_,e,f,_⟩:=I.hok p _ hk;exact⟨o,e,f⟩
    ·obtain⟨_,_,_,_,o,_,_,e,f,_⟩:=I.hok p _ hk;exact⟨o,e,f⟩
   obtain⟨o,e,f⟩:=z;refine⟨⟨o,e,f.1⟩,λa j=>?_⟩;cases j;exact⟨o,e,f.2.1⟩
  ·obtain⟨o,_,_,_,e,f,_⟩:=I.hok p _ hk;refine⟨⟨o,e,f.1⟩,λa j=>?_⟩;cases j;exact⟨o,e,f.2.1⟩
  ·obtain⟨_,F,r,o,e,c,n,d,hd⟩:=(show je X.prog X.w H s.heap p (.tup J)from I.hok p _ hk);refine⟨⟨o,e,c⟩,λa j=>?_⟩;cases j;exact⟨o,e,hd⟩
 |_=>exact Dm q


def jq  (X:Cx)(id:String)(r:V->List V->Hp->VK->Prop):Prop:=
 ∀(f:List (Ca×Obj)) (s:Ia) (σ:St) (H:Hp) (x:V) (xs:List V) (v:Da) (us:List Da) (Q:VK),Oa X f σ H s->RelV x v->Vals xs us->r x xs H Q->
  wpAny (Ja X.prog X.w) X.A (call (.builtin id) (v::us)) (EP X f σ Q) X.xe s

def Vals.one  : ∀{x } {us },Vals [x] us->∃u,us=[u]/\RelV x u
 |_,_,.cons r .nil=>⟨_,rfl,r⟩
def Vals.two  : ∀{x y } {us },Vals [x,y] us->∃u v,us=[u,v]/\RelV x u/\RelV y v
 |_,_,_,.cons r (.cons q .nil)=>⟨_,_,rfl,r,q⟩
def Vals.zero  : ∀{us },Vals [] us->us=[]
 |_,.nil=>rfl
theorem Vals.dropLast    (h:Vals xs us):Vals xs.dropLast us.dropLast:=by
 induction h with
 |nil=>exact .nil
 |cons r t j=>
  cases t with
  |nil=>exact .nil
  |cons q y=>exact .cons r j
theorem Vals.eraseIdx  : ∀{xs } {us } i ,Vals xs us->Vals (xs.eraseIdx i) (us.eraseIdx i)
 |_,_,_,.nil=>.nil
 |_,_,0,.cons _ t=>t
 |_,_,i+1,.cons r t=>.cons r (Vals.eraseIdx i t)
theorem Vals.rep    (h:Vals xs us):∀k ,Vals (Kb k xs).flatten (Kb k us).flatten
 |0=>.nil
 |k+1=>by
  rw[Ji,Ji,Lm,Lm];exact Vals.append h (Vals.rep h k)
def bU  {f:Type}(l:List f):l.eraseIdx (l.length-1)=l.dropLast:=by
 induction l with
 |nil=>rfl
 |cons a r j=>
  cases r with
  |nil=>rfl
  |cons b r=>
   have e:(a::b::r).length-1=((b::r).length-1)+1:=by
    have y:(a::b::r).length=r.length+2:=rfl;have q:(b::r).length=r.length+1:=rfl
    lia
   rw[e,List.eraseIdx_cons_succ,j]
   all_goals rfl
theorem qE  {f:Type}:∀(l:List f) i ,(l.eraseIdx i).length<=l.length
 |[],_=>Db _
 |_::_,0=>fu _
 |_::r,i+1=>Mz (qE r i)
theorem gx  (f:List Da):∀k (acc:List Da),
  Ap (λj y=>j++y) acc.toArray (Kb k f.toArray)=(acc++(Kb k f).flatten).toArray
 |0,acc=>by simp
 |k+1,acc=>by
  have e:acc.toArray++f.toArray=(acc++f).toArray:=by simp
  have q:(acc++f)++(Kb k f).flatten=acc++(Kb (k+1) f).flatten:=by
   rw[Ji,Lm,Kz]
  rw[<- q,<- gx f k (acc++f),<- e,Ji,Ny]

section
variable {X:Cx}{pins:List (Ca×Obj)}{σ:St}{H:Hp}{s:Ia}{l b:Ca}{xs ys zs:List V}

def Oa.lset  {j its':List Da}(I:Oa X pins σ H s)(O:H l=la (.lst xs))
  (e:s.heap.get? l=la { cls:=.type "list",data:=.seq j.toArray n }) (J:f j.toArray=its'.toArray) (y:Vals ys its') (R:ys.length<=Za) :
  Oa X pins σ (upd H l (.lst ys)) { s with heap:=s.heap.update l (xj f),toks:=t' }:=by
 have q:=PySem.IsL.update e f;rw[J]at q;refine I.write (x:=l) (e:=l) (by rw[O];exact trivial) (.inl rfl) (λY u F hu=>(Tz s.heap (xj f) (Qa F)).trans hu) ⟨_,q⟩ ?_
 exact⟨R,its',_,y,q⟩
def Oa.lnew    (I:Oa X pins σ H s)(y:Vals ys j)(F:ys.length<=Za) :
  Oa X pins σ (upd H s.heap.objs.size (.lst ys)) { s with heap:=s.heap.push { cls:=.type "list",data:=.seq j.toArray },toks:=t' }:=
 I.laid (λ_ _ q=>Fc _ q) (Db _) ⟨F,j,0,y,Fe _ rfl⟩
def Oa.fresh  (I:Oa X pins σ H s):H s.heap.objs.size=Aa:=I.hok.fresh (Db _)
def Oa.lstM  (I:Oa X pins σ H s)(q:H l=la (.lst xs)):xs.length<=Za/\∃(j:List Da) (n:Nat),Vals xs j/\xs.length=j.length/\s.heap.get? l=la { cls:=.type "list",data:=.seq j.toArray n }:=by
 obtain⟨z,j,n,r,e⟩:=I.hok l _ q;exact⟨z,j,n,r,r.length,e⟩

def cD   (h:n<=Za):Vu n=ua:=by
 unfold Vu;exact decide_eq_false (by lia)
end


def yQ  : V->List V->Hp->VK->Prop:=λx j H Q=>∃l f y,x=.ref l/\j=[y]/\H l=la (.lst f)/\f.length<Za/\Q .non (upd H l (.lst (f++[y])))
def rE  : jq X "list.append" yQ:=by
 intro j s σ H x vs v us Q I R Y h;obtain⟨l,xs,y,rfl,rfl,J,hz,q⟩:=h;cases R;obtain⟨u,rfl,O⟩:=Y.one;obtain⟨z,f,n,r,Z,e⟩:=I.lstM J;refine Qg F.slot_list_append ⟨_,e,rfl⟩ F.entry_list_append (F.args_list_append_2 _ _) (PySem.list_append l f.toArray n u (by rw[Bd];lia)) ⟨e,?_⟩
 refine⟨.non,_,I.lset (its':=f++[u]) J e (by simp) (r.append (.cons O .nil)) ?_,rfl,q⟩
 rw[Ae,aA]
 lia

def zQ  : V->List V->Hp->VK->Prop:=λx q H Q=>∃l b f j,x=.ref l/\q=[.ref b]/\H l=la (.lst f)/\H b=la (.lst j)/\f.length+j.length<=Za/\Q .non (upd H l (.lst (f++j)))
def zT  : jq X "list.extend" zQ:=by
 intro O s σ H x vs v us Q I rx rv h;obtain⟨l,b,xs,zs,rfl,rfl,R,hB,hz,q⟩:=h;cases rx;obtain⟨u,rfl,ru⟩:=rv.one;cases ru;obtain⟨z,j,n,r,hl,e⟩:=I.lstM R;obtain⟨z2,f,Z,r2,Y,e2⟩:=I.lstM hB;have J:j.toArray.size+f.toArray.size<=Za:=by rw[Bd,Bd];lia
 have y:¬(!j.toArray.isEmpty&&Vu (j.toArray.size+f.toArray.size))=ma:=by
  rw[cD J,Bool.and_false];exact Md
 refine Qg F.slot_list_extend ⟨_,e,rfl⟩ F.entry_list_extend (F.args_list_extend_2 _ _)
  (AutoSeq1.list_extend_list_list_0 l j.toArray n b f.toArray Z y (by rw[Bd];lia) (by lia)) ⟨e,e2,?_⟩
 refine⟨.non,_,I.lset (its':=j++f) R e (by simp) (r.append r2) ?_,rfl,q⟩
 rw[Ae]
 lia

def rPop  : V->List V->Hp->VK->Prop:=λx j H Q=>∃l f y,x=.ref l/\j=[]/\H l=la (.lst f)/\f[f.length-1]?=la y/\Q y (upd H l (.lst f.dropLast))
def mt_pop  : jq X "list.pop" rPop:=by
 intro O s σ H x vs v us Q I rx rv h;obtain⟨l,xs,y,rfl,rfl,R,hy,q⟩:=h;cases rx;have J:=rv.zero;subst J;obtain⟨z,f,n,r,Y,e⟩:=I.lstM R;obtain⟨u,hu,Z⟩:=r.get hy;have j:f.toArray[f.toArray.size-1]?=la u:=by
  show f.toArray[f.length-1]?=la u;rw[<- Du,<- Y];exact hu
 refine Qg F.slot_list_pop ⟨_,e,rfl⟩ F.entry_list_pop (F.args_list_pop_1 _) (MeetsSeq.list_pop_last l f.toArray n u j (by rw[Bd];lia)) ⟨e,?_⟩
 refine⟨y,_,I.lset (its':=f.dropLast) R e ?_ r.dropLast ?_,Z,q⟩
 ·show f.toArray.eraseIdxIfInBounds (f.toArray.size-1)=f.dropLast.toArray;rw[Bd,AJ,bU]
 ·rw[List.length_dropLast]
  lia

def yO  : V->List V->Hp->VK->Prop:=λx j H Q=>∃l f i k y,x=.ref l/\j=[.int i]/\H l=la (.lst f)/\-(2 ^ 63)<=i/\i<2 ^ 63/\Yt i f.length=la k/\f[k]?=la y/\Q y (upd H l (.lst (f.eraseIdx k)))
def fR  : jq X "list.pop" yO:=by
 intro J s σ H x vs v us Q I rx rv h;obtain⟨l,Y,i,k,y,rfl,rfl,O,h1,h2,hk,hy,q⟩:=h;cases rx;obtain⟨u,rfl,ru⟩:=rv.one;obtain⟨t,rfl⟩:=ru;obtain⟨z,f,n,r,R,e⟩:=I.lstM O;obtain⟨w,Z,j⟩:=r.get hy;refine Qg F.slot_list_pop ⟨_,e,rfl⟩ F.entry_list_pop (F.args_list_pop_2 _ _)
  (MeetsSeq.list_pop_at l f.toArray n i t k w (fitsIndex_both h1 h2) (by rw[Bd,<- R];exact hk) (by rw[<- Du];exact Z) (by rw[Bd];lia)) ⟨e,?_⟩
 refine⟨y,_,I.lset (its':=f.eraseIdx k) O e ?_ (r.eraseIdx k) ?_,j,q⟩
 ·show f.toArray.eraseIdxIfInBounds k=(f.eraseIdx k).toArray;rw[AJ]
 ·have:=qE Y k
  lia

def rCat  : R2:=λx y H Q=>∃l b f j,x=.ref l/\y=.ref b/\H l=la (.lst f)/\H b=la (.lst j)/\f.length+j.length<=Za/\∀p,H p=Aa->Q (.ref p) (upd H p (.lst (f++j)))
def KM  : Cc X (Oe .Add) rCat:=by
 intro F s σ H x y v u Q I Z O h;obtain⟨l,b,xs,zs,rfl,rfl,R,hB,hz,q⟩:=h;cases Z;cases O;obtain⟨z,j,n,r,hl,e⟩:=I.lstM R;obtain⟨z2,f,n2,r2,xa,Y⟩:=I.lstM hB;refine PySem.P.add_list e Y ?_ (by rw[Bd,Bd];lia)
 have J:j.toArray++f.toArray=(j++f).toArray:=by simp
 rw[J];exact⟨.ref _,_,I.lnew (t':=s.toks) (r.append r2) (by rw[Ae];lia),rfl,q _ I.fresh⟩
def rRep  : R2:=λx y H Q=>∃l k f,x=.ref l/\y=.int k/\H l=la (.lst f)/\-(2 ^ 63)<=k/\k<2 ^ 63/\f.length*k.toNat<=Za/\
 ∀p,H p=Aa->Q (.ref p) (upd H p (.lst (Kb k.toNat f).flatten))
def Tw  {j:Type}(xs:List j) k:(Kb k xs).flatten.length=k*xs.length:=by
 induction k with
 |zero=>simp
 |succ k f=>rw[Ji,Lm,Ae,f,Nat.succ_mul,Nat.add_comm]
def TM  : Cc X (Oe .Mult) rRep:=by
 intro xa s σ H x y v u Q I rx ry h;obtain⟨l,k,xs,rfl,rfl,hH,h1,h2,hz,q⟩:=h;cases rx;obtain⟨t,rfl⟩:=ry;obtain⟨z,f,n,r,hl,e⟩:=I.lstM hH;have Y:f.toArray.size*k.toNat<=Za:=by rw[Bd,<- hl];exact hz
 have O:¬f.toArray.size*k.toNat>(2 ^ 63-1)/8:=by
  have:(Za:Nat)<=(2 ^ 63-1)/8:=by decide
  lia
 have J:¬(!Builtin.List.listFitsIndex k)=ma:=by
  rw[fitsIndex_both h1 h2];exact Md
 have j:¬Vu (f.toArray.size*k.toNat)=ma:=by
  rw[cD Y];exact Md
 have R:Ap (λx1 Z=>x1++Z) #[] (Kb (if f.toArray.isEmpty=ma then 0 else k.toNat) f.toArray)=(Kb k.toNat f).flatten.toArray:=by
  have f0:∀m:Nat,Ap (λx1 Z=>x1++Z) #[] (Kb m f.toArray)=(Kb m f).flatten.toArray:=λm=>by
   have:=gx f m [];rw[ah]at this;exact this
  rw[f0];cases f with
  |nil=>simp
  |cons a r'=>rw[if_neg (by simp)]
 refine lJ (T := "list") (U := "int") (by decide) ⟨_,e,rfl⟩ (λs'=>xp s' k t) noFill_list_mul F.fills_int_mul ou repeat_list F.slot_int_index.lookup
  (Qg ou (xp s k t) F.entry_int_rmul (F.args_int_rmul_2 _ _) (int___rmul___int_list k t l f.toArray n)
   ⟨e,rfl,⟨_,e,rfl⟩,Qg F.slot_list_mul ⟨_,e,rfl⟩ F.entry_list_mul (F.args_list_mul_2 _ _) (AutoListH.list___mul___list_int_3 l f.toArray n k t J O j) ⟨e,?_⟩⟩)
 rw[R];exact⟨.ref _,_,I.lnew (t':=s.toks) (r.rep k.toNat) (by rw[Tw,uu];exact hz),rfl,q _ I.fresh⟩






section
variable {κ:Type}[DecidableEq κ]
noncomputable def valV (kvs:List (κ×V))(k:κ):Option V:=(kvs.find? λf=>decide (f.1=k)).map (·.2)
noncomputable def putK (kvs:List (κ×V))(k:κ)(v:V):List (κ×V):=
 if (kvs.any λf=>decide (f.1=k))=ma then kvs.map (λf=>if f.1=k then (f.1,v) else f) else kvs++[(k,v)]
def Ct    {k:κ}(e:p.1=k):valV (p::r) k=la p.2:=by simp[valV,Bj,e]
def Bt    {k:κ}(e:¬p.1=k):valV (p::r) k=valV r k:=by simp[valV,Bj,e]
theorem OD  (k:κ):∀kvs ,(kvs.any λf=>decide (f.1=k))=(valV kvs k).isSome
 |[]=>rfl
 |p::r=>by
  rw[oh];by_cases e:p.1=k
  ·simp only[Ct e,decide_eq_true e,az,Option.isSome_some]
  ·rw[Bt e,decide_eq_false e,Ry];exact OD k r
def Gx  (kvs:List (κ×V)) k v:(putK kvs k v).length<=kvs.length+1:=by
 unfold putK;split
 ·rw[Ua];lia
 ·rw[Ae,Nh,Uu];lia
def RelO.isSome_eq    (r:RelO o u):o.isSome=u.isSome:=by
 cases o with
 |none=>cases u with
  |none=>rfl
  |some _=>exact(show False from r).elim
 |some _=>cases u with
  |none=>exact(show False from r).elim
  |some _=>rfl
theorem RelO.getD      (r:RelO o u)(rd:RelV d d'):RelV (o.getD d) (u.getD d'):=by
 cases o with
 |none=>cases u with
  |none=>exact rd
  |some _=>exact(show False from r).elim
 |some _=>cases u with
  |none=>exact(show False from r).elim
  |some _=>exact r

def KV.val    (r:KV kvs vs)(k:κ):RelO (valV kvs k) (Kf vs k):=by
 unfold KV at r
 induction r with
 |nil=>exact Jh
 |@cons p q O y h t I=>
  obtain⟨F,J⟩:=h;by_cases e:p.1=k
  ·have j:q.1=k:=F.symm.trans e;have b:Kf (q::y) k=la q.2:=by simp[Kf,Bj,j]
   rw[Ct e,b];exact J
  ·have j:¬q.1=k:=λz=>e (F.trans z);have b:Kf (q::y) k=Kf y k:=by simp[Kf,Bj,j]
   rw[Bt e,b];exact I
theorem KV.any    (r:KV kvs vs)(k:κ):(kvs.any λj=>decide (j.1=k))=vs.any λj=>decide (j.1=k):=by
 unfold KV at r
 induction r with
 |nil=>rfl
 |cons h t q=>rw[oh,oh,q,h.1]
def KV.repl    (r:KV kvs vs)(k:κ)(O:RelV y u) :
  KV (kvs.map λj=>if j.1=k then (j.1,y) else j) (vs.map λj=>if j.1=k then (j.1,u) else j):=by
 unfold KV at r ⊢
 induction r with
 |nil=>exact .nil
 |@cons p q R Y h t I=>
  rw[Le,Le];refine .cons ?_ I;obtain⟨F,J⟩:=h;by_cases e:p.1=k
  ·rw[if_pos e,if_pos (F.symm.trans e)];exact⟨F,O⟩
  ·rw[if_neg e,if_neg (λz=>e (F.trans z))];exact⟨F,J⟩
def KV.put    (r:KV kvs vs)(k:κ)(j:RelV y u):KV (putK kvs k y) (stored vs k u):=by
 unfold putK stored;rw[r.any k];by_cases e:(vs.any λq=>decide (q.1=k))=ma
 ·rw[if_pos e,if_pos e];exact r.repl k j
 ·rw[if_neg e,if_neg e];exact Jd.snoc r ⟨rfl,j⟩
def KV.length {kvs:List (κ×V)}{vs:List (κ×Da)}(r:KV kvs vs):kvs.length=vs.length:=nu r
end

def Pk      (r:RelV (kV k) u):(Yd P w).is k u=ma:=by
 cases k with
 |inl i=>obtain⟨t,e⟩:=(show ∃t,u=um i t from r);subst e;exact tU P w i t
 |inr x=>obtain⟨t,e⟩:=(show ∃t,u=iu x t from r);subst e;exact iU P w x t
theorem pE    : ∀{ks } {us },Vals (ks.map kV) us->ItemsAre (Yd P w) ks us
 |[],_,r=>by rw[Lp]at r;cases r;exact .nil
 |k::ks,_,r=>by
  rw[Le]at r;cases r with
  |cons h t=>exact .cons (Pk h) (pE t)

abbrev KT  (H:Hp):List (List Ub×V)->List (List Ub×Ca×Da)->Prop:=Jd λp q=>p.1=q.1/\H q.2.1=la (.tup (p.1.map kV))/\RelV p.2 q.2.2
def KT.val     (r:KT H kvs xs) k:RelO (valV kvs k) ((Rg xs k).map (·.2)):=by
 induction r with
 |nil=>exact Jh
 |@cons p q O y h t I=>
  obtain⟨F,_,J⟩:=h;by_cases e:p.1=k
  ·have j:q.1=k:=F.symm.trans e;have b:Rg (q::y) k=la q.2:=by simp[Rg,Bj,j]
   rw[Ct e,b];exact J
  ·have j:¬q.1=k:=λz=>e (F.trans z);have b:Rg (q::y) k=Rg y k:=by simp[Rg,Bj,j]
   rw[Bt e,b];exact I
def KT.repl     (r:KT H kvs xs) k (O:RelV y u) :
  KT H (kvs.map λF=>if F.1=k then (F.1,y) else F) (xs.map (putAt k u)):=by
 induction r with
 |nil=>exact .nil
 |@cons p q Y Z h t J=>
  rw[Le,Le];refine .cons ?_ J;obtain⟨j,I,R⟩:=h;unfold putAt;by_cases e:p.1=k
  ·rw[if_pos e,if_pos (j.symm.trans e)];exact⟨j,I,O⟩
  ·rw[if_neg e,if_neg (λz=>e (j.trans z))];exact⟨j,I,R⟩
def KT.put     (r:KT H kvs xs)(k:List Ub)(I:H b=la (.tup (k.map kV)))(j:RelV y u) :
  KT H (putK kvs k y) (storedH xs k b u):=by
 have e:(kvs.any λF=>decide (F.1=k))=(Rg xs k).isSome:=by
  rw[OD,(r.val k).isSome_eq,gz]
 unfold putK storedH;rw[e];by_cases q:(Rg xs k).isSome=ma
 ·rw[if_pos q,if_pos q];exact r.repl k j
 ·rw[if_neg q,if_neg q];exact Jd.snoc r ⟨rfl,I,j⟩
def KT.keeps     (r:KT H kvs xs)(q:∀b j,H b=la (.tup j)->H' b=la (.tup j)):KT H' kvs xs:=
 Paired.mapP r λ_ _ z=>⟨z.1,q _ _ z.2.1,z.2.2⟩


def fB   (ok:Xd P w H h)(e:Rd H a u):je P w H h a u:=e.ok ok
def qi   (ok:Xd P w H h)(e:Rd H a (.dK kvs)):kvs.length<=Za/\(a==jf)=ua/\∃vs,KV kvs vs/\h.DictOf (Yd P w) a vs:=
 show je P w H h a (.dK kvs)from fB ok e
def GA   (ok:Xd P w H h)(e:H a=la (.dK kvs)):kvs.length<=Za/\(a==jf)=ua/\∃vs,KV kvs vs/\h.DictOf (Yd P w) a vs:=qi ok (.inl e)
def Yl   (ok:Xd P w H h)(e:H a=la (.tup (ks.map kV))):(zm (Yd P w)).is h ks a:=by
 obtain⟨_,f,r,o,y,q,n,j,_⟩:=(show je P w H h a (.tup (ks.map kV))from ok a _ e);exact⟨o,f.toArray,n,y,q,j,by simpa using pE r⟩
def Nk   (ok:Xd P w H h)(e:Rd H a (.dT kvs)):kvs.length<=Za/\(a==jf)=ua/\
  ∃xs,KT H kvs xs/\h.DictOfH (zm (Yd P w)) a xs:=by
 obtain⟨z,y,xs,r,o,Y,O,h1,R,Z,F,J⟩:=(show je P w H h a (.dT kvs)from fB ok e);refine⟨z,y,xs,r,o,Y,O,h1,R,Z,F,λx f=>?_,J⟩;have all:∀{l:List (List Ub×V)} {m:List (List Ub×Ca×Da)},KT H l m->∀x∈m,(zm (Yd P w)).is h x.1 x.2.1:=by
  intro l m q
  induction q with
  |nil=>intro x f;exact nomatch f
  |@cons p q ps qs j t I=>
   intro x f;rcases Ic.mp f with e|f
   ·subst e;exact Yl ok (by rw[<- j.1];exact j.2.1)
   ·exact I x f
 exact all r x f
def nL   (ok:Xd P w H h)(e:H a=la (.dT kvs)):kvs.length<=Za/\(a==jf)=ua/\
  ∃xs,KT H kvs xs/\h.DictOfH (zm (Yd P w)) a xs:=Nk ok (.inl e)

def DGet  (H:Hp)(a:Ca)(y:V)(r:Option V):Prop:=
 (∃f k,Rd H a (.dK f)/\y=kV k/\r=valV f k)\/∃f k b,Rd H a (.dT f)/\y=.ref b/\H b=la (.tup (k.map kV))/\r=valV f k
def DPut  (H:Hp)(a:Ca)(y v:V)(j:Hp):Prop:=
 (∃f k,H a=la (.dK f)/\y=kV k/\f.length<Za/\j=upd H a (.dK (putK f k v)))\/
 ∃f k b,H a=la (.dT f)/\y=.ref b/\H b=la (.tup (k.map kV))/\f.length<Za/\j=upd H a (.dT (putK f k v))
def DGet.k     {k:Ub}(e:H a=la (.dK kvs)):DGet H a (kV k) (valV kvs k):=.inl ⟨kvs,k,.inl e,rfl,rfl⟩
def DGet.t     {k:List Ub}(e:H a=la (.dT kvs))(j:H b=la (.tup (k.map kV))):DGet H a (.ref b) (valV kvs k):=.inr ⟨kvs,k,b,.inl e,rfl,j,rfl⟩
def DPut.k     {k:Ub}(e:H a=la (.dK kvs))(j:kvs.length<Za):DPut H a (kV k) v (upd H a (.dK (putK kvs k v))):=.inl ⟨kvs,k,e,rfl,j,rfl⟩
def DPut.t     {k:List Ub}(e:H a=la (.dT kvs))(q:H b=la (.tup (k.map kV)))(j:kvs.length<Za) :
  DPut H a (.ref b) v (upd H a (.dT (putK kvs k v))):=.inr ⟨kvs,k,b,e,rfl,q,j,rfl⟩


def Oa.big  {j: St}(I:Oa X pins j H s):jf<s.heap.objs.size:=by
 have h:Ue<s.heap.objs.size:=(I.mod.glob.keeps I.bk).lt;exact xy (by decide) h

def QR  {Z: St}(hu:A.units+1<Xb)(I:Oa X pins Z H s)(g:DGet H a y (la v))(ry:RelV y u)(h:∀q s',Oa X pins Z H s'->RelV v q->Q q s') :
  wpAny (Ja X.prog X.w) A (Dd (.ref a) u) Q E s:=by
 rcases g with⟨J,k,e,O,l⟩|⟨J,k,b,e,O,eb,l⟩
 ·subst O;obtain⟨z,hd,vs,j,F⟩:=qi I.hok e;obtain⟨q,R,f⟩:=RelO.some_of (v:=v) (o:=Kf vs k) (by rw[l];exact j.val k)
  exact wpAny_getItem_of (Pk ry) F.mapOf R (h q _ (I.tok _) f)
 ·subst O;cases(show u=sg b from ry);obtain⟨z,hd,xs,j,F⟩:=Nk I.hok e;obtain⟨q,R,f⟩:=RelO.some_of (v:=v) (o:=(Rg xs k).map (·.2)) (by rw[l];exact j.val k)
  obtain⟨p,hp,Y⟩:=Option.map_eq_some_iff.mp R;refine wpAny_getItem_heap (Ep hu) (Yl I.hok eb) F hp ?_;rw[Y];exact h q _ (I.tok _) f
def d_in  {O: St}(hu:A.units+1<Xb)(I:Oa X pins O H s)(g:DGet H a y o)(R:RelV y u)(h:∀Y,Oa X pins O H Y->Q (.bool o.isSome) Y) :
  wpAny (Ja X.prog X.w) A (ee .In u (.ref a)) Q E s:=by
 rcases g with⟨F,k,e,J,l⟩|⟨F,k,b,e,J,eb,l⟩
 ·subst J;obtain⟨z,hd,vs,f,j⟩:=qi I.hok e;refine wpAny_in_of (Pk R) hd j.mapOf ?_;rw[<- (f.val k).isSome_eq,<- l];exact h _ (I.tok _)
 ·subst J;cases(show u=sg b from R);obtain⟨z,hd,Z,f,j⟩:=Nk I.hok e;refine wpAny_in_heap (Ep hu) (Yl I.hok eb) hd j ?_;have q:=(f.val k).isSome_eq;rw[gz]at q;rw[<- q,<- l];exact h _ (I.tok _)
def hQ  {O: St}(hu:A.units+1<Xb)(I:Oa X pins O H s)(g:DGet H a y o)(R:RelV y u)(h:∀Y,Oa X pins O H Y->Q (.bool (!o.isSome)) Y) :
  wpAny (Ja X.prog X.w) A (ee .NotIn u (.ref a)) Q E s:=by
 rcases g with⟨F,k,e,J,l⟩|⟨F,k,b,e,J,eb,l⟩
 ·subst J;obtain⟨z,hd,vs,f,j⟩:=qi I.hok e;refine wpAny_notIn_of (Pk R) hd j.mapOf ?_;rw[<- (f.val k).isSome_eq,<- l];exact h _ (I.tok _)
 ·subst J;cases(show u=sg b from R);obtain⟨z,hd,Z,f,j⟩:=Nk I.hok e;refine wpAny_notIn_heap (Ep hu) (Yl I.hok eb) hd j ?_;have q:=(f.val k).isSome_eq;rw[gz]at q;rw[<- q,<- l];exact h _ (I.tok _)
def Fw  {f: St}(I:Oa X pins f H s)(J:iq (H a))(hs:Em a s.heap h')(F:∃q,h'.get? a=la q)(new:je X.prog X.w (upd H a j) h' a j) :
  Oa X pins f (upd H a j) { s with heap:=h',toks:=t' }:=
 I.write (x:=a) (e:=a) J (.inl rfl) (λb q y z=>(hs.2 b y).trans z) F new
def pB        (z:kvs.length<=Za)(hd:(a==jf)=ua)(f:KV kvs vs)(j:h'.DictOf (Yd P w) a vs) :
  je P w H' h' a (.dK kvs):=⟨z,hd,vs,f,j⟩
def TR  {σ: St}(hu:A.units+1<Xb)(I:Oa X pins σ H s)(g:DPut H a y v H')(ry:RelV y u)(rv:RelV v r)(h:∀s',Oa X pins σ H' s'->Q () s') :
  wpAny (Ja X.prog X.w) A (ki (.ref a) u r) Q E s:=by
 rcases g with⟨f,k,e,ey,l,R⟩|⟨f,k,b,e,ey,eb,l,R⟩
 ·subst ey R;obtain⟨z,hd,vs,j,Z⟩:=GA I.hok e;have O:vs.length<=Za:=by rw[<- j.length];exact z
  have hl:(putK f k v).length<=Za:=by have:=Gx f k v;lia
  refine wpAny_setItem_pairs (hsz:=O) (Pk ry) Z λh' F Y=>h _ ?_;have he:∃q,h'.get? a=la q:=let ⟨q,_,_,J,_⟩:=F;⟨q,J⟩
  exact Fw I (by rw[e];exact Jh) Y he (pB hl hd (j.put k rv) F)
 ·subst ey R;cases(show u=sg b from ry);obtain⟨z,hd,xs,j,Z⟩:=nL I.hok e;have O:xs.length<=Za:=by rw[<- nu j];exact z
  have hl:(putK f k v).length<=Za:=by have:=Gx f k v;lia
  refine wpAny_setItem_heap (hsz:=O) (Ep hu) (Yl I.hok eb) Z λh' F Y=>h _ ?_;obtain⟨q,es,ep,J,h2,h3,h4,_,h5⟩:=F;refine Fw I (by rw[e];exact Jh) Y ⟨q,J⟩ ⟨hl,hd,_,(j.put k eb rv).keeps λc ys ec=>?_,q,es,ep,J,h2,h3,h4,h5⟩
  rw[Pc (DL ec e (λz=>nomatch z))];exact ec


def mL  {j: St}(I:Oa X pins j H s)(e:Rd H a (.dK kvs))(h:∀t q,Oa X pins j H q->Q (.int kvs.length t) q):wpAny (Ja X.prog X.w) A (call (.builtin "len") [.ref a]) Q E s:=by
 obtain⟨z,hd,F,f,y⟩:=qi I.hok e;refine call_len_dict hd y (by rw[<- f.length];rw[Kh]at z;lia) ?_
 rw[<- f.length];exact h _ _ (I.tok _)

def qU    {q:St}(I:Oa X pins q H s)(g:DGet H a y o):s.TypeIs (.ref a) "dict" := by
 rcases g with⟨j,k,e,_,_⟩|⟨j,k,b,e,_,_,_⟩
 ·obtain⟨_,_,F,_,f⟩:=qi I.hok e;exact f.typeIs
 ·obtain⟨_,_,z,_,f⟩:=Nk I.hok e;exact f.typeIs


def xD     (h:Xa)(f:jf<h.objs.size):je P w H (h.push { cls:=.type "dict",data:=.dict #[] }) h.objs.size (.dK []):=
 ⟨og _,beq_eq_false_iff_ne.mpr (Qa (re f)),[],.nil,Xa.DictOf.new h⟩
def PN  : TE:=λ_ H Q=>∀p,H p=Aa->Q (.ref p) (upd H p (.dK []))

def zR  : PE X (.Dict [] [] pos) PN:=λf s j H Q I h=>
 wpAny_Dict_empty ⟨.ref s.heap.objs.size,_,I.laid (a:=s.heap.objs.size) (o:=.dK []) (t':=s.toks) (λ_ _ q=>Fc _ q) (Db _) (xD s.heap I.big),rfl,h _ (I.hok.fresh (Db _))⟩

def Xs  : List (TE×TE)->St->Hp->(List (V×V)->Hp->Prop)->Prop
 |[],_,H,Q=>Q [] H
 |(tk,tv)::r,σ,H,Q=>tk σ H λx z=>tv σ z λy q=>Xs r σ q λj f=>Q ((x,y)::j) f
abbrev VV  : List (V×V)->List (Da×Da)->Prop:=Jd λp q=>RelV p.1 q.1/\RelV p.2 q.2
def Ll  (X:Cx)(y:Pos)(q:List (Option La))(f:List La)(z:List (TE×TE)):Prop:=
 ∀(j:List (Ca×Obj)) (s:Ia) (σ:St) (H:Hp) (Q:List (V×V)->Hp->Prop),Oa X j σ H s->Xs z σ H Q->
  wpAny (Ja X.prog X.w) X.A (evalPairs (pairTrees q f X.env y)) (λO J=>∃I F,Oa X j σ F J/\VV I O/\Q I F) X.xe s
def cR    : Ll X pos [] [] []:=λf s j H Q I h=>pairTrees_nil_walk ⟨[],H,I,.nil,h⟩
def zS         (hk:PE X k tk)(Y:PE X v J)(R:Ll X pos ks vs q) :
  Ll X pos (la k::ks) (v::vs) ((tk,J)::q):=λf s j H Q I h=>
 pairTrees_cons_walk (Pb (hk f s j H _ I h) λu s1 ⟨x,H1,O,rx,q1⟩=>Pb (Y f s1 j H1 _ O q1) λw2 s2 ⟨y,Z,F,ry,q2⟩=>
  Pb (R f s2 j Z _ F q2) λws s3 ⟨ps,H3,I3,z,q3⟩=>⟨(x,y)::ps,H3,I3,.cons ⟨rx,ry⟩ z,q3⟩)

def Uk  (kvs f:List (Ub×V)):List (Ub×V):=f.foldl (λj q=>putK j q.1 q.2) kvs
def KV.merge  : ∀{j } {rs } {kvs } {vs },KV j rs->KV kvs vs->KV (Uk kvs j) (merged vs rs):=by
 intro j rs kvs vs r;unfold KV at r
 induction r generalizing kvs vs with
 |nil=>intro q;exact q
 |@cons p q I J h t y=>
  intro F;have e:KV (putK kvs p.1 p.2) (stored vs q.1 q.2):=by
   have:=F.put p.1 h.2;rw[<- h.1];exact this
  exact y e
theorem HG  : ∀(f kvs:List (Ub×V)),(Uk kvs f).length<=kvs.length+f.length
 |[],kvs=>by show kvs.length<=kvs.length+0;lia
 |p::r,kvs=>by
  have q:=HG r (putK kvs p.1 p.2);have j:=Gx kvs p.1 p.2;show(Uk (putK kvs p.1 p.2) r).length<=_;rw[Nh];lia
theorem WD    : ∀{kvs } {ws },VV (kvs.map λf=>(kV f.1,f.2)) ws->∃rs,Carries (Yd P w) ws rs/\KV kvs rs
 |[],_,r=>by rw[Lp]at r;cases r;exact⟨[],Jh,.nil⟩
 |p::kvs,_,r=>by
  rw[Le]at r;cases r with
  |@cons a b y bs h t=>
   obtain⟨rs,c,q⟩:=WD (P:=P) (w:=w) t;obtain⟨z,j⟩:=b;exact⟨(p.1,j)::rs,⟨Pk h.1,rfl,c⟩,.cons ⟨rfl,h.2⟩ q⟩
def IM  (j:List (TE×TE)):TE:=λF H Q=>∀p,H p=Aa->Xs j F (upd H p (.dK [])) λz y=>y p=la (.dK [])/\∃f:List (Ub×V),z=f.map (λq=>(kV q.1,q.2))/\f.length<=15/\Q (.ref p) (upd y p (.dK (Uk [] f)))
def BP       (h:Ll X pos f j Y)(O:f.all (·.isSome)=ma)(hl:f.length=j.length)(h0:f≠[])
  (R:f.length<=15):PE X (.Dict f j pos) (IM Y):=by
 intro y s σ H Q I q;have hn:=I.hok.fresh (Db s.heap.objs.size);have I1:=I.laid (a:=s.heap.objs.size) (o:=.dK []) (h':=s.heap.push { cls:=.type "dict",data:=.dict #[] }) (t':=s.toks) (λ_ _ q=>Fc _ q) (Db _) (xD s.heap I.big);refine wpAny_Dict_walk (knd:=Yd X.prog X.w) O hl h0 R (Pb (h y _ σ _ _ I1 (q _ hn)) λws s2 ⟨ps,H2,I2,Z,e,F,ep,lk,q2⟩=>?_);subst ep;obtain⟨rs,c,rk⟩:=WD (P:=X.prog) (w:=X.w) Z;obtain⟨z,hd,xa,r0,dd⟩:=GA I2.hok e;cases r0;refine⟨rs,c,dd,λh' J hs=>⟨.ref s.heap.objs.size,_,?_,rfl,q2⟩⟩;have hz:(Uk [] F).length<=Za:=by
  have h1:=HG F [];rw[Uu]at h1;rw[Kh];lia
 have he:∃q,h'.get? s.heap.objs.size=la q:=let ⟨q,_,_,hq,_⟩:=J;⟨q,hq⟩
 exact Fw I2 (by rw[e];exact Jh) hs he (pB hz hd (rk.merge .nil) J)

def fV  (H:Hp)(a:Ca):Prop:=(∃f,Rd H a (.dK f))\/∃f,Rd H a (.dT f)
def DB    {J:St}(I:Oa X pins J H s)(d:fV H a) :
  s.TypeIs (.ref a) "dict" /\ (∀b,sg a=.ref b->∃f,s.heap.get? b=la f/\f.dict=Aa)/\(a==jf)=ua:=by
 rcases d with⟨y,e⟩|⟨y,e⟩
 ·obtain⟨_,hd,R,_,j⟩:=qi I.hok e;refine⟨j.typeIs,λb q=>?_,hd⟩;cases q;obtain⟨f,_,_,F,z,_⟩:=j;exact⟨f,F,z.2.1⟩
 ·obtain⟨_,hd,O,_,j⟩:=Nk I.hok e;refine⟨j.typeIs,λb q=>?_,hd⟩;cases q;obtain⟨f,_,_,F,z,_⟩:=j;exact⟨f,F,z.2.1⟩


def OL  {J: St}(hu:A.units+1<Xb)(I:Oa X pins J H s)(g:DGet H a y o)(R:RelV y u)(rd:RelV d r)(h:∀O Y,Oa X pins J H Y->RelV (o.getD d) O->Q O Y) :
  wpAny (Ja X.prog X.w) A (call (.builtin "dict.get") [.ref a,u,r]) Q E s:=by
 rcases g with⟨q,k,e,F,l⟩|⟨q,k,b,e,F,eb,l⟩
 ·subst F;obtain⟨z,hd,vs,f,j⟩:=qi I.hok e;refine Zt Hu j.typeIs kJ (MI _ _ _) (meets_dict_get_default (Yd X.prog X.w) a (Pk R) hd r) ⟨_,j.mapOf,h _ _ (I.tok _) ?_⟩;rw[l];exact(f.val k).getD rd
 ·subst F;cases(show u=sg b from R);obtain⟨z,hd,Z,f,j⟩:=Nk I.hok e;refine Zt Hu j.typeIs kJ (MI _ _ _) (meetsH_dict_get_default (zm (Yd X.prog X.w)) a b hd r) ⟨Ep hu,k,Z,Yl I.hok eb,j,h _ _ (I.tok _) ?_⟩;rw[l];exact(f.val k).getD rd






end L2

namespace Att
open PySem PySem.W PySem.Calls PyProof.Rows

def MU    : ∀(ns:List Int) vs ,WellAll P h vs (ns.map WData.int)->Nb vs ns:=by
 intro ns
 induction ns with
 |nil=>
  intro vs w;rw[Lp]at w;cases w;exact .nil
 |cons n ns f=>
  intro vs w;rw[Le]at w;cases w with
  |cons a b=>
   cases a;exact .cons _ _ (f _ b)

def GS  {l:mi}(hn:l.most=la n) 
  (f:l.row.toRowW.claim.pre args=ma) (O:WellAll P h j args) :
  ∃a vs ns,j=[sg a]/\args=[WData.list (ns.map WData.int)]/\h.get? a=la { cls:=.type "list",data:=.seq vs.toArray }/\Nb vs ns/\ns.length<=n:=by
 have J:jn.hasAll [] args [.list .int]=ma:=(pre_splitW f).1;have R:l.pre.holds [] { args:=args }=ma:=(pre_splitW f).2;obtain⟨d,r,rfl,h1,h2⟩:=hasAllW_cons J;obtain rfl:=hasAllW_nil h2;obtain⟨xs,rfl,h3⟩:=hasW_list h1;obtain⟨ns,rfl⟩:=items_int h3;have z:ns.length<=n:=by
  unfold mi.pre at R;have F:(WTm.not (.lt (.lit (.int (n:Int))) (.len (.arg 0)))).holds [] { args:=[.list (ns.map .int)] }=ma:=by
   have F:=(holds_andW R).1;rw[hn]at F;exact F
  have I:=condW_of F (w_not (w_lt w_lit (w_len_list (w_arg rfl))));rw[Ua]at I;refine Nat.le_of_not_lt λq=>?_;have Z:(n:Int)<((ns.length:Nat):Int):=by lia
  first
   |(rw[decide_eq_true Z]at I;exact absurd I (by decide))
   |(simp at I;lia)
 cases O with
 |cons w1 Y=>
  cases Y;cases w1 with
  |list ho y=>exact⟨_,_,ns,rfl,rfl,ho,MU ns _ y,z⟩

def tT  (l:mi) args:l.row.toRowW.claim.post args (.bool ma) args=ma:=
 postW_of (r:=l.row.toRowW) (X:=(ma==ma))
  (show jn.has [] (.bool ma) .bool=ma by first|rfl|decide|simp[jn.has,jn.arms,jn.armsAll])
  (show(WTm.eq .res (.lit (.bool ma))).value [] { args:=args,res:=la (.bool ma),after:=args }=la (.bool (ma==ma))from w_eq_bool (w_res rfl) w_lit) rfl

def attach_call  {l:mi} 
  (hn:l.most=la n) (ja:d.params.defaults=[])
  (call:∀(w:Cb) (s₀ j:Ia) mg mb O (o:Obj) pm Z y a (vs:List Da) (ns:List Int),
   Ground q loose [] XP w s₀ mg mb j.heap->YP w j.heap->
   j.heap.get? O=la o->o.data=.func (docDef d.name d.params d.body d.scope pm Z y)->j.heap.CodeRec Z d.name->mg d.name=la (.ref O)->
   j.heap.get? a=la { cls:=.type "list",data:=.seq vs.toArray }->Nb vs ns->ns.length<=n->j.gens=#[]->
   codeAny (Ja l.prog w) Kg (.call (.ref O) ⟨[.ref a],[]⟩) (λr R=>r=.ok (.ret (.bool ma))/\OldK j.heap R.heap/\R.os=j.os/\we R.gens) j) :
  WalkO q loose XP YP l.row.toRowW d [] (λf vs=>Cy f vs):=by
 intro w s₀ j mg mb G Y O o pm Z y dV kV ho hd za hD va hg wa ya as I ka ha xa hlo;obtain rfl:dV=.none:=Dflts.none hD ja;obtain rfl:kV=.none:=Dflts.noKw hD;obtain⟨a,vs,ns,rfl,rfl,F,z,J⟩:=GS hn I xa;refine enter_call (au (call w s₀ j mg mb O o pm Z y a vs ns G Y ho (fd_plain hd) za va F z J hg) λr R hq=>?_);obtain⟨rfl,h2,h3,h4⟩:=hq;exact⟨.inl ⟨.bool ma,.bool ma,[],rfl,λ_=>rfl,.bool ma,tT l _,λ_=>⟨LI,λ_ hm=>(nomatch hm)⟩⟩,h2,h3,h4⟩


end Att

namespace L2
open PySem PySem.Spec PyProof.Rows

theorem mE  : ∀{vs } {ns },Nb vs ns->Vals (ns.map V.int) vs
 |_,_,.nil=>.nil
 |_,_,.cons n t h=>.cons ⟨t,rfl⟩ (mE h)



noncomputable def qC  (s:Pa)(j:Nat):Pa:=match s with
 |.ClassDef _ _ _ f _ _ _ _ _ _ _=>f.getD j (.Pass ⟨0,0,0,0⟩)
 |_=>.Pass ⟨0,0,0,0⟩
def Di  (s:Pa):Arguments:=match s with
 |.FunctionDef _ a _ _ _ _ _ _ _ _=>a
 |_=>{ posonlyargs:=[],args:=[],vararg:=Aa,kwonlyargs:=[],kw_defaults:=[],kwarg:=Aa,defaults:=[] }
def Df  (s:Pa):List Pa:=match s with
 |.FunctionDef _ _ b _ _ _ _ _ _ _=>b
 |_=>[]
def uf  (s:Pa):Od:=match s with
 |.FunctionDef _ _ _ _ _ _ f _ _ _=>f
 |_=>{ kind:=.function,names:=[],isGenerator:=ua,isCoroutine:=ua }

abbrev E0  : XK:=λ_ _ _=>False
structure Fun (K:Lb)(x qual:Str)(st:Pa)(f:Ca)(fd:om):Prop where
 ex:∃(oc:Da) (od:Option Ca) (kV doc pm:Da) (an:Option Ca) (cdv ct:Da) (osl:Array (Option Da)),
  fd=Mi x qual (Di st) (Df st) (uf st) .none kV doc pm an cdv ct/\K.lookup f=la ⟨oc,od,.func fd,osl⟩/\Up K cdv qual=ma
 kp:Vp K (.ref f)=ma

def Fun.binds  {K: Lb}{st:Pa}(F:Fun K x y st f O)
  (h:∀kV q I J j ct (us:List Da),us.length=ps.length->Tj (Mi x y (Di st) (Df st) (uf st) .none kV q I J j ct) ⟨us,[]⟩=pure (ps.zip us)):Binds K O ps []:=by
 obtain⟨oc,Z,kV,q,I,J,j,ct,Y,rfl,lk,R⟩:=F.ex;exact .all (h kV q I J j ct)
def AB  {K: Lb}{st:Pa}{kV y z q ct:Da}(l:K.lookup f=la ⟨O,J,.func (Mi x j (Di st) (Df st) (uf st) .none kV y z I q ct),F⟩)
  (c:Up K q j=ma) (k:Vp K (.ref f)=ma):Fun K x j st f (Mi x j (Di st) (Df st) (uf st) .none kV y z I q ct):=⟨⟨O,J,kV,y,z,I,q,ct,F,rfl,l,c⟩,k⟩
def tL    (f:Room k A):A.units+1<Xb:=Eg (CI (by decide:1<=64) _) f.units



def qS  : Ye X (.builtin "len") (λxs H Q=>∃a kvs,xs=[V.ref a]/\H a=la (.dK kvs)/\Q (.int kvs.length) H):=by
 intro f s F H xs J Q I r h;obtain⟨a,kvs,rfl,j,q⟩:=h;obtain⟨u,rfl,z⟩:=Ng r;cases z;exact mL I (.inl j) λt O y=>⟨.int kvs.length,H,y,⟨t,rfl⟩,q⟩
section
variable {κ:Type}[DecidableEq κ]
end
end L2

namespace L2
open PySem PySem.Spec PyProof.Rows


noncomputable def ww  (env:Env)(ifs:List La):Sem Bool:=forIn ifs ma λc r=>ite (r=ma) (yf c env (Ib c env) >>= λb=>pure (.yield b)) (pure (.yield r))
def Mo  (j:Pos)(f:La)(ifs:List La)(it:Da)(env:Env)(em:Sem Unit)(next:Code):Sem Fin:=
 Lf j >>= λ_=>pyNext it >>= λr=>match r with
  |none=>pure (.done .next)
  |some v=>Rp f it v >>= λ_=>Gc f env v >>= λ_=>ww env ifs >>= λok=>ite (ok=ma) (em >>= λ_=>again next) (again next)
def NQ  (M:Model)(A:Ac)(j:La)(ifs:List La)(it:Da)(env:Env)(em:Sem Unit)(f:Ia->Prop)(less:Ia->Prop):Option Da->Ia->Prop
 |none,s=>f s
 |some v,s=>wpAny M A (Rp j it v) (λ_ s=>wpAny M A (Gc j env v) (λ_ s=>wpAny M A (ww env ifs) (λok s=>if ok=ma then wpAny M A em (λ_ s=>less s) (λ_ _=>False) s else less s) (λ_ _=>False) s) (λ_ _=>False) s) (λ_ _=>False) s
def oU             (I : Nat -> Ia -> Prop)
    (z : qm (.ListComp elt gens scope pos) y it acc env = Mo F j ifs it env em (.compLoop (.ListComp elt gens scope pos) y it acc env))
    (q : ∀ k t, I k t -> wpAny (Ja prog w) A (pyNext it) (NQ (Ja prog w) A j ifs it env em (R (.ok .next)) λt => ∃ m, m < k /\ I m t) (λ_ _ => False) t)
     n (h : I n s) : codeAny (Ja prog w) A (.compLoop (.ListComp elt gens scope pos) y it acc env) R s := by
  have no : ∀ {Z : Da -> Ia -> Prop} (e : Da) (t : Ia), False -> Z e t := λ_ _ f => f.elim
  refine codeAny_loop rfl I (λk t hk => wpAny_noted (m := qm (.ListComp elt gens scope pos) y it acc env) (z ▸ ?_)) n h
  refine Ab (su (Ab (ng (q k t hk) (λr t1 p => ?_) no)))
  match r, p with
  | none, p => exact fc p
  | some v, p =>
    refine Ab (ng p (λ_ t2 p => Ab (ng p (λ_ t3 p => Ab (ng p (λok J p => ?_) no)) no)) no)
    match ok, p with
    | false, p => exact fc ⟨rfl, p⟩
    | true, p => exact Ab (ng p (λ_ O p => fc ⟨rfl, p⟩) no)

theorem Ex  (env:Env):∀(names:List (Str×Qf)) acc ,(∀y∈names,y.2=.free->∃c,env.cells.lookup y.1=la c)->
  ∃cl ,(forIn names acc (λ(y:Str×Qf) F=>(if (y.2==Sf)=ma then (do let c <- cellOf env y.1;pure (ForInStep.yield ((y.1,c)::F))) else pure (ForInStep.yield F):Sem (ForInStep (List (Str×Ca))))):Sem (List (Str×Ca)))=pure cl/\
   (∀x c,(x,c)∈cl->(x,c)∈acc\/(env.cells.lookup x=la c/\(x,Sf)∈names))/\(∀p∈acc,p∈cl)/\(∀y∈names,y.2=.free->∃c,(y.1,c)∈cl)
 |[],acc,_=>⟨acc,rfl,λ_ _ h=>.inl h,λ_ h=>h,λ_ h=>nomatch h⟩
 |(n,k)::r,acc,h=>by
  by_cases hk:k=.free
  ·subst hk;obtain⟨c,R⟩:=h (n,.free) cf rfl;obtain⟨cl,e,J,q,I⟩:=Ex env r ((n,c)::acc) λy f=>h y (Pd _ f);refine⟨cl,?_,λx d hd=>?_,λp O=>q p (Pd _ O),λy f j=>?_⟩
   ·rw[List.forIn_cons];have:(cellOf env n:Sem Ca)=pure c:=by unfold cellOf;rw[R]
    simp_all
   ·grind
   grind
  ·obtain⟨cl,e,J,q,I⟩:=Ex env r acc λy f=>h y (Pd _ f);have Y:(k==Sf)=ua:=by simpa using hk
   refine⟨cl,?_,λx d hd=>?_,q,λy f j=>?_⟩
   ·rw[List.forIn_cons];simp only[Y,Jp,if_false,pure_bind];exact e
   ·rcases J x d hd with z|⟨z,z'⟩
    ·exact .inl z
    ·exact .inr ⟨z,Pd _ z'⟩
   ·rcases Ic.mp f with z|z
    ·subst z;exact absurd j hk
    ·exact I y z j
theorem IG  {f:Type}:∀{l:List (Str×f)} {x } {c },(x,c)∈l->∃d,l.lookup x=la d/\(x,d)∈l
 |(n,k)::r,x,c,h=>by
  cases j:x==n with
  |true=>
   simp_all
  |false=>
   rcases Ic.mp h with z|z
   ·lia
   ·obtain⟨d,e,m⟩:=IG z
    grind
def YD    (h:∀y∈scope.names,y.2=.free->∃c,env.cells.lookup y.1=la c) :
  ∃cl ,closureFor scope env=pure cl/\(∀x c,cl.lookup x=la c->env.cells.lookup x=la c)/\(∀y∈scope.names,y.2=.free->∃c,cl.lookup y.1=la c):=by
 obtain⟨cl,e,J,_,F⟩:=Ex env scope.names [] h;refine⟨cl,?_,λx c f=>?_,λy I q=>?_⟩
 ·unfold closureFor
  simp_all
 ·rcases J x c (Fg f)with z|⟨z,_⟩
  ·simp_all
  lia
 ·obtain⟨c,j⟩:=F y I q;obtain⟨d,e,_⟩:=IG j
  simp_all

noncomputable def ie  (X:Cx)(N:List Str)(scope:Od)(cl:List (Str×Ca))(C:Ca)(s₀:Ia)(H₀:Hp)(f:List Ca):Cx where
 prog:=X.prog
 w:=X.w
 K:=X.K
 mg:=X.mg
 base:=X.base
 A:=X.A
 N:=N
 s₀:=s₀
 H₀:=H₀
 env:=compEnvC scope cl C X.env
 outer:=X.stack
 stack:=X.stack
 ex:=f
 fn:=λx=>scope.names.lookup x==la .cell
 calm:=X.calm
 pn:=[]
 xe:=λ_ _=>False

noncomputable def nV  (q:List Str)(f:List (Str×Qf))(N:List Str)(pick:List (Option Nat))(scope:Od):Bool:=
 decide (scope.kind=.function)&&scope.names.all (λy=>y.2 != .cell||scope.names.lookup y.1==la .cell)&&scope.names.all (λy=>y.2 != .local||scope.names.lookup y.1==la .local)
  && scope.names.all (λy=>y.2 != .free||(scope.names.lookup y.1==la .free&&(f.lookup y.1==la .cell||f.lookup y.1==la .free)))
  && pick.length==N.length&&(N.zip pick).all (λp=>match p.2 with|none=>ma|some j=>q[j]?==la p.1&&scope.names.lookup p.1==la .free)

structure CScope (X:Cx)(N:List Str)(pick:List (Option Nat))(scope:Od):Prop where
 kind:scope.kind=.function
 cells:∀y∈scope.names,y.2=.cell->scope.names.lookup y.1=la .cell
 names:∀y∈scope.names,y.2=.local->scope.names.lookup y.1=la .local
 fre:∀y∈scope.names,y.2=.free->scope.names.lookup y.1=la .free/\(X.env.kindOf y.1=la .cell\/X.env.kindOf y.1=la .free)
 len:pick.length=N.length
 caps:∀(i j:Nat) (x:Str),N[i]?=la x->pick[i]?=la (la j)->X.N[j]?=la x/\scope.names.lookup x=la .free
theorem OF  (f:Str->Qf->Qf):∀(names:List (Str×Qf)) x ,(names.map λy=>(y.1,f y.1 y.2)).lookup x=(names.lookup x).map (f x)
 |[],_=>rfl
 |(n,k)::r,x=>by
  rw[Le,El,El,OF f r x];by_cases e:x=n
  ·subst e;rw[beq_self_eq_true];rfl
  ·rw[beq_false_of_ne e]
noncomputable def HB  (env:Env)(n:Str)(k:Qf):Qf:=if (k==Sf&&env.scope.kind == .function&&env.kindOf n==la .cell) then .cell else k
def sG (env:Env)(names:List (Str×Qf))(x:Str) :
  (names.map λ(n,k)=>if (k==Sf&&env.scope.kind == .function&&env.kindOf n==la .cell) then (n,Gf) else (n,k)).lookup x=(names.lookup x).map (HB env x):=by
 rw[<- OF (HB env)];congr 2;funext y;show ite _ _ _=(y.1,ite _ _ _)
 lia
def OG {env:Env}{names:List (Str×Qf)}{x:Str}(h:names.lookup x=la .free) :
  (names.map λ(n,k)=>if (k==Sf&&env.scope.kind == .function&&env.kindOf n==la .cell) then (n,Gf) else (n,k)).lookup x=la .cell\/
  (names.map λ(n,k)=>if (k==Sf&&env.scope.kind == .function&&env.kindOf n==la .cell) then (n,Gf) else (n,k)).lookup x=la .free:=by
 rw[sG,h];show la (ite _ _ _)=_\/la (ite _ _ _)=_
 lia
def Yx {env:Env}{q:Qf}(f:q≠.free){names:List (Str×Qf)}{x:Str}(h:names.lookup x=la q) :
  (names.map λ(n,k)=>if (k==Sf&&env.scope.kind == .function&&env.kindOf n==la .cell) then (n,Gf) else (n,k)).lookup x=la q:=by
 rw[sG,h];show la (ite _ _ _)=_
 lia
theorem pH {env:Env}:∀{names:List (Str×Qf)} {x:Str},
  ((names.map λ(n,k)=>if (k==Sf&&env.scope.kind == .function&&env.kindOf n==la .cell) then (n,Gf) else (n,k)).lookup x=la .cell\/
  (names.map λ(n,k)=>if (k==Sf&&env.scope.kind == .function&&env.kindOf n==la .cell) then (n,Gf) else (n,k)).lookup x=la .free)->(x,Sf)∈names\/(x,Gf)∈names
 |[],_,h=>by simp at h
 |(n,k)::r,x,h=>by
  have y:_->_:=@pH env r x;have f:uy x ((if (k==Sf&&env.scope.kind == .function&&env.kindOf n==la .cell)=ma then (n,Gf) else (n,k))::r.map λ(n,k)=>if (k==Sf&&env.scope.kind == .function&&env.kindOf n==la .cell) then (n,Gf) else (n,k))=la .cell\/uy x ((if (k==Sf&&env.scope.kind == .function&&env.kindOf n==la .cell)=ma then (n,Gf) else (n,k))::r.map λ(n,k)=>if (k==Sf&&env.scope.kind == .function&&env.kindOf n==la .cell) then (n,Gf) else (n,k))=la .free:=h
  by_cases hk:k=.free
  ·cases j:x==n with
   |true=>simp_all
   |false=>
    refine(y ?_).imp (Pd _) (Pd _);by_cases q:(k==Sf&&env.scope.kind == .function&&env.kindOf n==la .cell)=ma
    ·rw[if_pos q]at f;simpa only[El,j]using f
    ·rw[if_neg q]at f;simpa only[El,j]using f
  ·have F:(k==Sf)=ua:=by simpa using hk
   rw[if_neg (by simp[F])]at f
   cases j:x==n with
   |true=>
    simp only[El,j]at f;rcases f with z|z
    ·rw[eq_of_beq j,Zc z];exact .inr cf
    ·exact absurd (Zc z) hk
   |false=>exact(y (by simpa only[El,j]using f)).imp (Pd _) (Pd _)

theorem Zo  : ∀names n acc ,Rf n names acc=Rf n names []++acc
 |[],_,_=>rfl
 |(x,k)::r,n,acc=>by
  unfold Rf;split
  ·rw[Zo r (n+1) ((x,n)::acc),Zo r (n+1) [(x,n)],Kz];rfl
  ·exact Zo r n acc
theorem Mt  : ∀names n {x } {c },(x,c)∈Rf n names []->(x,Gf)∈names
 |[],_,_,_,h=>nomatch h
 |(y,k)::r,n,x,c,h=>by
  unfold Rf at h;split at h
  ·rename_i hk;rw[Zo]at h;rcases Fa.mp h with h|h
   ·exact Pd _ (Mt r _ h)
   simp_all
  ·exact Pd _ (Mt r _ h)
def dU  {f:Type}:∀(l m:List (Str×f)) x ,(l++m).lookup x=(l.lookup x).or (m.lookup x)
 |[],_,_=>by simp
 |(n,k)::r,m,x=>by
  grind
structure BCells (scope:Od)(cl cs:List (Str×Ca))(lo:Nat)(h:Xa):Prop where
 lk:∀x c,cs.lookup x=la c->((x,Gf)∈scope.names/\lo<c/\h.IsCell c Aa)\/((x,Gf)∉scope.names/\cl.lookup x=la c)
 own:∀x,scope.names.lookup x=la .cell->∃c,cs.lookup x=la c/\lo<c
 old:∀x c,(x,Gf)∉scope.names->cl.lookup x=la c->cs.lookup x=la c
 inj:∀x y c,cs.lookup x=la c->cs.lookup y=la c->lo<c->x=y
def nS   {cl:List (Str×Ca)}{lo:Nat}(Z:h.objs.size=lo+1)(S:∀y∈scope.names,y.2=.cell->scope.names.lookup y.1=la .cell)(R:∀x c,cl.lookup x=la c->c<=lo):BCells scope cl (Rf (lo+1) scope.names cl) lo (zp h scope.names):=by
 have ok:=cellsFrom_ok scope.names h (lo+1) [] ⟨λ_ _ Y=>(nomatch Y),LI⟩ (by lia)
 rw[Z]at ok;have look:∀x,(Rf (lo+1) scope.names cl).lookup x=((Rf (lo+1) scope.names []).lookup x).or (cl.lookup x):=λx=>by rw[Zo,dU]
 have z:∀x,(x,Gf)∈scope.names->∃c,(Rf (lo+1) scope.names []).lookup x=la c:=λx f=>Uw (S _ f rfl);refine⟨λx c e=>?_,λx f=>?_,λx c f O=>?_,λx y c F J O=>?_⟩
 ·rw[look]at e;by_cases f:(x,Gf)∈scope.names
  ·obtain⟨j,I⟩:=z x f;rw[I,Option.some_or]at e;have e:j=c:=Zc e;subst e;obtain⟨z1,z2⟩:=ok.empty x j (Fg I)
   lia
  ·cases q:(Rf (lo+1) scope.names []).lookup x with
   |some j=>exact absurd (Mt _ _ (Fg q)) f
   |none=>simp_all
 ·obtain⟨c,e⟩:=z x (Fg f);exact⟨c,by simp_all,(ok.empty x c (Fg e)).2⟩
 ·rw[look];cases q:(Rf (lo+1) scope.names []).lookup x with
  |some j=>exact absurd (Mt _ _ (Fg q)) f
  |none=>simp_all
 ·rw[look]at F J;have new:∀x,((Rf (lo+1) scope.names []).lookup x).or (cl.lookup x)=la c->(Rf (lo+1) scope.names []).lookup x=la c:=λx e=>by
   cases q:(Rf (lo+1) scope.names []).lookup x with
   |some j=>simp_all
   |none=>
    grind
  exact name_of_addr ok.apart (Fg (new x F)) (Fg (new y J))
def TU           
  (j:Q (newEnv scope s.heap.objs.size globals (Rf (s.heap.objs.size+1) scope.names cl) f Aa .none (la env) rm) { s with heap:=zp (s.heap.push { cls:=.type "dict",data:=.dict #[] }) scope.names }) :
  wpAny M A (Yy scope globals cl [] f Aa .none (la env)) Q E s:=by
 have sz:(s.heap.push { cls:=.type "dict",data:=.dict #[] }).objs.size=s.heap.objs.size+1:=Tp ..;unfold Yy;rw[if_pos (by rfl)]
 refine Ab (wpAny_alloc (Ab (wpAny_layCells _ (λx k c=>by lia) _ _ _ _ ?_)))
 rw[show Xa.objs (Ia.heap _)=(s.heap.push { cls:=.type "dict",data:=.dict #[] }).objs from rfl,sz];exact Ab (fc (fc j))


def WU   (h:scope.names.lookup x=la .globalImplicit):Gl (ie X N scope cl C s₀ H₀ f) x:=Yx (by decide) h

def PIfs  (X:Cx)(ifs:List La)(t:TT):Prop:=
 ∀(f:List (Ca×Obj)) (s:Ia) (σ:St) (H:Hp) (Q:Bool->Hp->Prop),Oa X f σ H s->t σ H Q->
  wpAny (Ja X.prog X.w) X.A (ww X.env ifs) (TP X f σ Q) X.xe s
def aM  : TT:=λ_ H Q=>Q ma H
def YQ   : PIfs X [] aM:=λ_ _ _ H _ I h=>wpAny_tests_nil ⟨H,I,h⟩
def ZQ     (h:PT X c t):PIfs X [c] t:=λf s j H Q I q=>wpAny_tests_one (h f s j H Q I q)

abbrev Lj:=St->List V->Hp->(St->List V->Hp->Prop)->Prop
def dw  (J:It)(g:TG)(tt:TT)(y:Lj)(QQ:St->List V->Hp->Prop)(z:St)(F:List V)(H1:Hp):Prop:=∃W:Nat->Nat->St->List V->Hp->Prop,
 (∃m,W 0 m z F H1)/\∀i m R q H,W i m R q H->
  (J.stop i H/\QQ R q H)\/(J.go i H/\∀x Y,J.yld i H x Y->g x R Y λf H2=>tt f H2 λb Z=>if b=ma then y f q Z λI O H4=>∃j,j<m/\W (i+1) j I O H4
   else ∃j,j<m/\W (i+1) j f q Z)
def ky  (y:TE)(D:Ca):Lj:=λq f H Q=>y q H λv j=>j D=la (.lst f)/\f.length<Za/\Q q (f++[v]) (upd j D (.lst (f++[v])))
def LcGG  (J:It)(g:TG)(q:TT)(f:Ca->Lj)(D:Ca)(j:St)(Q:VK)(y:Hp):Prop:=dw J g q (f D) (λ_ _ H=>Q (.ref D) H) j [] (upd y D (.lst []))
def Vm  (Y:Cx)(em:Sem Unit)(q:Lj):Prop:=∀(f:List (Ca×Obj)) (s:Ia) (τ:St) (ys:List V) (H:Hp) (Q:St->List V->Hp->Prop),Oa Y f τ H s->q τ ys H Q->
 wpAny (Ja Y.prog Y.w) Y.A em (λ_ F=>∃j y z,Oa Y f j z F/\Q j y z) Y.xe s
def tLcG  (pick:List (Option Nat))(z:TI)(g:TG)(F:TT)(f:Ca->Lj):TE:=λq H Q=>z q H λJ y=>∀D,y D=Aa->LcGG J g F f D (pick.map λo=>o.bind λj=>(q[j]?).join) Q y
abbrev qv  (pick:List (Option Nat))(f:TI)(g:TG)(j:TT)(q:TE):TE:=tLcG pick f g j (ky q)
section
variable {X:Cx}{N:List Str}{pick:List (Option Nat)}{scope:Od}{pins:List (Ca×Obj)}{σ:St}{s s3:Ia}{H H3:Hp}

def ZT  {cl cs:List (Str×Ca)}{fp:List Ca}(S:CScope X N pick scope)(f:Oa X pins σ H3 s3)(hf:∀b∈fp,FpOk X pins H3 b)(ja:∀b∈fp,b<s3.heap.objs.size)
  (c1:∀x c,cl.lookup x=la c->X.env.cells.lookup x=la c) (c2:∀y∈scope.names,y.2=.free->∃c,cl.lookup y.1=la c) (B:BCells scope cl cs s3.heap.objs.size F)
  (ya:F.Ns s3.heap.objs.size mB) (hk:∀b o,s3.heap.get? b=la o->F.get? b=la o) :
  Oa (ie X N scope cs s3.heap.objs.size s3 H3 fp) [] (pick.map λo=>o.bind λj=>(σ[j]?).join) H3 { s3 with heap:=F,toks:=tk }:=by
 have xa:∀b∈Ef X.stack,b∈X.env.locals::X.fs:=f.stkSub;have oc:∀x c,cs.lookup x=la c->X.env.cells.lookup x=la c\/s3.heap.objs.size<c:=λx c e=>by
  rcases B.lk x c e with⟨_,z,_⟩|⟨_,z⟩
  ·lia
  simp_all
 have wa:∀x,((x,Sf)∈scope.names\/(x,Gf)∈scope.names)->∃c,cs.lookup x=la c:=λx Z=>by
  by_cases I:(x,Gf)∈scope.names
  ·obtain⟨c,e,_⟩:=B.own x (S.cells _ I rfl)
   simp_all
  ·rcases Z with Z|Z
   ·obtain⟨c,e⟩:=c2 _ Z rfl;exact⟨c,B.old x c I e⟩
   lia
 refine⟨⟨f.ok.mod,S.kind,f.ok.glob,f.ok.blt,Db _,λx y c e1 Y=>?_,λx Z=>wa x (pH Z),λx c z e=>?_,f.ok.hd,f.ok.frames,.inl rfl,λb O=>⟨re (ja b O),λx c e=>?_⟩,
   f.bs,Fb f.ok.bsz f.sz,λb o e O=>?_,λb O hm=>?_,f.stack,f.stkFree⟩,
  rfl,f.bare,Un.kept hk,⟨_,ya,λi x v e1 Y e3=>?_⟩,λx c e=>?_,f.hok.fresh (Db _),λx c e=>?_,λp hp=>absurd (show p∈([]:List (Ca×Obj))from hp) (by simp),f.hok.kept hk,?_⟩
 ·by_cases I:s3.heap.objs.size<c
  ·exact B.inj x y c e1 Y I
  ·exact f.ok.inj x y c ((oc x c e1).resolve_right I) ((oc y c Y).resolve_right I)
 ·have z':scope.names.lookup x=la .cell:=eq_of_beq z;rcases B.lk x c e with⟨_,y,_⟩|⟨y,_⟩
  ·exact Ki y
  ·exact absurd (Fg z') y
 ·rcases oc x c e with z|z
  ·exact(hf b O).2.2.2.2.1 x c z
  ·intro q;rw[q]at z;exact absurd (xy z (ja b O)) (Hh _)
 ·rcases(hf b O).2.2.2.1 with z|z
  ·exact f.ok.noex b o e z
  ·exact absurd (bf (Kc e) (Fb f.ok.bsz z)) (Hh _)
 ·rcases Ic.mp (xa b hm)with z|z
  ·exact(hf b O).2.1 z
  ·exact(hf b O).2.2.1 z
 ·-- a captured name
  have ka:∃j,pick[i]?=la (la j)/\σ[j]?=la (la v):=by
   rw[Lc]at Y;cases q:pick[i]? with
   |none=>simp_all
   |some o=>
    rw[q]at Y;cases o with
    |none=>simp at Y
    |some j=>
     grind
  obtain⟨j,ej,ev⟩:=ka;obtain⟨hN,za⟩:=S.caps i j x e1 ej;have J:(x,Sf)∈scope.names:=Fg za;have va:(x,Gf)∉scope.names:=λz=>by
   have:=S.cells _ z rfl
   lia
  obtain⟨_,R⟩:=S.fre _ J rfl;obtain⟨m,hn,hl⟩:=f.loc;obtain⟨u,r,l⟩:=hl j x v hN ev (R.elim (λz=>.inr (.inl z)) λz=>.inr (.inr z));refine⟨u,r,.inr ⟨?_,?_⟩⟩
  ·exact OG (env:=X.env) za
  ·obtain⟨c,I⟩:=c2 _ J rfl;have ha:=c1 _ _ I;rcases l with⟨z,_⟩|⟨_,c',e,o,ho,hd⟩
   ·lia
   ·have:c'=c:=by lia
    subst this;exact⟨c',B.old x c' va I,o,hk _ _ ho,hd⟩
 ·rcases B.lk x c e with⟨_,_,z⟩|⟨_,z⟩
  ·grind
  ·obtain⟨v,o,ho,hd⟩:=f.cell x c (c1 x c z);exact⟨v,o,hk _ _ ho,hd⟩
 ·rcases oc x c e with z|z
  ·exact f.freeC x c z
  ·exact f.hok.fresh (Ki z)
 ·rw[Ua];exact S.len

def JR     {F:St}(y:Oa X pins σ H3 s3)(j:∀b∈z,FpOk X pins H3 b)(J:Oa (ie X N scope cl C s3 H3 z) q F H' I) :
  Oa X pins σ H' I:=y.call' J.os J.base J.hok J.bare λb f=>⟨(j b f).2.2.2.1,(j b f).2.1,(j b f).2.2.2.2.1,(j b f).2.2.2.2.2⟩

def aQ                  {ya:St} 
  (yc:Y.calm=ma) (R:Y.xe=λ_ _=>False)
  (ha:qm (.ListComp elt gens scope pos) dp (.ref it) acc Y.env=Mo ip tg ifs (.ref it) Y.env em (.compLoop (.ListComp elt gens scope pos) dp (.ref it) acc Y.env))
  (yg:PG Y tg g) (yi:PIfs Y ifs tt) (ym:Vm Y em xb) (J0:Oa Y pins ya H s) (T:Turn Y.prog Y.w Y.K tg J fp it tn) (t0:tn 0 s.heap) (f0:∀b∈fp,FpOk Y pins H b) (hW:dw J g tt xb QQ ya jb H) :
  codeAny (Ja Y.prog Y.w) Y.A (.compLoop (.ListComp elt gens scope pos) dp (.ref it) acc Y.env) (λr s'=>r=.ok .next/\∃za zb j,Oa Y pins za j s'/\QQ za zb j) s:=by
 obtain⟨W,⟨m0,w0⟩,ja⟩:=hW;have I:∀{j:Hp},(∀b∈fp,j b=Aa)->∀b∈fp,FpOk Y pins j b:=λhn b O=>⟨hn b O,(f0 b O).2⟩;refine oU (λn s'=>∃i z Z j,Oa Y pins z j s'/\tn i s'.heap/\(∀b∈fp,j b=Aa)/\W i n z Z j) ha ?_ m0 ⟨0,_,jb,_,J0,t0,λb O=>(f0 b O).1,w0⟩;rintro n s4 ⟨i,z,Z,H4,J4,t4,fr4,w4⟩;rcases ja i n z Z H4 w4 with⟨xa,q⟩|⟨go,step⟩
 ·refine ng (T.done Y rfl rfl rfl yc i pins s4 z H4 (λ_ _=>False) J4 (I fr4) t4 xa) (λr s5 ⟨hr,J5⟩=>?_) λ_ _ f=>f;subst hr;exact⟨rfl,z,Z,H4,J5,q⟩
 ·refine ng (T.item Y rfl rfl rfl yc i pins s4 z H4 (λ_ _=>False) J4 (I fr4) t4 go) (λr s5 ⟨u,hr,h5⟩=>?_) λ_ _ f=>f;subst hr;refine ng h5 (λ_ s6 ⟨x,H6,J6,r6,y6,t6,wa⟩=>?_) λ_ _ f=>f;have ka:=J6.pinned (I wa) (T.obj _ _ t6);have ag:=yg _ s6 z H6 x u _ ka r6 (step x H6 y6);rw[R]at ag;refine ng ag (λ_ s7 ⟨va,H7,J7,q7⟩=>?_) λ_ _ f=>f;have ai:=yi _ s7 va H7 _ J7 q7;rw[R]at ai;refine ng ai (λok s8 ⟨H8,J8,q8⟩=>?_) λ_ _ f=>f;have F:∀{y:St} {H9:Hp} {s9:Ia} {zs:List V},Oa Y (pins++Io fp s6.heap) y H9 s9->(∃m',m'<n/\W (i+1) m' y zs H9)->∃m,m<n/\∃i z Z j,Oa Y pins z j s9/\tn i s9.heap/\(∀b∈fp,j b=Aa)/\W i m z Z j:=λ{y H9 s9 zs} J9 ⟨m',hm,w9⟩=>by
   refine⟨m',hm,i+1,y,zs,H9,J9.unpinned,T.keep _ _ _ t6 λb O o e=>(J9.pin (b,o) (Ee _ (Ee _ (Et O e)))).1,λb O=>?_,w9⟩;obtain⟨o,e,d⟩:=T.obj _ _ t6 b O;exact(J9.pin (b,o) (Ee _ (Ee _ (Et O e)))).2.1
  cases ok with
  |false=>exact F J8 q8
  |true=>
   have am:=ym _ s8 va Z H8 _ J8 q8;rw[R]at am;exact ng am (λ_ s9 ⟨y,zs,H9,J9,q9⟩=>F J9 q9) λ_ _ f=>f
def qB      (xa:Y.xe=λ_ _=>False)(he:PE Y elt te):Vm Y (do let _ <- call (.builtin "list.append") [.ref D,<- Ib elt Y.env]) (ky te D):=by
 intro R s F Z H Q J q;have ae:=he _ s F H _ J q;refine Ab (ng ae (λv s9 ⟨z,H9,J9,r9,O,y,q9⟩=>?_) λ_ _ f=>f);have aa:=rE (X:=Y) _ s9 F H9 (.ref D) [z] (.ref D) [v] (λx H'=>H'=upd H9 D (.lst (Z++[z]))) J9 rfl (.cons r9 .nil) ⟨_,Z,z,rfl,rfl,O,y,rfl⟩;refine Ab (ng aa (λ_ za ⟨_,ja,j,_,I⟩=>?_) λ_ _ f=>f);subst I;exact fc ⟨F,_,_,j,q9⟩
section
variable {tg iter elt:La}{ifs:List La}
def XC {rest:List gu}{xa:Pos}{g:TG}{tt:TT}{ya:Ca->Lj}{em:Ca->Env->Sem Unit}{J:It}{I:List Ca}{it:Ca}{tn:Nat->Xa->Prop}{cl:List (Str×Ca)}{Q:VK}{E:Da->Ia->Prop}{RR:Da->Ca->Result->Ia->Prop}
  (hc:X.calm=ma) (S:CScope X N pick scope) (c1:∀x c,cl.lookup x=la c->X.env.cells.lookup x=la c) (c2:∀y∈scope.names,y.2=.free->∃c,cl.lookup y.1=la c)
  (hg:∀cl C s₀ H₀ I,PG (ie X N scope cl C s₀ H₀ I) tg g) (hi:∀cl C s₀ H₀ I,PIfs (ie X N scope cl C s₀ H₀ I) ifs tt) (he:∀D cl C s₀ H₀ I,Vm (ie X N scope cl C s₀ H₀ I) (em D (ie X N scope cl C s₀ H₀ I).env) (ya D))
  (kb:∀(it:Da) (D:Ca) (env:Env),qm (.ListComp elt (⟨tg,iter,ifs,0⟩::rest) scope xa) 0 it (.ref D) env=Mo iter.pos tg ifs it env (em D env) (.compLoop (.ListComp elt (⟨tg,iter,ifs,0⟩::rest) scope xa) 0 it (.ref D) env))
  (I2:Oa X pins σ H s) (T:Turn X.prog X.w X.K tg J I it tn) (st:tn 0 s.heap) (hf:∀b∈I,FpOk X pins H b)
  (hW:∀D,H D=Aa->LcGG J g tt ya D (pick.map λo=>o.bind λj=>(σ[j]?).join) Q H)
  (qc:∀D C Z s',Oa X pins σ Z s'->(∃m,s'.heap.Ns C m)->FpOk X pins Z C->Q (.ref D) Z->RR (.ref D) C (.ok .next) s') :
  wpAny (Ja X.prog X.w) X.A (nq []) (λacc ka=>wpAny (Ja X.prog X.w) X.A (Yy scope X.env.globals cl [] X.env.qual Aa .none (la X.env)) (λza wa=>
   codeAny (Ja X.prog X.w) X.A (.compStart (.ListComp elt (⟨tg,iter,ifs,0⟩::rest) scope xa) 0 (.ref it) acc { za with scope:=relabel scope X.env }) (RR acc za.locals) wa) E ka) E s:=by
 have hD:H s.heap.objs.size=Aa:=I2.hok.fresh (Db _);have zb:∀b∈I,b<s.heap.objs.size:=λb f=>let ⟨o,e,_⟩:=T.obj _ _ st b f;Kc e
 refine xh (TU ?_);have I3:Oa X pins σ (upd H s.heap.objs.size (.lst [])) { s with heap:=s.heap.push { cls:=.type "list",dict:=Aa,data:=.seq ([]:List Da).toArray } }:=
  I2.laid (t':=s.toks) (λb u e=>Fc _ e) (Db _) ⟨og _,[],0,.nil,Fe _ rfl⟩
 generalize ha:({ s with heap:=s.heap.push { cls:=.type "list",dict:=Aa,data:=.seq ([]:List Da).toArray } }:Ia)=s3 at I3 ⊢
 have vc:s3.heap.objs.size=s.heap.objs.size+1:=by rw[<- ha];simp_all
 have ja:∀b∈I,FpOk X pins (upd H s.heap.objs.size (.lst [])) b:=λb f=>⟨by rw[Pc (re (zb b f))];exact(hf b f).1,(hf b f).2⟩
 have xb:(s3.heap.push { cls:=.type "dict",data:=.dict #[] }).objs.size=s3.heap.objs.size+1:=Tp ..;have hk:∀b o,s3.heap.get? b=la o->(zp (s3.heap.push { cls:=.type "dict",data:=.dict #[] }) scope.names).get? b=la o:=λb o e=>pushCells_keeps _ _ b o (Fc _ e);have R:(zp (s3.heap.push { cls:=.type "dict",data:=.dict #[] }) scope.names).Ns s3.heap.objs.size λ_=>Aa:=(Xa.Ns.new s3.heap (.type "dict")).keeps (pushCells_keeps _ _);have B:=nS (cl:=cl) xb S.cells λx c e=>by
  obtain⟨v,z⟩:=I3.cell x c (c1 x c e);exact Ki z.lt
 generalize zp (s3.heap.push { cls:=.type "dict",data:=.dict #[] }) scope.names=h₁ at hk R B ⊢;generalize Rf (s3.heap.objs.size+1) scope.names cl=cs at B ⊢;have vb:∀x c,cs.lookup x=la c->X.env.cells.lookup x=la c\/s3.heap.objs.size<c:=λx c e=>by
  rcases B.lk x c e with⟨_,z,_⟩|⟨_,z⟩
  ·lia
  simp_all
 have st1:tn 0 h₁:=T.keep _ _ _ st λb _ o e=>hk b o (by rw[<- ha];exact Fc _ e)
 have IY:Oa (ie X N scope cs s3.heap.objs.size s3 (upd H s.heap.objs.size (.lst [])) I) [] (pick.map λo=>o.bind λj=>(σ[j]?).join) (upd H s.heap.objs.size (.lst [])) { s3 with heap:=h₁ }:=
  ZT (tk:=s3.toks) S I3 ja (λb f=>bf (zb b f) (by lia)) c1 c2 B R hk
 generalize O:ie X N scope cs s3.heap.objs.size s3 (upd H s.heap.objs.size (.lst [])) I=Y at IY;have yg:PG Y tg g:=O ▸ hg _ _ _ _ _;have yi:PIfs Y ifs tt:=O ▸ hi _ _ _ _ _;have ye:Vm Y (em s.heap.objs.size Y.env) (ya s.heap.objs.size):=O ▸ he _ _ _ _ _ _;have va:Y.prog=X.prog:=by rw[<- O];rfl
 have yw:Y.w=X.w:=by rw[<- O];rfl
 have yK:Y.K=X.K:=by rw[<- O];rfl
 have yA:Y.A=X.A:=by rw[<- O];rfl
 have yc:Y.calm=ma:=by rw[<- O];exact hc
 have F:Y.env=compEnvC scope cs s3.heap.objs.size X.env:=by rw[<- O];rfl
 have yb:∀b,b∈Y.ex↔b∈I:=λb=>by rw[<- O];rfl
 have wb:Y.xe=λ_ _=>False:=by rw[<- O];rfl
 have zc:Y.pn=[]:=by rw[<- O];rfl
 have xc:∀b,b∈Y.fs->b∈X.env.locals::X.fs:=λb f=>I3.stkSub b (by rw[<- O]at f;exact f)
 have jb:∀{Z:Hp},(∀b∈I,Z b=Aa)->∀b∈I,FpOk Y [] Z b:=λhn b f=>by
  refine⟨hn b f,?_,λhm=>?_,.inl ((yb b).mpr f),λx c e=>?_,λp hp=>?_⟩
  ·rw[F];show b≠s3.heap.objs.size
   grind
  ·rcases Ic.mp (xc b hm)with z|z
   ·exact(hf b f).2.1 z
   ·exact(hf b f).2.2.1 z
  ·rw[F]at e;rcases vb x c e with z|z
   ·exact(hf b f).2.2.2.2.1 x c z
   grind
  simp_all
 have wc:∀{τ:St} {Z:Hp} {s':Ia},Oa Y [] τ Z s'->Q (.ref s.heap.objs.size) Z->RR (.ref s.heap.objs.size) s3.heap.objs.size (.ok .next) s':=λ{τ Z s'} J q=>by
  have fr:Z s3.heap.objs.size=Aa:=by have:=J.free;rw[F]at this;exact this
  obtain⟨m,hn,_⟩:=J.loc;rw[F]at hn;exact qc _ _ Z s' (JR I3 ja (O ▸ J)) ⟨m,hn⟩ (I3.fpOk (Db _) fr) q
 have hn:∀b∈I,upd H s.heap.objs.size (.lst []) b=Aa:=λb f=>(ja b f).1;have lp:=aQ (pins:=[]) (s:={ s3 with heap:=h₁ }) (acc:=.ref s.heap.objs.size) (ifs:=ifs) (em:=em s.heap.objs.size Y.env) yc wb (kb (.ref it) s.heap.objs.size Y.env) yg yi ye IY (by lia) st1 (jb hn) (hW _ hD)
 rw[va,yw,yA,F]at lp;have lp:=au lp (R':=RR (.ref s.heap.objs.size) s3.heap.objs.size) λr s' ⟨hr,jc,kc,Z,I',q'⟩=>by grind
 show codeAny (Ja X.prog X.w) X.A (.compStart (.ListComp elt (⟨tg,iter,ifs,0⟩::rest) scope xa) 0 (.ref it) (.ref s.heap.objs.size) (compEnvC scope cs s3.heap.objs.size X.env)) (RR (.ref s.heap.objs.size) s3.heap.objs.size) _;exact codeAny_compStart_list lp (T.self _ 0 _ _ _ st1 lp)

def gN {z:Pos}{wi:TI}{g:TG}{tt:TT}{rest:List gu}{R:Ca->Lj}{em:Ca->Env->Sem Unit}(hc:X.calm=ma)(S:CScope X N pick scope)(hw:PI X tg iter wi)
  (hg:∀cl C s₀ H₀ F,PG (ie X N scope cl C s₀ H₀ F) tg g) (hi:∀cl C s₀ H₀ F,PIfs (ie X N scope cl C s₀ H₀ F) ifs tt) (he:∀D cl C s₀ H₀ F,Vm (ie X N scope cl C s₀ H₀ F) (em D (ie X N scope cl C s₀ H₀ F).env) (R D))
  (xa:∀(it:Da) (D:Ca) (env:Env),qm (.ListComp elt (⟨tg,iter,ifs,0⟩::rest) scope z) 0 it (.ref D) env=Mo iter.pos tg ifs it env (em D env) (.compLoop (.ListComp elt (⟨tg,iter,ifs,0⟩::rest) scope z) 0 it (.ref D) env))
  (hs:∀x,Oh iter X.env x=pure x:=by intro _;rfl):PE X (.ListComp elt (⟨tg,iter,ifs,0⟩::rest) scope z) (tLcG pick wi g tt R):=by
 intro f s σ H Q I h;obtain⟨cl,j,c1,c2⟩:=YD (scope:=scope) (env:=X.env) λy hy hf=>I.ok.has _ (S.fre y hy hf).2;rw[eval_ListComp];refine dI (use:=Aa) rfl hs j S.kind S.names (Pb (hw f s σ H _ I h) λv s1 h1=>Pb h1 λza s2 h2=>?_);obtain⟨it,F,tn,J,H2,e,I2,T,st2,f2,hW⟩:=h2;subst e;refine XC (RR:=λZ C=>compPost (Ja X.prog X.w) X.A X.xe Aa (EP X f σ Q) Z C) hc S c1 c2 hg hi he xa I2 T st2 f2 hW λD C H' s' J' ⟨m,hn⟩ O q=>?_;refine⟨m,hn,λh' Y=>⟨.ref D,H',?_,rfl,q⟩⟩;exact J'.turned (t':=s'.toks) (it:=C) (λb o hb e=>Y.extBut b o hb e) O.1 O.2.1 O.2.2.2.1 O.2.2.2.2.1 O.2.2.2.2.2

def bP {f Z F:Pos}{wi:TI}{g:TG}{tt:TT}{rest:List gu}{xa:Ca->Lj}{em:Ca->Env->Sem Unit}{i:Nat}{y:Str}(hN:X.N.Nodup)(za:X.N[i]?=la y)(hy:X.env.scope.names.lookup y=la .local)(hc:X.calm=ma)(S:CScope X N pick scope)(hw:PI X tg iter wi)
  (hg:∀cl C s₀ H₀ Y,PG (ie X N scope cl C s₀ H₀ Y) tg g) (hi:∀cl C s₀ H₀ Y,PIfs (ie X N scope cl C s₀ H₀ Y) ifs tt) (he:∀D cl C s₀ H₀ Y,Vm (ie X N scope cl C s₀ H₀ Y) (em D (ie X N scope cl C s₀ H₀ Y).env) (xa D))
  (xb:∀(it:Da) (D:Ca) (env:Env),qm (.ListComp elt (⟨tg,iter,ifs,0⟩::rest) scope f) 0 it (.ref D) env=Mo iter.pos tg ifs it env (em D env) (.compLoop (.ListComp elt (⟨tg,iter,ifs,0⟩::rest) scope f) 0 it (.ref D) env))
  (ja:yj (.ListComp elt (⟨tg,iter,ifs,0⟩::rest) scope f) (la (.Name y Z)) F.line X.env=pure ma) (hs:∀x,Oh iter X.env x=pure x:=by intro _;rfl) :
  PS X (.Assign [.Name y Z] (.ListComp elt (⟨tg,iter,ifs,0⟩::rest) scope f) F) (tAsg (tLcG pick wi g tt xa) (Bs i)):=by
 intro j s σ H D0 I h;obtain⟨cl,R,c1,c2⟩:=YD (scope:=scope) (env:=X.env) λy hy hf=>I.ok.has _ (S.fre y hy hf).2;rw[exec_Assign_Name_used _ _ _ _ ja];refine Ab (su (Ab ?_));show wpAny _ _ (do let _ <- comprehension (.ListComp elt (⟨tg,iter,ifs,0⟩::rest) scope f) scope X.env _ (nq []) ua (Ib iter X.env) (la (Gc (.Name y Z) X.env))) _ _ s
 refine Ab (Pb (dI (use:=la (Gc (.Name y Z) X.env)) (Q:=λ_ s'=>SP X j D0 .next s') rfl hs R S.kind S.names
  (Pb (hw j s σ H _ I h) λv s1 h1=>Pb h1 λjb s2 h2=>?_)) λ_ s' hq=>fc (fc hq))
 obtain⟨it,Y,tn,J,H2,e,I2,T,st2,f2,hW⟩:=h2;subst e;refine XC (Q:=λx H1=>Bs i x σ H1 D0.nx) (RR:=λka C=>compPost (Ja X.prog X.w) X.A X.xe (la (Gc (.Name y Z) X.env)) (λ_ s'=>SP X j D0 .next s') ka C) hc S c1 c2 hg hi he xb I2 T st2 f2 hW λD C H' s' J' ⟨m,hn⟩ O q=>?_
 show wpAny _ _ (Gc (.Name y Z) X.env (.ref D)) _ _ _;refine wpAny_assign_Name (kE (v:=.ref D) J' hN za (.inl hy) rfl (λwa ya ⟨a,sb,ha⟩=>?_) (.inr hy));have zb:C≠a:=by
  rcases ha with z|z
  ·rw[z];exact O.2.1
  ·exact λe=>O.2.2.2.2.1 y a z e.symm
 refine⟨m,hn.sameBut sb zb,λh' va=>?_⟩;refine⟨_,H',ya.turned (t':=wa.toks) (it:=C) (λb o hb e=>va.extBut b o hb e) O.1 O.2.1 O.2.2.2.1 O.2.2.2.2.1 O.2.2.2.2.2,q⟩
def PK {j:Pos}{y:TI}{g:TG}{z:TT}{F:TE}(I:X.calm=ma)(S:CScope X N pick scope)(O:PI X tg iter y)
  (R:∀cl C s₀ H₀ f,PG (ie X N scope cl C s₀ H₀ f) tg g) (hi:∀cl C s₀ H₀ f,PIfs (ie X N scope cl C s₀ H₀ f) ifs z) (J:∀cl C s₀ H₀ f,PE (ie X N scope cl C s₀ H₀ f) elt F)
  (hs:∀x,Oh iter X.env x=pure x:=by intro _;rfl):PE X (.ListComp elt [⟨tg,iter,ifs,0⟩] scope j) (qv pick y g z F):=
 gN (em:=λD q=>do let _ <- call (.builtin "list.append") [.ref D,<- Ib elt q]) (rest:=[]) I S O R hi (λD cl C s₀ H₀ f=>qB rfl (J cl C s₀ H₀ f)) (λ_ _ _=>rfl) hs
def YK {q:Pos}{J:TI}{g:TG}{O:TT}{R:TE}{Y f:Pos}{i:Nat}{y:Str}(hN:X.N.Nodup)(z:X.N[i]?=la y)(hy:X.env.scope.names.lookup y=la .local)(Z:X.calm=ma)(S:CScope X N pick scope)(hw:PI X tg iter J)
  (hg:∀cl C s₀ H₀ j,PG (ie X N scope cl C s₀ H₀ j) tg g) (hi:∀cl C s₀ H₀ j,PIfs (ie X N scope cl C s₀ H₀ j) ifs O) (he:∀cl C s₀ H₀ j,PE (ie X N scope cl C s₀ H₀ j) elt R)
  (I:yj (.ListComp elt [⟨tg,iter,ifs,0⟩] scope q) (la (.Name y Y)) f.line X.env=pure ma) (hs:∀x,Oh iter X.env x=pure x:=by intro _;rfl):PS X (.Assign [.Name y Y] (.ListComp elt [⟨tg,iter,ifs,0⟩] scope q) f) (tAsg (qv pick J g O R) (Bs i)):=
 bP (em:=λD F=>do let _ <- call (.builtin "list.append") [.ref D,<- Ib elt F]) (rest:=[]) hN z hy Z S hw hg hi (λD cl C s₀ H₀ j=>qB rfl (he cl C s₀ H₀ j)) (λ_ _ _=>rfl) I hs
end
end

mutual
inductive DV (K:Lb)(H:Hp):V->Va->Prop
 |non:DV K H .non .none
 |bl (b:Bool):DV K H (.bl b) (.bool b)
 |int (i:Int):DV K H (.int i) (.int i)
 |str (x:Str):DV K H (.str x) (.str x)
 |tup {a:Ca} {xs:List V} {ds:List Va}:td K H a xs->cg K H xs ds->DV K H (.ref a) (.tuple ds)
 |lst {a:Ca} {xs:List V} {ds:List Va}:Rd H a (.lst xs)->cg K H xs ds->DV K H (.ref a) (.list ds)
 |dic {a:Ca}:H a=la (.dK [])->DV K H (.ref a) (.dict [])
inductive cg (K:Lb)(H:Hp):List V->List Va->Prop
 |nil:cg K H [] []
 |cons {x:V} {d:Va} {xs:List V} {ds:List Va}:DV K H x d->cg K H xs ds->cg K H (x::xs) (d::ds)
end

mutual
noncomputable def CK:Va->Bool
 |.list _=>ua
 |.tuple f=>noLs f
 |.dict _=>ua
 |.none|.bool _|.int _|.str _=>ma
noncomputable def noLs:List Va->Bool
 |[]=>ma
 |x::r=>CK x&&noLs r
end


def Oa.noSys    {j:St}(I:Oa X pins j H s)(h:s.heap.get? a=la o)(c:o.cls=.type "list"):jf≠a:=λe=>by
 obtain⟨q,l,y⟩:=I.mod.sys;have:=I.kIn _ _ l
 lia
mutual
theorem DV.reads2 {X:Cx}{pins:List (Ca×Obj)}{σ:St}{H:Hp}{s:Ia}(I:Oa X pins σ H s):∀{x:V} {d:Va} {u:Da},DV X.K H x d->RelV x u->∃as,Reads s.heap u d as/\jf∉as
 |_,_,_,.non,r=>by cases r;exact⟨_,.none,by simp⟩
 |_,_,_,.bl b,r=>by cases r;exact⟨_,.bool b,by simp⟩
 |_,_,_,.int i,r=>by obtain⟨t,rfl⟩:=r;exact⟨_,.int i t,by simp⟩
 |_,_,_,.str x,r=>by obtain⟨t,rfl⟩:=r;exact⟨_,.str x t,by simp⟩
 |_,_,_,.tup e h,r=>by
  cases r
  obtain⟨O,R,⟨o,j,F,n,hd⟩,_⟩:=I.tuple e
  obtain⟨as,q,z⟩:=cg.reads2 I h R
  exact⟨_,.tuple j F hd q,z⟩
 |_,_,_,@DV.lst _ _ a _ _ e h,r=>by
  cases r
  obtain⟨O,R,⟨o,n,j,F,_,hd⟩,_⟩:=I.list (.inl e)
  obtain⟨as,q,z⟩:=cg.reads2 I h R
  refine⟨_,.list j F hd q,λy=>?_⟩
  rcases Ic.mp y with y|y
  ·exact I.noSys j F y
  lia
 |_,_,_,@DV.dic _ _ a e,r=>by
  cases r
  obtain⟨_,hS,Y,kv,o,Z,ep,j,hx,hd,_,J,_⟩:([]:List (Ub×V)).length<=Za/\(a==jf)=ua/\∃Y,KV [] Y/\s.heap.DictOf (Yd X.prog X.w) a Y:=I.hok a _ e
  have e0:Z.toList=[]:=by
   cases kv
   revert J
   cases Z.toList with
   |nil=>lia
   |cons x r=>exact λJ=>(nomatch J)
  refine⟨_,.dict (kvs:=[]) (as:=[]) (bs:=[]) j hx.1 hd (by rw[e0];exact .nil) (by rw[e0];exact .nil),λy=>?_⟩
  simp_all
theorem cg.reads2 {X:Cx}{pins:List (Ca×Obj)}{y:St}{H:Hp}{s:Ia}(I:Oa X pins y H s):∀{xs:List V} {j:List Va} {us:List Da},cg X.K H xs j->Vals xs us->∃as,ReadsAll s.heap us j as/\jf∉as
 |_,_,_,.nil,r=>by cases r;exact⟨_,.nil,by simp⟩
 |_,_,_,.cons a b,r=>by
  cases r with
  |cons r rr=>
   obtain⟨as,q,z⟩:=DV.reads2 I a r
   obtain⟨bs,F,J⟩:=cg.reads2 I b rr
   exact⟨_,.cons q F,by simp_all⟩
end
def DV.reads {X:Cx}{pins:List (Ca×Obj)}{j:St}{H:Hp}{s:Ia}(I:Oa X pins j H s){x:V}{d:Va}{u:Da}(h:DV X.K H x d)(r:RelV x u):∃as,Reads s.heap u d as:=let ⟨as,q,_⟩:=DV.reads2 I h r;⟨as,q⟩
def cg.reads    {j:St}(I:Oa X pins j H s)(h:cg X.K H xs y)(r:Vals xs us):∃as,ReadsAll s.heap us y as:=let ⟨as,q,_⟩:=cg.reads2 I h r;⟨as,q⟩

structure Fits (n k:Nat)(d:Va):Prop where
 sh:d.showable=ma
 ln:d.shown.length<=n
 dp:d.depth<=k
def Fits.mono    (h:Fits n k d)(y:n<=j)(q:k<=k'):Fits j k' d:=⟨h.sh,Fb h.ln y,Fb h.dp q⟩
def Fits.int   (h:i.natAbs<2 ^ 1000):Fits 1921 0 (.int i):=by
 have j:i.natAbs.log2<1920:=by
  by_cases z:i.natAbs=0
  ·simp_all
  ·exact bf ((Nat.log2_lt z).mpr h) (by decide)
 refine⟨by simp[Az,j],?_,Db _⟩
 simp only[nl];exact int_text_len_1921 j
def Fits.str    (h:x.length<=m)(j:∀c∈x.cps.toList,c<16 ^ 8):Fits (10*m+2) 0 (.str x):=by
 refine⟨rfl,?_,Db _⟩;simp only[nl];exact Fb (StrLaws.reprText_len x j) (by lia)
def yS    (h:∀t∈ts,t.length<=n):piled ts<=ts.length*(n+2):=by
 induction ts with
 |nil=>simp[piled]
 |cons t r f=>
  have z:=h t cf;have y:=f λq j=>h q (Pd _ j);rw[piled_cons,Nh,By]
  lia
theorem vF  : ∀{f } {t },t∈Cm f->∃d∈f,t=d.shown
 |[],_,h=>by simp[Cm]at h
 |d::r,t,h=>by
  simp only[Cm,Ic]at h;rcases h with h|h
  ·simp_all
  ·obtain⟨e,j,q⟩:=vF h
   grind
theorem qH  : ∀f ,(Cm f).length=f.length
 |[]=>rfl
 |_::r=>by simp[Cm,qH r]
def PP   ts:(Str.join ", " ts).length<=piled ts:=by
 rcases Classical.em (ts=[])with rfl|hz
 ·exact og _
 ·exact Nat.le_of_add_right_le (Yp (join_length_add ts hz))
def KU    (h:∀t∈ts,t.length<=n):(tupleText ts).length<=ts.length*(n+2)+3:=by
 have f:=Fb (PP ts) (yS h);have two:∀b:Bool,((((if b=ma then ",)" else ")"):String):Str)).length<=2:=by decide
 have z:=two (ts.length==1);have one:(("(" : String):Str).length=1:=rfl
 simp only[tupleText,strLen_append]at z ⊢
 lia
theorem iG  : ∀{f },(∀d∈f,d.showable=ma)->gI f=ma
 |[],_=>rfl
 |d::r,h=>by simp[gI,h d cf,iG λq j=>h q (Pd _ j)]
theorem yE  : ∀{f } {k },(∀d∈f,d.depth<=k)->Yh f<=k
 |[],_,_=>og _
 |d::r,k,h=>by
  simp only[Yh];exact Nat.max_le.mpr ⟨h d cf,yE λq j=>h q (Pd _ j)⟩
def Fits.tup    (h:∀d∈j,Fits n k d):Fits (j.length*(n+2)+3) (k+1) (.tuple j):=by
 refine⟨?_,?_,?_⟩
 ·simp only[Az];exact iG λd hd=>(h d hd).sh
 ·simp only[nl];have:=KU (ts:=Cm j) (n:=n) λt q=>by obtain⟨d,hd,e⟩:=vF q;rw[e];exact(h d hd).ln
  rw[qH]at this
  lia
 ·simp only[Va.depth];exact Mz (yE λd hd=>(h d hd).dp)
def Fits.tupLe    (y:j.length<=m)(h:∀d∈j,Fits n k d)(q:m*(n+2)+3<=N):Fits N (k+1) (.tuple j):=
 (Fits.tup h).mono (Fb (Nat.add_le_add_right (Nat.mul_le_mul_right _ y) _) q) (Db _)
def fL  (K:Lb):List V->Hp->VK->Prop:=λf H Q=>∃x d,f=[x]/\DV K H x d/\Fits 16000000 60 d/\Q (.str d.shown) H
def RS    (Y:Room k X.A):Ye X (.builtin "repr") (fL X.K):=by
 intro O s σ H xs us Q I r h;obtain⟨x,d,rfl,dv,ft,q⟩:=h;obtain⟨u,rfl,y⟩:=Ng r;have hu:=Y.un;have f:∀(F:Xa) (J:Tok) (z:Nat),(∀b o,s.heap.get? b=la o->F.get? b=la o)->EP X O σ Q (.str d.shown J) { s with heap:=F,toks:=z }:=λF J z hk=>
  ⟨.str d.shown,H,I.kept (t':=z) hk,⟨J,rfl⟩,q⟩
 have R:d.shown.length<=Za:=Fb ft.ln (by decide)
 cases dv with
 |non=>cases y;exact P.repr_of_none (f _ _ _ λ_ _ e=>e)
 |bl b=>cases y;exact P.repr_of_bool (by have:=f s.heap s.toks (s.toks+1) λ_ _ e=>e;simp only[nl]at this;lia)
 |int i=>
  obtain⟨t,rfl⟩:=y;refine P.repr_of_int (by simpa[Az]using ft.sh) ?_
  have:=f s.heap s.toks (s.toks+1) λ_ _ e=>e;simp only[nl]at this
  lia
 |str x=>
  obtain⟨t,rfl⟩:=y;simp only[nl]at R;refine P.repr_of_str ?_ R;have:=f s.heap s.toks (s.toks+1) λ_ _ e=>e;simp only[nl]at this
  lia
 |@tup a xs ds e hd=>
  obtain⟨Z,rd,j⟩:=DV.reads2 I (DV.tup e hd) y;cases y;exact Zy rd ft.sh (λ_=>j) Y.gd (by have:=ft.dp;lia) (λ_ _ e=>e) (λF J z hk=>f F J z hk) R
 |@lst a xs ds e hd=>
  obtain⟨Z,rd,j⟩:=DV.reads2 I (DV.lst e hd) y;cases y;exact Zy rd ft.sh (λ_=>j) Y.gd (by have:=ft.dp;lia) (λ_ _ e=>e) (λF J z hk=>f F J z hk) R
 |@dic a e=>
  obtain⟨Z,rd,j⟩:=DV.reads2 I (DV.dic e) y;cases y;exact Zy rd ft.sh (λ_=>j) Y.gd (by have:=ft.dp;lia) (λ_ _ e=>e) (λF J z hk=>f F J z hk) R

def Sm  (f:Ca)(H j:Hp):Prop:=∀b o,b≠f->H b=la o->j b=la o


def AQ  : V->List V->Hp->VK->Prop:=λx j H Q=>∃l f i y,x=.ref l/\j=[.int i,y]/\H l=la (.lst f)/\0<=i/\i<=f.length/\f.length<Za/\Q .non (upd H l (.lst (f.take i.toNat++y::f.drop i.toNat)))
def Vals.ins      (r:Vals xs us)(j:RelV y u) k:Vals (xs.take k++y::xs.drop k) (us.take k++u::us.drop k):=(Vals.take k r).append (.cons j (Vals.drop k r))
def AT  : jq X "list.insert" AQ:=by
 intro J s σ H x vs v us Q I Z rv h;obtain⟨l,xs,i,y,rfl,rfl,R,h1,h2,h3,q⟩:=h;cases Z;obtain⟨u,Y,rfl,ru,j⟩:=rv.two;obtain⟨t,rfl⟩:=ru;obtain⟨z,f,n,r,hl,e⟩:=I.lstM R;have O:i<2 ^ 63:=by have:=Tk;lia
 refine Qg F.slot_list_insert ⟨_,e,rfl⟩ F.entry_list_insert (F.args_list_insert_3 _ _ _)
  (AutoSeq1.list_insert_list_int_val_1 l f.toArray n i t Y (by simp[Ob.List.listFitsIndex];lia) (by simp_all)) ⟨e,?_⟩
 refine⟨.non,_,I.lset (its':=f.take i.toNat++Y::f.drop i.toNat) R e ?_ (Vals.ins r j _) ?_,rfl,q⟩
 ·have hk:(if i<0 then (i+(f.toArray.size:Int)).toNat else min i.toNat f.toArray.size)=i.toNat:=by
   grind
  grind
 ·rw[Ae,Nh,Zh,Qu]
  lia


theorem GG  : ∀{ns } {us },Vals (ns.map V.int) us->∃f:List (Int×Tok),us=(f.map λp=>um p.1 p.2)/\f.map (·.1)=ns
 |[],us,r=>by cases r;simp_all
 |n::ns,us,r=>by
  cases r with
  |cons h r=>
   obtain⟨t,rfl⟩:=h;obtain⟨f,rfl,e⟩:=GG r;exact⟨(n,t)::f,rfl,by simp[e]⟩

def IR  (j:X.calm=ma):Ye X (.builtin "sum") (λxs H Q=>∃(p:Ca) (ns:List Int),xs=[.ref p]/\Nd X.K H p (ns.map V.int)/\Q (.int ns.sum) H):=by
 intro f s σ H xs us Q I r h;obtain⟨p,ns,rfl,F,q⟩:=h;obtain⟨u,rfl,Y⟩:=Ng r;cases Y;obtain⟨R,Z,O,hz⟩:=I.list F;obtain⟨J,rfl,e⟩:=GG Z;have z:s.heap.IsList p (intItems J.toArray):=by
  have:=O.isList;simpa[intItems]using this
 refine sum_intListG (I.ok.hd j) z λh' tk y k=>⟨.int ns.sum,H,I.kept k,⟨y,?_⟩,q⟩;rw[preSum_eq,Gu (by simp),<- e]

theorem fm_rev  (xs:List Da):∀n,n<=xs.length->(Qc n).filterMap (λk=>xs[xs.length-1-k]?)=(xs.drop (xs.length-n)).reverse
 |0,_=>by simp
 |n+1,h=>by
  rw[Dp,List.filterMap_append,fm_rev xs n (by lia)]
  have hk:xs.length-1-n<xs.length:=by lia
  have:xs.drop (xs.length-(n+1))=xs[xs.length-1-n]::xs.drop (xs.length-n):=by
   rw[show xs.length-(n+1)=xs.length-1-n by lia,Kl hk,show xs.length-1-n+1=xs.length-n by lia]
  simp_all
def ZR  (xs:List Da):wm xs.toArray Aa Aa (la (-1))=xs.reverse.toArray:=by
 have e:sliceRange ((xs.length:Int)-1) (-1) (-1)=(Qc xs.length).map λk=>xs.length-1-k:=by
  unfold sliceRange;have j:(if (-1:Int)>0 then (if (xs.length:Int)-1 < -1 then (-1-((xs.length:Int)-1) + -1-1) / -1 else 0) else (if (xs.length:Int)-1 > -1 then ((xs.length:Int)-1 - -1 - -1-1)/(- -1) else 0)).toNat=xs.length:=by
   rw[if_neg (by lia),show(- -1:Int)=1 from rfl,wy]
   split<;>lia
  simp only[j];refine ul λk hk=>?_;have:=Ra.mp hk
  lia
 have b:Gi Aa Aa (la (-1)) xs.toArray.size=((xs.length:Int)-1,-1,-1):=by
  simp[Gi]
 unfold wm;rw[b];simp only;rw[e,AI];have:=fm_rev xs xs.length (Db _);rw[zy,Xy]at this;rw[<- this];congr 1;refine congrArg (λf=>List.filterMap f (Qc xs.length)) (funext λk=>?_);simp
def ER  (xs:List Da):wm xs.toArray Aa Aa (la 1)=xs.toArray:=by
 have:=slicePick_all xs.toArray;unfold wm at this ⊢;exact this
def Vals.rev    (r:Vals xs us):Vals xs.reverse us.reverse:=by
 induction r with
 |nil=>exact .nil
 |cons h r j=>rw[Ip,Ip];exact j.append (.cons h .nil)

end L2
namespace HT
open PySem PySem.Spec PyProof.Rows

def getItem_tuple_all     {lo hi:Option Int}(f:Rh s.heap t items)(hs:s.heap.IsSliceOf F Y I .none)(R:Me Y lo)(J:Me I hi)
  (hw:sIx items.size 0 lo=0/\sIx items.size items.size hi=items.size) (h:Q (.ref t) s):wpAny (Ja prog w) A (Dd (.ref t) (.ref F)) Q E s:=by
 obtain⟨O,z,q,Z⟩:=id hs;have y:s.TypeIs (.ref F) "slice" := ⟨O,z,q⟩;unfold Dd
 try with_reducible refine Gj ?_
 first|refine Ab (fc ?_)|skip
 refine Ab (My f.typeIs (by decide) ?_)
 refine Ab (Eu (name:=Li "__getitem__") f.typeIs Qi
  (Bm Qi f.typeIs Gz ?_ (Pz _ _)))
 show wpAny _ _ (Rz (.ref t) >>= _) _ _ s;refine Ab (qy f ?_);refine Ab (bu y ?_);rw[if_pos (by decide)]
 refine Ab (YG hs R J ?_);have j:((((sIx items.size 0 lo:Nat):Int)==0&&(1:Int)==1&&(sIx items.size items.size hi-sIx items.size 0 lo)==items.size)=ma):=by
  simp_all
 show wpAny _ _ (if (((sIx items.size 0 lo:Nat):Int)==0&&(1:Int)==1&&(sIx items.size items.size hi-sIx items.size 0 lo)==items.size)=ma then _ else _) _ _ s
 rw[if_pos j];refine Ab (m:=vJ (.ref t)) ?_;unfold vJ;refine Ab (bu f.typeIs (fc ?_));rw[if_pos (by decide)]
 exact Ab (Xm (fc ⟨_,rfl,fc h⟩))
end HT
namespace L2
open PySem PySem.Spec PyProof.Rows

def rSlW  (K:Lb):V->Option Int->Option Int->Hp->VK->Prop:=λx j q H Q=>∃a f,x=.ref a/\td K H a f/\
 (HT.sIx f.length 0 j=0/\HT.sIx f.length f.length q=f.length)/\Q (.ref a) H
def IQ  : dh X (rSlW X.K):=by
 intro j s σ H x v vl vu lo hi sl Q I Z J Y R h;obtain⟨a,O,rfl,F,hw,q⟩:=h;cases Z;obtain⟨f,r,y,hz⟩:=I.tuple F;have z:f.toArray.size=O.length:=by rw[Bd];exact r.length.symm
 refine⟨"tuple",_,Qi.lookup,y.typeIs,?_⟩;exact HT.getItem_tuple_all y J Y R (by lia) ⟨.ref a,H,I,rfl,q⟩
def HQ  : dh X (λx lo hi H Q=>rSlT X.K x lo hi H Q\/rSlW X.K x lo hi H Q):=dh.or NO IQ
theorem HF  : ∀(xs:List V) (us:List Da),xs.length=us.length->(∀(i:Nat) x u ,xs[i]?=la x->us[i]?=la u->RelV x u)->Vals xs us
 |[],[],_,_=>.nil
 |x::xs,u::us,h,g=>.cons (g 0 x u rfl rfl) (HF xs us (by simpa using h) λi y z j f=>g (i+1) y z (by simp_all) (by simp_all))
 |[],_::_,h,_=>by simp at h
 |_::_,[],h,_=>by simp at h
def jS  (q:TA):TE:=λz H Q=>q z H λy f=>∃j:Int,y=[.int j]/\0<=j/\j<=1000000/\∀l,f l=Aa->Q (.ref l) (upd f l (.lst ((Qc j.toNat).map λk:Nat=>V.int (k:Int))))
section
variable {X:Cx}
def HU {a:La}{ta:TA}{p R Y f:Pos}(hc:X.calm=ma)(ya:Gl X "list")(ja:X.mg "list" = Aa)(za:Gl X "range")(Z:X.mg "range" = Aa)(ha:PA X [a] ta)(hs:md [a] X.env=[(ua,Ib a X.env)]:=by rfl)
  (J:md [.Call (.Name "range" R) [a] [] f] X.env=[(ua,Ib (.Call (.Name "range" R) [a] [] f) X.env)]:=by rfl):PE X (.Call (.Name "list" p) [.Call (.Name "range" R) [a] [] f] [] Y) (jS ta):=by
 intro y s σ H Q I h;refine Fp (Rk I ya ja boot_list ?_ (by decide) (by decide))
 refine dq ?_ J rfl;rw[J];refine VH (rest:=[]) ?_;refine Call_ (Rk I za Z boot_range (dq (Pb (ha f y s σ H _ I h) λus s1 ⟨vs,H1,I1,r1,q1⟩=>?_) hs rfl));obtain⟨j,e,h0,h1,q⟩:=q1;subst e;cases r1 with
 |cons r rr=>
  cases rr;obtain⟨t,rfl⟩:=r;refine call_range_1 ?_;refine fc ?_;have O:Oa X y σ H1 { s1 with heap:=s1.heap.push { cls:=.type "range",data:=.fields #[.int 0 s1.toks,.int j t,.int 1 (s1.toks+1)] },toks:=s1.toks+1+1 }:=I1.kept λb o e=>Fc _ e
  have hn:sJ 0 j 1=(j.toNat:Nat):=by rw[rangeSize_one];lia
  refine call_list_range (O.ok.hd hc) (IsRange.new ..) (small_one (by lia) (by lia) (by lia) (by lia)) hn (by lia) λh' tk F c' hk xa z=>?_
  have hv:Vals ((Qc j.toNat).map λk:Nat=>V.int (k:Int)) F.toList:=HF _ _ (by simp[z.1]) λi x u hx hu=>by
   have hi:i<j.toNat:=by
    grind
   rw[Lc,mz hi]at hx;obtain⟨va,e⟩:=z.2 i u (by simp_all)
   cases hx;exact⟨va,by lia⟩
  have hz:((Qc j.toNat).map λk:Nat=>V.int (k:Int)).length<=Za:=by
   rw[Ua,ci];exact Fb (show j.toNat<=1000000 by lia) (by decide)
  refine⟨.ref _,_,O.laid (t':=tk) (o:=.lst ((Qc j.toNat).map λk:Nat=>V.int (k:Int))) hk (Db _) ?_,rfl,q _ (O.hok.fresh (Db _))⟩;exact⟨hz,_,c',hv,xa⟩
end
end L2
namespace HT
open PySem PySem.Spec PyProof.Rows

def PU    {n:Nat}(hs:s.heap.IsSliceOf z .none .none (.int (-1) t))(h:Q ((n:Int)-1,-1,n) s):wpAny (Ja prog w) A (Wu (.ref z) (pure (n:Int))) Q E s:=by
 obtain⟨I,j,y,f⟩:=id hs;unfold Wu uJ;refine Ab (Ab (gi j f (x:=.none) rfl (Ab (gi j f (x:=.none) rfl (Ab (gi j f (x:=.int (-1) t) rfl (fc ?_)))))));refine Ab (Xo (.int (-1) t) ?_);show wpAny _ _ (if ((-1:Int)==0)=ma then _ else _) _ _ s
 rw[if_neg (by decide)]
 refine Ab (Xo .none (Ab (Xo .none (Ab (fc ?_)))));have q:cq Aa Aa (-1) (n:Int)=((n:Int)-1,-1):=rfl;have F:Jj ((n:Int)-1) (-1) (-1)=n:=by
  unfold Jj;rw[if_neg (by lia),show(- -1:Int)=1 from rfl,wy]
  split<;>lia
 show wpAny _ _ (match cq Aa Aa (-1) (n:Int)with|(lo,hi)=>pure (lo,(-1:Int),Jj lo hi (-1))) _ _ s
 rw[q];show wpAny _ _ (pure ((n:Int)-1,(-1:Int),Jj ((n:Int)-1) (-1) (-1))) _ _ s;rw[F];exact fc h
def xS  (xs:List Da):((Qc xs.length).filterMap λ(k:Nat)=>xs.toArray[((xs.length:Int)-1+(k:Int)*(-1)).toNat]?).toArray=xs.reverse.toArray:=by
 have:=L2.fm_rev xs xs.length (Db _);rw[zy,Xy]at this;rw[<- this];congr 1;refine congrArg (λf=>List.filterMap f (Qc xs.length)) (funext λk=>?_);rw[show((xs.length:Int)-1+(k:Int)*(-1)).toNat=xs.length-1-k by lia]
 simp
def getItem_tuple_rev   {f:List Da}(q:Rh s.heap t f.toArray)(hs:s.heap.IsSliceOf J .none .none (.int (-1) tk))
  (h:Q (.ref s.heap.objs.size) { s with heap:=s.heap.push { cls:=.type "tuple",data:=.seq f.reverse.toArray } }) (hsz:f.length<=Za):wpAny (Ja prog w) A (Dd (.ref t) (.ref J)) Q E s:=by
 have j:sizeOk (.seq f.reverse.toArray):=by
  show f.reverse.toArray.size<=Za
  simp_all
 obtain⟨O,I,y,R⟩:=id hs;have z:s.TypeIs (.ref J) "slice" := ⟨O,I,y⟩;unfold Dd
 try with_reducible refine Gj ?_
 first|refine Ab (fc ?_)|skip
 refine Ab (My q.typeIs (by decide) ?_)
 refine Ab (Eu (name:=Li "__getitem__") q.typeIs Qi
  (Bm Qi q.typeIs Gz ?_ (Pz _ _)))
 show wpAny _ _ (Rz (.ref t) >>= _) _ _ s;refine Ab (qy q ?_);refine Ab (bu z ?_);rw[if_pos (by decide)]
 refine Ab (PU (n:=f.length) hs ?_);have F:¬((((f.length:Int)-1)==0&&(-1:Int)==1&&f.length==f.toArray.size)=ma):=by simp
 show wpAny _ _ (if (((f.length:Int)-1)==0&&(-1:Int)==1&&f.length==f.toArray.size)=ma then _ else _) _ _ s
 rw[if_neg F,xS]
 first
  |exact Ab (m:=Hj _) (xh (fc ⟨_,rfl,fc h⟩) j)
  |exact Ab (m:=Hj _) (xh (Ab (fc (fc ⟨_,rfl,fc h⟩))) j)
  |exact Ab (Ab (m:=Hj _) (xh (fc (fc ⟨_,rfl,fc h⟩)) j))
  |exact Ab (Ab (m:=Hj _) (xh (fc ⟨_,rfl,fc h⟩) j))
end HT
namespace L2
open PySem PySem.Spec PyProof.Rows


end L2

namespace L2
open PySem PySem.Spec PyProof.Rows

def ZK  (K:Lb):R2:=λx y H Q=>∃a b f j,x=.ref a/\y=.ref b/\td K H a f/\td K H b j/\f.length+j.length<=Za/\
 (f=[]->Q (.ref b) H)/\(f≠[]->j=[]->Q (.ref a) H)/\(f≠[]->j≠[]->∀p,H p=Aa->Q (.ref p) (upd H p (.tup (f++j))))
def pP  : Cc X (Oe .Add) (ZK X.K):=by
 intro z s σ H x y v u Q I rx ry h;obtain⟨a,b,xs,ys,rfl,rfl,ha,hb,hz,q0,q1,q2⟩:=h;by_cases F:xs=[]
 ·cases rx;cases ry;obtain⟨R,r1,p1,_⟩:=I.tuple ha;obtain⟨j,r2,p2,_⟩:=I.tuple hb;have hv:R=[]:=r1.nil_iff.mpr F;subst hv;obtain⟨⟨ja,dd,za,sl⟩,ho,hc,n,hd⟩:=id p1;obtain⟨⟨xa,Z,O,Y⟩,f,J,n2,q⟩:=id p2;simp only at hc hd J q;subst hc hd J q;exact oy ⟨_,ho,rfl⟩ ⟨_,f,rfl⟩ Wy Iy Uz Wz (Xz _ _)
   (tuple_addW0 a b _ j.toArray n n2 dd Z sl Y rfl) ⟨ho,f,⟨.ref b,H,I,rfl,q0 F⟩⟩
 ·exact qP z s σ H _ _ _ _ Q I rx ry ⟨a,b,xs,ys,rfl,rfl,ha,hb,F,hz,q1 F,q2 F⟩
def GT   (hr:Room k X.A):Cc X (ee .Eq) (λx y H Q=>∃a b xs,x=.ref a/\y=.ref b/\td X.K H a xs/\td X.K H b []/\Q (.bl xs.isEmpty) H):=by
 intro F s σ H x y v u Q I rx O h;obtain⟨a,b,xs,rfl,rfl,Y,R,q⟩:=h;cases rx;cases O;obtain⟨f,rv,pa,_⟩:=I.tuple Y;obtain⟨J,z,Z,_⟩:=I.tuple R;cases z;have hu:X.A.units<Xb:=hr.units0;have e:((Qc (min f.toArray.size ([]:List Da).toArray.size)).all (λ_=>ma)&&f.toArray.size==([]:List Da).toArray.size)=xs.isEmpty:=by
  cases rv<;>simp
 refine EqBoolInt.of_rc (zh.tuples (e:=λ_=>ma) (show s.heap.IsTuple a f.toArray from pa) (show s.heap.IsTuple b ([]:List Da).toArray from Z) hu λj _ h2=>?_) ?_
 ·simp at h2
 ·rw[e];exact⟨.bl xs.isEmpty,H,I,rfl,q⟩




def cB  (K:Lb)(f:Bool):R2:=λx y H Q=>∃d e,DV K H x d/\DV K H y e/\d.canLay0=ma/\e.canLay0=ma/\d.depth<=100/\Q (.bl (if f then !PyData.eqv d e else Ud d e)) H
def RM   (O:Room k X.A):Cc X (ee .NotEq) (cB X.K ma):=by
 intro f s Z H x y v u Q I z J h;obtain⟨d,e,hd,j,c1,c2,hk,q⟩:=h;obtain⟨Y,R⟩:=hd.reads I z;obtain⟨bs,F⟩:=j.reads I J;exact SeqAt.compareNe_reads R F c1 c2 (by have:=O.un;lia) ⟨.bl _,H,I,rfl,q⟩
def MM   (O:Room k X.A):Cc X (ee .Eq) (cB X.K ua):=by
 intro f s Z H x y v u Q I z J h;obtain⟨d,e,hd,j,c1,c2,hk,q⟩:=h;obtain⟨Y,R⟩:=hd.reads I z;obtain⟨bs,F⟩:=j.reads I J;exact SeqAt.compareEq_reads R F c1 c2 (by have:=O.un;lia) ⟨.bl _,H,I,rfl,q⟩

mutual
noncomputable def Th:Va->Bool
 |.none=>ma
 |.bool _=>ua
 |.int _=>ma
 |.str _=>ma
 |.list f=>noBs f
 |.tuple f=>noBs f
 |.dict _=>ua
noncomputable def noBs:List Va->Bool
 |[]=>ma
 |d::r=>Th d&&noBs r
end
mutual
theorem wB:∀{d e:Va},Th d=ma->Th e=ma->Ud d e=ma->d=e
 |.none,.none,_,_,_=>rfl
 |.int i,.int j,_,_,h=>by rw[Ud]at h;rw[eq_of_beq h]
 |.str i,.str j,_,_,h=>by rw[Ud]at h;rw[eq_of_beq h]
 |.list xs,.list ys,h1,h2,h=>by rw[Ud]at h;rw[Th]at h1 h2;rw[Iw h1 h2 h]
 |.tuple xs,.tuple ys,h1,h2,h=>by rw[Ud]at h;rw[Th]at h1 h2;rw[Iw h1 h2 h]
 |.bool _,_,h,_,_=>by rw[Th]at h;cases h
 |.dict _,_,h,_,_=>by rw[Th]at h;cases h
 |.none,.bool _,_,h,_|.int _,.bool _,_,h,_|.str _,.bool _,_,h,_|.list _,.bool _,_,h,_|.tuple _,.bool _,_,h,_=>by rw[Th]at h;cases h
 |.none,.dict _,_,h,_|.int _,.dict _,_,h,_|.str _,.dict _,_,h,_|.list _,.dict _,_,h,_|.tuple _,.dict _,_,h,_=>by rw[Th]at h;cases h
 |.none,.int _,_,_,h|.none,.str _,_,_,h|.none,.list _,_,_,h|.none,.tuple _,_,_,h=>by rw[Ud]at h;cases h
 |.int _,.none,_,_,h|.int _,.str _,_,_,h|.int _,.list _,_,_,h|.int _,.tuple _,_,_,h=>by rw[Ud]at h;cases h
 |.str _,.none,_,_,h|.str _,.int _,_,_,h|.str _,.list _,_,_,h|.str _,.tuple _,_,_,h=>by rw[Ud]at h;cases h
 |.list _,.none,_,_,h|.list _,.int _,_,_,h|.list _,.str _,_,_,h|.list _,.tuple _,_,_,h=>by rw[Ud]at h;cases h
 |.tuple _,.none,_,_,h|.tuple _,.int _,_,_,h|.tuple _,.str _,_,_,h|.tuple _,.list _,_,_,h=>by rw[Ud]at h;cases h
theorem Iw:∀{f j:List Va},noBs f=ma->noBs j=ma->Dj f j=ma->f=j
 |[],[],_,_,_=>rfl
 |d::r,e::q,h1,h2,h=>by
  rw[noBs,Hf]at h1 h2
  rw[Dj,Hf]at h
  rw[wB h1.1 h2.1 h.1,Iw h1.2 h2.2 h.2]
 |[],_::_,_,_,h=>by rw[Dj]at h;cases h
 |_::_,[],_,_,h=>by rw[Dj]at h;cases h
end


def aU  (f:List Va):Dj f []=f.isEmpty:=by
 cases f<;>rfl
def OU  : fillsNumberSlot (.type "tuple") "mul" = pure ua:=
 PySem.fillsNumberSlot_seq (id := "tuple.__mul__") (r:=la (.builtin "tuple.__rmul__")) qp.lookup (by decide +kernel) F.slot_tuple_rmul.lookup (by decide +kernel)
def IU  : seqRepeat? (.type "tuple")=pure (la (.builtin "tuple.__mul__")):=by
 unfold seqRepeat?;rw[tI (T := "tuple") (name := "__mul__") (id := "tuple.__mul__") qp.lookup (by decide +kernel),tI (T := "tuple") (name := "__rmul__") (id := "tuple.__rmul__") F.slot_tuple_rmul.lookup (by decide +kernel)]
 rfl
def NU   a (t:Tok) l items (n:Nat) dd sl :
  rg (Ob.«int.__rmul__» ⟨[.int a t,.ref l],[]⟩) (λ_ R s=>s.heap.get? l=la { cls:=.type "tuple",dict:=dd,data:=.seq items n,slots:=sl }/\R (.ok (.ret Da.notImplemented)) s):=
 .of_wp λf w A R s h=>by obtain⟨j,g,d,q,z⟩:=s;obtain⟨y,h⟩:=h;wp_walk;exact⟨_,rfl,h⟩
def QT   l (items:Array Da)(n:Nat) dd sl (x:Int)(t:Tok)(hx:2<=x)(J:x<2 ^ 62)(h0:items.isEmpty=ua)(hsz:items.size*x.toNat<=Za) :
  rg (Ob.«tuple.__mul__» ⟨[.ref l,.int x t],[]⟩)
   (λA R s=>s.heap.get? l=la { cls:=.type "tuple",dict:=dd,data:=.seq items n,slots:=sl }/\R (.ok (.ret (.ref s.heap.objs.size))) { s with heap:=s.heap.push { cls:=.type "tuple",data:=.seq ((Kb x.toNat items).foldl (·++·) #[]) } }):=
 .of_wp λq w A R s h=>by
  obtain⟨Z,g,d,tk,os⟩:=s;obtain⟨z,h⟩:=h;have c1:(decide (x < -2 ^ 63)||decide (x ≥ 2 ^ 63))=ua:=by simp;lia
  have c2:(items.isEmpty||x==1)=ua:=by rw[h0];simp;lia
  have I:(decide (x<=0)||items.isEmpty)=ua:=by rw[h0];simp;lia
  have F:(items.size:Int)*x=((items.size*x.toNat:Nat):Int):=by rw[Int.natCast_mul,Int.toNat_of_nonneg (by lia)]
  have Y:(Za:Nat)<=(2 ^ 63-1)/8:=by decide
  wp_walk using Ka z
  simp only[c1,Jp,if_false]
  wp_walk using Ka z
  simp only[c2,I,Jp,if_false];rw[if_neg (by rw[F];lia)]
  have O:wJ ((items.size:Int)*x)=ua:=by
   rw[F];unfold wJ;exact decide_eq_false (by lia)
  simp only[O,Jp,if_false];have y:(Ap (λj f=>j++f) #[] (Kb x.toNat items)).size<=Za:=by
   rw[AutoListH.size_joined];simp only[Bd,Uu,Zp];rw[uu];exact hsz
  revert y h;generalize Ap (λj f=>j++f) #[] (Kb x.toNat items)=G;intro h y
  wp_walk
  exact⟨_,rfl,h⟩
def NT   l (items:Array Da)(n:Nat) dd sl t (h0:items.isEmpty=ua) :
  rg (Ob.«tuple.__mul__» ⟨[.ref l,.int 0 t],[]⟩)
   (λA R s=>s.heap.get? l=la { cls:=.type "tuple",dict:=dd,data:=.seq items n,slots:=sl }/\R (.ok (.ret (.ref s.heap.objs.size))) { s with heap:=s.heap.push { cls:=.type "tuple",data:=.seq #[] } }):=
 .of_wp λf w A R s h=>by
  obtain⟨q,g,d,y,z⟩:=s;obtain⟨j,h⟩:=h;have c2:(items.isEmpty||(0:Int)==1)=ua:=by rw[h0];rfl
  wp_walk using Ka j
  exact⟨_,rfl,h⟩
def OT   l items (n:Nat) dd sl t :
  rg (Ob.«tuple.__mul__» ⟨[.ref l,.int 1 t],[]⟩)
   (λA R s=>s.heap.get? l=la { cls:=.type "tuple",dict:=dd,data:=.seq items n,slots:=sl }/\R (.ok (.ret (.ref l))) s):=
 .of_wp λf w A R s h=>by
  obtain⟨q,g,d,y,z⟩:=s;obtain⟨j,h⟩:=h;have c1:(decide ((1:Int) < -2 ^ 63)||decide ((1:Int) ≥ 2 ^ 63))=ua:=by decide
  have c2:(items.isEmpty||(1:Int)==1)=ma:=by simp
  wp_walk using Ka j
  exact⟨_,rfl,h⟩

def dL  (K:Lb):R2:=λx y H Q=>∃l k f,x=.ref l/\y=.int k/\td K H l f/\f≠[]/\0<=k/\k<2 ^ 62/\f.length*k.toNat<=Za/\(k=1->Q (.ref l) H)/\(k≠1->∀p,H p=Aa->Q (.ref p) (upd H p (.tup (Kb k.toNat f).flatten)))
def tP  : Cc X (Oe .Mult) (dL X.K):=by
 intro xa s σ H x y v u Q I rx ry h;obtain⟨l,k,xs,rfl,rfl,hH,h0,h1,h2,Y,q1,q2⟩:=h;cases rx;obtain⟨t,rfl⟩:=ry;obtain⟨f,r,pl,_⟩:=I.tuple hH;have hl:=r.length;obtain⟨⟨ja,O,za,J⟩,e,hc,n,hd⟩:=id pl;simp only at hc hd;subst hc hd;have j:f≠[]:=λz=>h0 (r.nil_iff.mp z);refine lJ (T := "tuple") (U := "int") (by decide) ⟨_,e,rfl⟩ (λs'=>xp s' k t) OU F.fills_int_mul ou IU F.slot_int_index.lookup
  (Qg ou (xp s k t) F.entry_int_rmul (F.args_int_rmul_2 _ _) (NU k t l f.toArray n O J) ⟨e,rfl,⟨_,e,rfl⟩,?_⟩)
 by_cases hk:k=1
 ·subst hk;exact Qg qp ⟨_,e,rfl⟩ Py (Bz _ _) (OT l f.toArray n O J t) ⟨e,⟨.ref l,H,I,rfl,q1 rfl⟩⟩
 ·by_cases R:k=0
  ·subst R;refine Qg qp ⟨_,e,rfl⟩ Py (Bz _ _) (NT l f.toArray n O J t (by simpa using j)) ⟨e,?_⟩
   refine⟨.ref s.heap.objs.size,_,I.laid (t':=s.toks) (o:=.tup []) (λb ob q=>Fc _ q) (Db _) ?_,rfl,q2 hk _ (I.hok.fresh (Db _))⟩;exact⟨og _,[],.nil,TupD.new _ _⟩
  refine Qg qp ⟨_,e,rfl⟩ Py (Bz _ _) (QT l f.toArray n O J k t (by lia) h2 (by simpa using j) (by rw[Bd,<- hl];exact Y)) ⟨e,?_⟩
  have Z:=gx f k.toNat [];rw[ah]at Z;rw[Z];refine⟨.ref s.heap.objs.size,_,I.laid (t':=s.toks) (o:=.tup (Kb k.toNat xs).flatten) (λb ob q=>Fc _ q) (Db _) ?_,rfl,q2 hk _ (I.hok.fresh (Db _))⟩;exact⟨by rw[Tw,uu];exact Y,_,r.rep k.toNat,TupD.new _ _⟩
noncomputable def repS  (x:Str)(k:Nat):Str:=⟨(Kb k x.cps.toList).flatten.toArray⟩
def cL  : R2:=λx y H Q=>∃z k,x=.str z/\y=.int k/\0<=k/\k<1000/\z.length<=1000/\Q (.str (repS z k.toNat)) H
theorem zD  (x:Array Nat):∀k (a:List Nat),((Kb k x).foldl (·++·) a.toArray)=(a++(Kb k x.toList).flatten).toArray
 |0,a=>by simp
 |k+1,a=>by
  rw[Ji,Ny,show a.toArray++x=(a++x.toList).toArray by simp,zD x k]
  simp[Ji]
def sP  : Cc X (Oe .Mult) cL:=by
 intro j s σ H x y v u Q I Z Y h;obtain⟨z,k,rfl,rfl,h0,h1,R,q⟩:=h;obtain⟨t,rfl⟩:=Z;obtain⟨t',rfl⟩:=Y;have O:z.length*k.toNat<=1000000:=Fb (Il R (show k.toNat<=1000 by lia)) (by decide)
 refine P.mul_str (by simp;lia) (λF _=>?_) (λF _=>?_) ?_
 ·have:((2:Int) ^ 63-1)/k ≥ 1000:=by
   refine(Int.le_ediv_iff_mul_le (by lia)).mpr ?_
   lia
  lia
 ·exact decide_eq_false (by
   have:(1000000:Nat)<=Za:=by decide
   lia)
 ·split
  ·have e:repS z k.toNat=Str.empty:=by rw[show k.toNat=0 by lia];rfl
   rw[e]at q;exact⟨by decide,.str _,H,I.tok _,⟨_,rfl⟩,q⟩
  ·split
   ·rename_i F f;have e:repS z k.toNat=z:=by
     rw[Wp,beq_iff_eq,beq_iff_eq]at f;unfold repS;rcases f with f|f
     ·subst f;simp
     ·have:z.cps.toList=[]:=by
       have:z.cps.size=0:=f;simpa using this
      obtain⟨c⟩:=z;simp only at this ⊢;have J:c=#[]:=by simpa using this
      subst J;simp
    rw[e]at q;exact⟨.str _,H,I,⟨_,rfl⟩,q⟩
   ·have e:(Kb k.toNat z.cps).foldl (·++·) #[]=(Kb k.toNat z.cps.toList).flatten.toArray:=by
     have:=zD z.cps k.toNat [];simpa using this
    refine⟨?_,.str _,H,I.tok _,⟨_,rfl⟩,?_⟩
    ·rw[e];show(Kb k.toNat z.cps.toList).flatten.toArray.size<=Za;rw[Bd,Tw,uu];exact Fb O (by decide)
    ·rw[e];exact q

def YT      {s:Ia}{C:Array Da->Prop} 
  (ext:∀Z ,(∀(h':Xa) tk (acc:Array Da) (c:Nat),(∀b o,b≠s.heap.objs.size->(s.heap.push ⟨.type "list",Aa,.seq #[] 0,#[]⟩).get? b=la o->h'.get? b=la o)->h'.get? s.heap.objs.size=la ⟨.type "list",Aa,.seq acc c,#[]⟩->C acc->Z (.ok (.ret (.ref s.heap.objs.size))) { s with heap:=h',toks:=tk })->
   codeAny (Ja prog w) A (.builtin "list.__iadd__" ⟨[.ref s.heap.objs.size,v],[]⟩) Z { s with heap:=s.heap.push ⟨.type "list",Aa,.seq #[] 0,#[]⟩ })
  (h:∀(h':Xa) tk (acc:Array Da),(∀b o,s.heap.get? b=la o->h'.get? b=la o)->s.heap.objs.size<h'.objs.size->C acc->R acc.toList { s with heap:=h',toks:=tk }) :
  wpAny (Ja prog w) A (collect v) R E s:=by
 have quiet:Code.quiet (.builtin "list.__iadd__" ⟨[.ref s.heap.objs.size,v],[]⟩)=ma:=Hy NI _;have j:=λZ=>Ab (E:=λe y=>Z (.error e) y) (M:=Ja prog w) (A:=A.in1) (Q:=λz y=>match z with|.done f=>Z (.ok f) y|.again c'=>c'.quiet=ma/\codeAny (Ja prog w) A c' Z y) (m:=nq []) (f:=λl=>again (.builtin "list.__iadd__" ⟨[l,v],[]⟩)) (s:=s)
 refine Ab (wpAny_runValue (ku entry_proto_collect' ((Cu PySem.F.plain_proto_collect _).symm ▸ j _ (xh (fc ⟨quiet,ext _ λh' tk acc c keep q ok=>?_⟩)))));exact Ab (Ym q (fc (h h' tk acc (λb o e=>keep b o (re (Kc e)) (Fc _ e)) (Kc q) ok)))
def FP {prog:Tb}{w:Cb}{A:Ac}{s:Ia}{a:Ca}{v:Da}{Z:Result->Ia->Prop}(h:wpAny (Ja prog w) A.in1 (Ob.List.listExtendWith (.ref a) v (.ref a)) (λq j=>match q with|.done f=>Z (.ok f) j|.again c'=>c'.quiet=ma/\codeAny (Ja prog w) A c' Z j) (λe j=>Z (.error e) j) s) :
  codeAny (Ja prog w) A (.builtin "list.__iadd__" ⟨[.ref a,v],[]⟩) Z s:=ku entry_list_iadd' ((Cu NI _).symm ▸ h)
def XT             (K:PySem.W.KdlSrc prog w T r d n P y)(j:A.handled=Aa)(f:y s.heap)(q:n<=Za)
  (h:∀(h':Xa) tk (acc:Array Da),(∀b o,s.heap.get? b=la o->h'.get? b=la o)->s.heap.objs.size<h'.objs.size->ItemsOf P acc n->R acc.toList { s with heap:=h',toks:=tk }) :
  wpAny (Ja prog w) A (collect (.ref r)) R E s:=
 YT (λZ z=>FP (PySem.W.kdl_extend K j (K.keep _ _ f λb _ o e=>Fc _ e) _ (yy (K.there _ f).1) (yy (K.there _ f).2) _ 0 (Fe _ rfl) z q)) h
def NF        
  (h:wpAny (Ja prog w) A.in1 (collect v) (λvs s1=>wpAny (Ja prog w) A.in1 (nq vs) (λl s2=>wpAny (Ja prog w) A.in1 (call (.builtin "list.sort") [l]) (λ_ f=>Q l f) E s2) E s1) E s) :
  wpAny (Ja prog w) A (call (.builtin "sorted") [v]) Q E s:=by
 have one:∀Z:Unit->Ia->Prop,Z () s->wpAny (Ja prog w) A.in1 (checkCount "sorted" 1 1 [v].length) Z E s:=λZ z=>fc z;refine Calls.call_function_entry kind_sorted plain_sorted entry_sorted (args_sorted1 v) (Ab (one _ (Ab (Pb h λvs s1 y=>Ab (Pb y λl s2 j=>?_)))));exact Ab (Gj (Pb j λ_ f q=>fc ⟨_,rfl,q⟩))
theorem Sx  : ∀{us } {ns },Nb us ns->Vals (ns.map V.int) us
 |_,_,.nil=>.nil
 |_,_,.cons n t r=>.cons ⟨t,rfl⟩ (Sx r)
theorem Qw  : ∀{kvs:List (Ub×V)} {vs },KV kvs vs->vs.map (·.1)=kvs.map (·.1)
 |_,_,.nil=>rfl
 |_,_,.cons a r=>by
  rw[Le,Le,Qw r,a.1]
theorem Ow    : ∀{ns:List Int} {acc } {vs:List (Ub×Da)},vs.map (·.1)=ns.map (λz=>(.inl z:Ub))->acc.length=ns.length->(∀(j:Nat) v ,acc[j]?=la v->∃k x,vs[j]?=la (k,x)/\(Yd P w).is k v=ma)->Nb acc ns
 |[],[],_,_,_,_=>.nil
 |z::ns,v::acc,(k,x)::vs,e,hl,h=>by
  obtain⟨O,I,R,q⟩:=h 0 v rfl;have f:(k,x)=(O,I):=Zc R;injection f with f e2
  subst f;rw[Le,Le]at e;injection e with F er
  have F:k=.inl z:=F;subst F;obtain⟨t,rfl⟩:∃t,v=.int z t:=by
   have q:Qk (.inl z) v=ma:=q;rcases Eh q with⟨i,t,e,rfl⟩|⟨y,t,e,_⟩
   ·simp_all
   lia
  exact .cons z t (Ow er (by simp_all) λj v J=>h (j+1) v J)
 |z::ns,v::acc,[],e,_,_=>by cases e
 |z::ns,[],_,_,hl,_=>by cases hl
 |[],v::acc,_,_,hl,_=>by cases hl
end L2

namespace L2
open PySem PySem.Spec PyProof.Rows
open Sem (wp)
open AutoSeq1 (wpAny_loadPart')

def VD      (hh:A.handled=Aa)(hit:s.heap.IsTupleIter it t i)(ht:s.heap.IsTuple t items)
  (q:∀x h',items[i]?=la x->h'.IsTupleIter it t (i+1)->Em it s.heap h'->Q x { s with heap:=h' })
  (j:items[i]?=Aa->∀h' e,Xa.ExtBut it s.heap h'->(∃o,h'.get? e=la o/\o.cls=.type "StopIteration")->E (.ref e) { s with heap:=h' }) :
  wpAny (Ja prog w) A (XU (.ref it)) Q E s:=by
 have J:=hit.typeIs;rcases hit with⟨⟨c,dc,dt,sl⟩,y,Y,O⟩;rcases ht with⟨⟨c',xa,za,ja⟩,hl,-,n,Z⟩;dsimp only at Y O Z;subst Y O Z;have I:∀f:Array Da->Array Da,Em it s.heap (s.heap.update it (Oi f)):=λf=>Em.update ..;have z:∀f:Array Da->Array Da,(s.heap.update it (Oi f)).get? it=la ⟨.type "tuple_iterator",dc,.fields (f #[.ref t,.int i 0]),sl⟩:=λf=>Yz _ y rfl;refine Ab (Eu (name:=Li "__next__") J WI (Bm WI J F.entry_tuple_iterator_next ?_ (F.args_tuple_iterator_next_1 _)))
 wp_walk using VI y,VI hl
 rw[Hl];cases R:items[i]? with
 |some x=>exact Ab (Np y rfl (Nat.lt_succ_self 1) (fc ⟨x,rfl,fc (q x _ R ⟨_,z _,rfl,rfl⟩ (I _))⟩))
 |none=>
  refine Ab (Xm (Ab (Np y rfl (Nat.zero_lt_succ 1) ?_)));unfold YU
  wp_walk
  exact wpAny_raiseNew_none hh (j R _ _ (((I _).extBut.push _).push _) ⟨_,Fe _ rfl,rfl⟩)
def MD     (I:A.handled=Aa) it t (F:t≠it)(items:Array Da) :
  Draws prog w A it [it,t] items.size (λi v=>items[i]?=la v) (λi h=>h.IsTupleIter it t i/\h.IsTuple t items):=by
 refine⟨λi h f=>?_,λi h j f hk=>?_,λi s Q E Y f O=>?_,λs Q E f R=>?_⟩
 ·rcases f.1 with⟨o,y,-⟩;exact⟨o,y⟩
 ·rcases f with⟨⟨o,y,r⟩,⟨u,hu,q⟩⟩;exact⟨⟨o,hk it (by simp) o y,r⟩,⟨u,hk t (by simp) u hu,q⟩⟩
 ·refine VD I f.1 f.2 (λx j e hit J=>O x j s.toks e ⟨hit,f.2.extBut J.extBut F⟩ J) λz=>?_;exact absurd (Array.getElem?_eq_none_iff.mp z) (by lia)
 ·refine VD I f.1 f.2 (λx j e=>?_) λ_=>R;exact absurd (Yb.mp e).1 (Hh _)
def ES    {x:α}(h:∀y,Q y s):wpAny M A (pure x) Q E s:=fc (h x)
def JG   v ob :
  rg (Ob.«enumerate.__new__» ⟨[.type "enumerate",v],[]⟩) (λ_ R s=>(∀prog w A Q E ,Q (.ref s.heap.objs.size) { s with heap:=s.heap.push ob }->wpAny (Ja prog w) A (pyIter v) Q E s)/\
   R (.ok (.ret (.ref (s.heap.push ob).objs.size))) { s with heap:=(s.heap.push ob).push ⟨.type "enumerate",Aa,.fields #[.none,.bool ua,.ref s.heap.objs.size,Rc 0,.none,.none],#[]⟩ }):=
 .of_wp λprog w A R s h=>by
  rcases s with⟨q,g,d,y,z⟩;rcases h with⟨j,h⟩;have f:=sub_enumerate
  wp_walk
  refine wpAny_stack_any λF=>ES λb=>?_;cases b<;>(wp_walk using j prog w;exact⟨_,rfl,h⟩)
def uU  {s: Ia}(hL:s.heap.IsTuple l items)
  (h:∀h',IsEnum h' (s.heap.objs.size+1) s.heap.objs.size 0 .none->h'.IsTupleIter s.heap.objs.size l 0->(∀b o,s.heap.get? b=la o->h'.get? b=la o)->Q (.ref (s.heap.objs.size+1)) { s with heap:=h' }) :
  wpAny (Ja prog w) A (call (.type "enumerate") [.ref l]) Q E s:=by
 have j:∀(p:Xa) (n:Nat) (o:Obj),p.objs.size=n->o.isFreed=ua->(p.push o).get? n=la o:=λp n o e f=>by
  subst e;exact Fe p f
 have sz:=λo=>Tp s.heap o;refine callType_new F.called_enumerate (by decide) (WH _) (zI _) (λy=>FI y _) yI (JG (.ref l) _) ⟨λ_ _ _ _ _ q=>wz hL q,?_⟩
 rw[sz];have z:=j _ _ ⟨.type "enumerate",Aa,.fields #[.none,.bool ua,.ref s.heap.objs.size,Rc 0,.none,.none],#[]⟩ (sz ⟨.type "tuple_iterator",Aa,.fields #[.ref l,.int 0 0],#[]⟩) rfl;exact⟨⟨_,z,rfl⟩,h _ z ⟨_,Fc _ (j _ _ _ rfl rfl),rfl,rfl⟩ λb o x=>Fc _ (Fc _ x)⟩

def EC  {J: St}(I:Oa X pins J H s)(k:∀b o,b≠e->b≠it->s.heap.get? b=la o->h'.get? b=la o)(Z:FpOk X pins H e)(fi:FpOk X pins H it):Oa X pins J H { s with heap:=h',toks:=t' }:=by
 obtain⟨e0,O,_,e3,e4,e5⟩:=Z;obtain⟨i0,F,_,i3,i4,i5⟩:=fi;have j:∀b u,H b=la u->b≠e:=λb u q z=>by rw[z,e0]at q;cases q
 have Y:∀b u,H b=la u->b≠it:=λb u q z=>by rw[z,i0]at q;cases q
 have kk:∀b o,b∉[e,it]->s.heap.get? b=la o->h'.get? b=la o:=λb o f q=>k b o (λz=>f (by simp[z])) (λz=>f (by simp[z])) q
 refine I.step (g':=s.gens) (d':=s.drawn) (ch:=[e,it]) (λb R=>?_) (λb o _ _ f q _=>kk b o f q) (λb o _ _ f q _=>⟨o.slots,kk b o f q⟩) (λ_ _ _ _ n=>n)
  (λb o f q=>⟨o,kk b o f q⟩) (λ_ _ q=>q) (λ_ _ _ q=>q) (λb ps q=>⟨#[],by rw[q];simp⟩) (λm hm=>?_) (λb u q=>?_) I.bare
 ·simp only[Ic,Je,or_false]at R;rcases R with rfl|rfl
  ·exact⟨e3,O,e4,e5⟩
  ·exact⟨i3,F,i4,i5⟩
 ·obtain⟨o,es,ep,ho,r⟩:=hm;exact⟨o,es,ep,k _ o (Qa O) (Qa F) ho,r⟩
 ·refine(I.hok b u q).stay (λc v f y=>k c v ?_ ?_ y) (λ_ y=>y) λ_ _ y=>y
  ·rcases f with z|z
   ·rw[z];exact j b u q
   ·exact j c _ z
  ·rcases f with z|z
   ·rw[z];exact Y b u q
   ·exact Y c _ z
def JJ  (q:Lb)(a:Ca):It:=
 ⟨λi H=>∃f x,H a=la (.tup f)/\f[i]?=la x,λi H y j=>∃f x p,H a=la (.tup f)/\f[i]?=la x/\y=.ref p/\H p=Aa/\j=upd H p (.tup [.int (i:Int),x]),λi H=>∃f,H a=la (.tup f)/\f.length=i⟩
def MS    {K:Lb} a e it (xa:e≠it)(ha:a≠e)(ja:a≠it) :
  Turn P w K (.Tuple jb x1 pos) (JJ K a) [e,it] e (λi h=>(∃q,IsEnum h e it (i:Int) q)/\h.IsTupleIter it a i) where
 mem:=by simp
 obj:=λi h Y b J=>by
  obtain⟨⟨q,R⟩,o,ho,c,d⟩:=Y;simp only[Ic,Je,or_false]at J;rcases J with rfl|rfl
  ·exact⟨_,R,λv z=>nomatch z⟩
  ·exact⟨o,ho,λv z=>by rw[d]at z;cases z⟩
 keep:=λi h h' Y k=>by
  obtain⟨⟨q,R⟩,o,ho,r⟩:=Y;exact⟨⟨q,k e (by simp) _ R⟩,o,k it (by simp) _ ho,r⟩
 item:=by
  intro X hP hw hK hc i j s σ H E I hf Y hg;subst hP hw hK;obtain⟨xs,x,hq,hx⟩:=hg;obtain⟨F,rv,p,hz⟩:=I.tuple (td.of hq);obtain⟨u,hu,ru⟩:=rv.get hx;obtain⟨⟨q,R⟩,hit⟩:=Y;have zb:i<F.toArray.size:=by
   have:=(Ba.mp hu).1;simpa using this
  refine UH (MD (A:=X.A.in1) (I.ok.hd hc) it a ja F.toArray) R ⟨hit,p⟩ zb xa (by simp;exact⟨xa,Qa ha⟩) λx' h' O hP ho ka hT vb hk=>?_
  refine⟨_,rfl,oJ ho λh2 wa va=>?_⟩;have ex:x'=u:=by
   have:F.toArray[i]?=la u:=by simpa using hu
   exact Zc (hP.symm.trans this)
  subst ex;have xb:H s.heap.objs.size=Aa:=I.hok.fresh (Db _);have ya:e≠s.heap.objs.size:=re (Kc R);have za:it≠s.heap.objs.size:=by obtain⟨o,Z,_⟩:=hit;exact re (Kc Z)
  have I1:Oa X j σ (upd H s.heap.objs.size (.tup [.int (i:Int),x])) { s with heap:=s.heap.push { cls:=.type "tuple",data:=.seq #[.int i O,x'] },toks:=O+1 }:=by
   refine I.laid (λb o y=>Fc _ y) (Db _) ⟨by show 2<=Za;decide,[.int i O,x'],.cons ⟨O,rfl⟩ (.cons ru .nil),TupD.new _ _⟩
  have fpU:∀b,b≠s.heap.objs.size->FpOk X j H b->FpOk X j (upd H s.heap.objs.size (.tup [.int (i:Int),x])) b:=λb J f=>⟨by rw[Pc J];exact f.1,f.2⟩
  have kk:∀b o,b≠e->b≠it->(s.heap.push { cls:=.type "tuple",data:=.seq #[.int i O,x'] }).get? b=la o->h2.get? b=la o:=λb o be bi y=>by
   have step:h'.get? b=la o:=by
    by_cases J:b=s.heap.objs.size
    ·subst J;rw[hT];exact(Fe s.heap (o:={ cls:=.type "tuple",data:=.seq #[.int i O,x'] }) rfl).symm.trans y
    ·rw[Jz _ _ _ J]at y;exact hk b o be bi y
   exact(va.2 b be).trans step
  have I2:Oa X j σ (upd H s.heap.objs.size (.tup [.int (i:Int),x])) { s with heap:=h2,toks:=O+1 }:=
   EC (s:={ s with heap:=s.heap.push { cls:=.type "tuple",data:=.seq #[.int i O,x'] },toks:=O+1 }) (h':=h2) (t':=O+1) (e:=e) (it:=it) I1 kk (fpU e ya (hf e (by simp))) (fpU it za (hf it (by simp)))
  refine⟨.ref s.heap.objs.size,_,I2,rfl,⟨xs,x,_,hq,hx,rfl,xb,rfl⟩,⟨⟨_,by simpa using wa⟩,?_⟩,λb J=>?_⟩
  ·obtain⟨o,Z,r⟩:=ka.1;exact⟨o,(va.2 it (Qa xa)).trans Z,r⟩
  ·simp only[Ic,Je,or_false]at J;rcases J with rfl|rfl
   ·rw[Pc ya];exact(hf _ (by simp)).1
   ·rw[Pc za];exact(hf _ (by simp)).1
 done:=by
  intro X hP hw hK hc i j s σ H E I hf Y hg;subst hP hw hK;obtain⟨xs,hq,hx⟩:=hg;obtain⟨F,rv,p,hz⟩:=I.tuple (td.of hq);obtain⟨⟨q,R⟩,hit⟩:=Y;have hl:F.toArray.size=i:=by rw[Bd,<- rv.length];exact hx
  refine wI (MD (A:=X.A.in1) (I.ok.hd hc) it a ja F.toArray) R ⟨by rw[hl];exact hit,p⟩ λh' eb=>⟨rfl,?_⟩
  obtain⟨f0,f1,f2,f3,f4,f5⟩:=hf it (by simp)
  exact I.turned (t':=s.toks) (λb o J y=>eb b o J y) f0 f1 f3 f4 f5
 self:=λA i s Q E Y h=>by
  obtain⟨⟨q,R⟩,_⟩:=Y;exact Pu R h

end L2

namespace L2
open PySem PySem.Spec PyProof.Rows

def pU  : Ye X (.builtin "isinstance") (λxs H Q=>∃(x:V) (c:String) (t:Da) (b:Bool),xs=[x,.ty c]/\TyOf X.K H x t/\Ou X.K t (.type c)=la b/\Q (.bl b) H):=by
 intro f s J H xs O Q I r h;obtain⟨x,c,t,b,rfl,y,e,q⟩:=h;obtain⟨u,v,rfl,z,F⟩:=Vals.two r;cases F;exact vT I z y e λj=>⟨.bl b,H,I.tok j,rfl,q⟩



def KeyI  (H:Hp)(v:V)(k:List Int):Prop:=∃n,v=.int n/\k=[n]
def KeyT  (K:Lb)(H:Hp)(v:V)(k:List Int):Prop:=∃t,v=.ref t/\td K H t (k.map V.int)

def Dt    (r:Vals vs us){i:Nat}(h:us[i]?=la u):∃v,vs[i]?=la v/\RelV v u:=by
 induction r generalizing i with
 |nil=>cases h
 |cons a r f=>
  cases i with
  |zero=>exact⟨_,rfl,by cases h;exact a⟩
  |succ i=>exact f h
def SC    (r:Vals (ns.map V.int) us):Nb us ns:=by
 induction ns generalizing us with
 |nil=>cases r;exact .nil
 |cons n ns f=>
  cases r with
  |cons a r=>
   obtain⟨t,rfl⟩:=a;exact .cons n t (f r)
end L2

namespace L2
open PySem PySem.Spec PyProof.Rows PySem.W
section
variable {n:Nat}{lt:Nat->Nat->Bool}{cmp:Nat->Nat->(Bool->Ia->Prop)->Ia->Prop}{s:Ia}
structure Asks (n:Nat)(lt:Nat->Nat->Bool)(cmp:Nat->Nat->(Bool->Ia->Prop)->Ia->Prop)(s:Ia):Prop where
 ask:∀i j C,i<n->j<n->C (lt i j) s->cmp i j C s
 tr:∀i j k,i<n->j<n->k<n->lt i j=ma->lt j k=ma->lt i k=ma
 tot:∀i j,i<n->j<n->i≠j->lt i j=ma\/lt j i=ma
 ir:∀i,i<n->lt i i=ua
noncomputable def gD  (p:Array Nat)(k:Nat):Nat:=p.getD k 0
structure ug (n:Nat)(p:Array Nat):Prop where
 z:p.size=n
 b:∀i,i<n->gD p i<n
 inj:∀i j,i<n->j<n->gD p i=gD p j->i=j
 pm:p.toList.Perm (Qc n)
def Ig  (lt:Nat->Nat->Bool)(p:Array Nat)(m:Nat):Prop:=∀i,i+1<m->lt (gD p i) (gD p (i+1))=ma
def Asks.no  (a:Asks n lt cmp s)(r:ug n p)(hi:i<n)(y:j<n)(q:i≠j)(h:lt (gD p i) (gD p j)=ua):lt (gD p j) (gD p i)=ma:=by
 rcases a.tot _ _ (r.b i hi) (r.b j y) (λz=>q (r.inj i j hi y z))with z|z
 ·lia
 lia
theorem Ig.less  (a:Asks n lt cmp s)(r:ug n p)(j:m<=n)(h:Ig lt p m):∀d i,i+d+1<m->lt (gD p i) (gD p (i+d+1))=ma
 |0,i,hi=>h i hi
 |d+1,i,hi=>a.tr _ _ _ (r.b _ (by lia)) (r.b _ (by lia)) (r.b _ (by lia)) (Ig.less a r j h d i (by lia)) (h (i+d+1) hi)
theorem jw  (a:Asks n lt cmp s)(r:ug n p)(y:m<=n):∀f k ,1<=k->k+f=m->Ig lt p k->(∀k',k<=k'->k'<=m->Ig lt p k'->(k'<m->lt (gD p k') (gD p (k'-1))=ma)->Q k' s)->(kas_asc p f k).kasWp cmp Q s
 |0,k,_,e,h,q=>q k (Db _) (by lia) h λz=>by lia
 |f+1,k,h1,e,h,q=>by
  refine a.ask _ _ _ (r.b k (by lia)) (r.b (k-1) (by lia)) ?_
  show(if lt (gD p k) (gD p (k-1))=ma then Wt k else kas_asc p f (k+1)).kasWp cmp Q s
  by_cases c:lt (gD p k) (gD p (k-1))=ma
  ·rw[if_pos c];exact q k (Db _) (by lia) h λ_=>c
  ·rw[if_neg c];have c:lt (gD p (k-1)) (gD p k)=ma:=a.no r (by lia) (by lia) (by lia) (by lia)
   refine jw a r y f (k+1) (by lia) (by lia) (λi J=>?_) λk' O I j F=>q k' (by lia) I j F
   by_cases z:i+1=k
   ·have:i=k-1:=by lia
    rw[z,this];exact c
   ·exact h i (by lia)
theorem gC  (a:Asks n lt cmp s)(r:ug n p)(y:m<=n):∀f k ,1<=k->k+f=m->(∀i,i+1<k->lt (gD p (i+1)) (gD p i)=ma)->(∀k',k<=k'->k'<=m->(∀i,i+1<k'->lt (gD p (i+1)) (gD p i)=ma)->Q (p,k',0) s)->(Rj f p k 0).kasWp cmp Q s
 |0,k,_,e,h,q=>q k (Db _) (by lia) h
 |f+1,k,h1,e,h,q=>by
  refine a.ask _ _ _ (r.b k (by lia)) (r.b (k-1) (by lia)) ?_
  show(if lt (gD p k) (gD p (k-1))=ma then (if 0>0 then Rj f (kas_rev p (k-(0+1)) k) (k+1) 0 else Rj f p (k+1) 0)
   else KasT.ask (gD p (k-1)) (gD p k) λd=>if d=ma then Wt (p,k,0) else Rj f p (k+1) (0+1)).kasWp cmp Q s
  by_cases c:lt (gD p k) (gD p (k-1))=ma
  ·rw[if_pos c,if_neg (by decide)]
   refine gC a r y f (k+1) (by lia) (by lia) (λi I=>?_) λk' J F j=>q k' (by lia) F j
   by_cases z:i+1=k
   ·have:i=k-1:=by lia
    rw[z,this];exact c
   ·exact h i (by lia)
  ·rw[if_neg c];have c:lt (gD p (k-1)) (gD p k)=ma:=a.no r (by lia) (by lia) (by lia) (by lia)
   refine a.ask _ _ _ (r.b (k-1) (by lia)) (r.b k (by lia)) ?_
   dsimp only;rw[if_pos c];exact q k (Db _) (by lia) h
def Co    (h:p[i]?=q[j]?):gD p i=gD q j:=by
 unfold gD
 simp_all
def xw    (f:m<=p.size) k:gD (kas_rev p 0 m) k=if k<m then gD p (m-1-k) else gD p k:=by
 have:=getElem?_mirror_all (xs:=p) (i:=0) f k;split
 ·rename_i h;refine Co ?_;show(mirror p 0 m ((m-0)/2))[k]?=_
  lia
 ·rename_i h;refine Co ?_;show(mirror p 0 m ((m-0)/2))[k]?=_
  lia
def ug.rev   (r:ug n p)(F:m<=n):ug n (kas_rev p 0 m):=by
 have g:=λk=>xw (p:=p) (m:=m) (by rw[r.z];exact F) k
 refine⟨by rw[kas_rev_size,r.z],λi q=>?_,λi j q y e=>?_,(Array.perm_iff_toList_perm.mp (mirror_perm p 0 m ((m-0)/2))).trans r.pm⟩
 ·rw[g];split
  ·exact r.b _ (by lia)
  ·exact r.b _ q
 ·rw[g,g]at e;split at e<;>split at e
  ·have:=r.inj _ _ (by lia) (by lia) e;lia
  ·have:=r.inj _ _ (by lia) (by lia) e;lia
  ·have:=r.inj _ _ (by lia) (by lia) e;lia
  ·exact r.inj _ _ q y e
def KR  (a:Asks n lt cmp s)(r:ug n p)(h2:2<=n)(q:∀k I,1<=k->k<=n->ug n I->Ig lt I k->Q (k,I) s):(kas_count n p).kasWp cmp Q s:=by
 unfold kas_count;rw[Xp];refine jw a r (m:=n) (Db _) (n-1) 1 (Db _) (by lia) (λi y=>by lia) λk J F j h5=>?_
 by_cases e:k=n
 ·rw[if_pos (by lia)]
  exact q k p J F r j
 ·rw[if_neg (by lia)]
  by_cases hk:k>1
  ·rw[if_pos hk];refine a.ask _ _ _ (r.b 0 (by lia)) (r.b (k-1) (by lia)) ?_
   have c:lt (p.getD 0 0) (p.getD (k-1) 0)=ma:=by
    have:=Ig.less a r F j (k-2) 0 (by lia)
    rw[show 0+(k-2)+1=k-1 by lia]at this
    exact this
   dsimp only;rw[if_pos c];exact q k p J F r j
  ·rw[if_neg hk];have k1:k=1:=by lia
   subst k1;unfold kas_descPart;rw[Xp];refine gC a r (m:=n) (Db _) (n-(1+1)) (1+1) (by lia) (by lia) (λi y=>?_) λf h6 z O=>?_
   ·grind
   ·rw[if_neg (by lia)]
    show(kas_tail3 f n p).kasWp cmp Q s;unfold kas_tail3;rw[Xp];have rr:=r.rev z;refine jw a rr (m:=n) (Db _) (n-f) f (by lia) (by lia) (λi y=>?_) λZ h9 Y R hc=>?_
    ·rw[xw (by rw[r.z];exact z),xw (by rw[r.z];exact z),if_pos (by lia),if_pos y]
     have:=O (f-1-(i+1)) (by lia)
     rw[show f-1-(i+1)+1=f-1-i by lia]at this
     exact this
    ·exact q Z _ (by lia) Y rr R
theorem ax  (a:Asks n lt cmp s)(r:ug n p)(hk:k<n)(hs:Ig lt p k):∀f l u ,l<=u->u<=k->u-l<=f->(∀i,i<l->lt (gD p i) (gD p k)=ma)->(∀i,u<=i->i<k->lt (gD p k) (gD p i)=ma)->
  (∀j,j<=k->(∀i,i<j->lt (gD p i) (gD p k)=ma)->(∀i,j<=i->i<k->lt (gD p k) (gD p i)=ma)->Q j s)->(Tt p k f l u).kasWp cmp Q s
 |0,l,u,h1,h2,h3,h4,h5,q=>q l (by lia) h4 λi y=>h5 i (by lia)
 |f+1,l,u,h1,h2,h3,h4,h5,q=>by
  show(if l ≥ u then Wt l else KasT.ask (gD p k) (gD p ((l+u)/2)) λc=>if c=ma then Tt p k f l ((l+u)/2) else Tt p k f ((l+u)/2+1) u).kasWp cmp Q s
  by_cases e:l ≥ u
  ·rw[if_pos e];exact q l (by lia) h4 λi y=>h5 i (by lia)
  ·rw[if_neg e];obtain⟨m,I⟩:∃m,m=(l+u)/2:=⟨_,rfl⟩;rw[<- I];have J:l<=m:=by lia
   have R:m<u:=by lia
   refine a.ask _ _ _ (r.b k hk) (r.b m (by lia)) ?_
   dsimp only;by_cases c:lt (gD p k) (gD p m)=ma
   ·rw[if_pos c];refine ax a r hk hs f l m J (by lia) (by lia) h4 (λi O F=>?_) q
    by_cases z:i=m
    ·lia
    ·have:=Ig.less a r (Ki hk) hs (i-m-1) m (by lia)
     rw[show m+(i-m-1)+1=i by lia]at this
     exact a.tr _ _ _ (r.b _ hk) (r.b _ (by lia)) (r.b _ (by lia)) c this
   ·rw[if_neg c];have c:lt (gD p m) (gD p k)=ma:=a.no r hk (by lia) (by lia) (by lia)
    refine ax a r hk hs f (m+1) u (by lia) h2 (by lia) (λi y=>?_) h5 q
    by_cases z:i=m
    ·lia
    ·have:=Ig.less a r (Ki hk) hs (m-i-1) i (by lia)
     rw[show i+(m-i-1)+1=m by lia]at this
     exact a.tr _ _ _ (r.b _ (by lia)) (r.b _ (by lia)) (r.b _ hk) this c
def oO    (hk:k<p.size)(j:l<=k) i:gD (bubble p k (k-l)) i=if i=l then gD p k else if l<i/\i<=k then gD p (i-1) else gD p i:=by
 have:=getElem?_bubble (xs:=p) hk (k-l) (by lia) i
 rw[show k-(k-l)=l by lia]at this
 split
 ·rename_i h;refine Co ?_;lia
 ·rename_i h;rw[if_neg h]at this;split
  ·rename_i f;refine Co ?_;lia
  ·rename_i f;refine Co ?_;lia
theorem kB  (a:Asks n lt cmp s)(q:∀p,ug n p->Ig lt p n->Q p s):∀f p k ,ug n p->k+f=n->Ig lt p k->(kas_bin f p k).kasWp cmp Q s
 |0,p,k,r,e,h=>by
  have:k=n:=by lia
  subst this;exact q p r h
 |f+1,p,k,r,e,h=>by
  show((Tt p k k 0 k).bind λl=>kas_bin f (bubble p k (k-l)) (k+1)).kasWp cmp Q s;rw[Xp];refine ax a r (by lia) h k 0 k (og _) (Db _) (by lia) (λi F=>by lia) (λi h1 h2=>by lia) λl hl h1 h2=>?_
  have g:=λi=>oO (p:=p) (k:=k) (l:=l) (by rw[r.z];lia) hl i
  refine kB a q f _ (k+1) ⟨by rw[bubble_size,r.z],λi F=>?_,λi j F hj Y=>?_,(Array.perm_iff_toList_perm.mp (bubble_perm p k (k-l))).trans r.pm⟩ (by lia) λi F=>?_
  ·rw[g];split
   ·exact r.b _ (by lia)
   ·split
    ·exact r.b _ (by lia)
    ·exact r.b _ F
  ·have R:∀i,gD (bubble p k (k-l)) i=gD p (if i=l then k else if l<i/\i<=k then i-1 else i):=λi=>by
    rw[g];split
    ·rfl
    ·split<;>rfl
   rw[R,R]at Y;have bd:∀i,i<n->(if i=l then k else if l<i/\i<=k then i-1 else i)<n:=λi F=>by
    split
    ·lia
    ·split<;>lia
   have y:=r.inj _ _ (bd i F) (bd j hj) Y;by_cases Z:i=l
   ·rw[if_pos Z]at y;by_cases J:j=l
    ·lia
    ·rw[if_neg J]at y;by_cases z:l<j/\j<=k
     ·rw[if_pos z]at y;lia
     ·rw[if_neg z]at y;lia
   ·rw[if_neg Z]at y;by_cases J:j=l
    ·rw[if_pos J]at y;by_cases I:l<i/\i<=k
     ·rw[if_pos I]at y;lia
     ·rw[if_neg I]at y;lia
    ·rw[if_neg J]at y;by_cases I:l<i/\i<=k
     ·rw[if_pos I]at y;by_cases z:l<j/\j<=k
      ·rw[if_pos z]at y;lia
      ·rw[if_neg z]at y;lia
     ·rw[if_neg I]at y;by_cases z:l<j/\j<=k
      ·rw[if_pos z]at y;lia
      ·rw[if_neg z]at y;lia
  ·rw[g,g];by_cases c1:i+1<l
   ·rw[if_neg (by lia),if_neg (by lia),if_neg (by lia),if_neg (by lia)]
    exact h i (by lia)
   ·by_cases c2:i+1=l
    ·rw[if_neg (by lia),if_neg (by lia),if_pos c2]
     exact h1 i (by lia)
    ·by_cases O:i=l
     ·rw[if_pos O,if_neg (by lia),if_pos (by lia)]
      rw[show i+1-1=l by lia]
      exact h2 l (Db _) (by lia)
     ·rw[if_neg O,if_pos (by lia),if_neg (by lia),if_pos (by lia)]
      have:=h (i-1) (by lia)
      rw[show i-1+1=i+1-1 by lia]at this
      exact this
def JQ  (a:Asks n lt cmp s)(I:2<=n)(q:∀p,ug n p->Ig lt p n->Q p s):(kas_sort n).kasWp cmp Q s:=by
 unfold kas_sort;rw[Xp];have F:ug n (Mp (Qc n)):=by
  have g:∀i,i<n->gD (Mp (Qc n)) i=i:=λi z=>by unfold gD;simp_all
  exact⟨by simp,λi z=>by simp_all,λi j z O e=>by simp_all,by simp⟩
 refine KR a F I λk f J R r y=>?_;show(if k<n then kas_bin (n-max k 1) f (max k 1) else Wt f).kasWp cmp Q s
 by_cases c:k<n
 ·rw[if_pos c,Nat.max_eq_left J];exact kB a q (n-k) f k r (by lia) y
 ·rw[if_neg c];have:k=n:=by lia
  subst this;exact q f r y
end
end L2

namespace L2
open PySem PySem.Spec PyProof.Rows PySem.W
open PySem.AutoSeq1 (wpAny_loadPart')
open PySem.MeetsSeq PySem.MeetsSeq2 PySem.MeetsSeq3
def TC    (r:Nb us ns){i:Nat}(h:us[i]?=la u):∃z t,ns[i]?=la z/\u=.int z t:=by
 induction r generalizing i with
 |nil=>cases h
 |cons z t r f=>
  cases i with
  |zero=>cases h;exact⟨z,t,rfl,rfl⟩
  |succ i=>exact f h
def OR  {ns f:List Int}(I:ns[i]?=la a)(z:f[i]?=la c):HT.lexLt (ns.drop i) (f.drop i)=if a=c then HT.lexLt (ns.drop (i+1)) (f.drop (i+1)) else decide (a<c):=by
 obtain⟨j,y⟩:=Ba.mp I;obtain⟨q,F⟩:=Ba.mp z;rw[Kl j,Kl q,HT.lexLt_cons,y,F]
def WP  {ns f:List Int}(h:i=ns.length\/i=f.length)(z:i<=ns.length)(q:i<=f.length):HT.lexLt (ns.drop i) (f.drop i)=decide (ns.length<f.length):=by
 by_cases j:i=ns.length
 ·rw[fq (l:=ns) (by lia)]
  by_cases y:i=f.length
  ·rw[fq (by lia),HT.lexLt_nil_nil];exact(decide_eq_false (by lia)).symm
  ·rw[Kl (l:=f) (by lia),HT.lexLt_nil_cons];exact(decide_eq_true (by lia)).symm
 ·rw[Kl (l:=ns) (by lia),fq (l:=f) (by lia),HT.lexLt_cons_nil];exact(decide_eq_false (by lia)).symm
def bQ   l b (xs j : Array Da)(n m : Nat) dd de sl sm (ns I : List Int)(hi : Nb xs.toList ns)(hj : Nb j.toList I) k :
    ∀ i , ns.length - i = k -> i <= ns.length -> i <= I.length -> rg (Ob.«list.__eq__.loop» ⟨[.ref l, .ref b, Rc i, Rc 0], []⟩)
      (λ_ R s => s.heap.get? l = la { cls := .type "list", dict := dd, data := .seq xs n, slots := sl } /\ s.heap.get? b = la { cls := .type "list", dict := de, data := .seq j m, slots := sm } /\ R (.ok (.ret (.bool (HT.lexLt (ns.drop i) (I.drop i))))) s) := by
  have z1 : xs.size = ns.length := by rw [<- hi.length]; simp
  have z2 : j.size = I.length := by rw [<- hj.length]; simp
  have z : ∀ i : Nat, i <= ns.length -> i <= I.length -> (i = ns.length \/ i = I.length) -> rg (Ob.«list.__eq__.loop» ⟨[.ref l, .ref b, Rc i, Rc 0], []⟩)
      (λ_ R s => s.heap.get? l = la { cls := .type "list", dict := dd, data := .seq xs n, slots := sl } /\ s.heap.get? b = la { cls := .type "list", dict := de, data := .seq j m, slots := sm } /\ R (.ok (.ret (.bool (HT.lexLt (ns.drop i) (I.drop i))))) s) := by
    intro i J O h3 f w A R s h
    obtain ⟨hp, g, d, Y, Z⟩ := s; obtain ⟨gl, y, h⟩ := h
    rw [WP h3 J O, <- z1, <- z2] at h
    wp_walk using Ka gl, Ka y
    rcases h3 with e | e
    · have q1 : xs[((i : Nat) : Int).toNat]? = Aa := by simp; lia
      rw [q1]
      wp_walk using Ka gl, Ka y
      exact h
    · have q2 : j[((i : Nat) : Int).toNat]? = Aa := by simp; lia
      rw [q2]
      cases q1 : xs[((i : Nat) : Int).toNat]? with
      | none => wp_walk using Ka gl, Ka y
                exact h
      | some v => wp_walk using Ka gl, Ka y
                  exact h
  induction k with
  | zero => exact λi hk J O => z i J O (.inl (by lia))
  | succ k ih =>
    intro i hk J O
    by_cases e : i = I.length
    · exact z i J O (.inr e)
    · intro f w A R s h
      obtain ⟨hp, g, d, Y, Z⟩ := s; obtain ⟨gl, y, h⟩ := h
      wp_walk using Ka gl, Ka y
      have l1 : i < xs.size := by lia
      have l2 : i < j.size := by lia
      have q1 : xs[((i : Nat) : Int).toNat]? = la xs[i] := by simp [l1]
      have q2 : j[((i : Nat) : Int).toNat]? = la j[i] := by simp [l2]
      have hc : ((i : Int) + 1) = ((i + 1 : Nat) : Int) := by push_cast; rfl
      obtain ⟨a, t, ea, va⟩ := TC hi (i := i) (u := xs[i]) (by simp [l1])
      obtain ⟨c, u, ec, vc⟩ := TC hj (i := i) (u := j[i]) (by simp [l2])
      rw [OR ea ec] at h
      rw [q1, q2, va, vc]
      obtain ⟨e, he, F⟩ := HT.eqAt_int A.in1 ⟨hp, g, d, Y, Z⟩ a t c u
      refine Ab (he f w _ _ ?_)
      cases e with
      | true =>
        rw [if_pos (F.mp rfl)] at h
        wp_walk
        rw [hc]
        exact ⟨Hy plain_eq_loop _, ku entry_eq_loop (by rw [Cu plain_eq_loop _]; exact ih (i + 1) (by lia) (by lia) (by lia) f w A R _ ⟨gl, y, h⟩)⟩
      | false =>
        rw [if_neg (λq => absurd (F.mpr q) Md)] at h
        wp_walk using Ka gl, Ka y
        rw [q1, q2, va, vc]
        have xa := HT.rcLt_int A.in1 ⟨hp, g, d, Y, Z⟩ a t c u f w
        wp_walk using xa
        exact h
def ZP   l b (xs j:Array Da)(n m:Nat) dd de sl sm ns ms (hi:Nb xs.toList ns)(y:Nb j.toList ms):rg (Ob.«list.__lt__» ⟨[.ref l,.ref b],[]⟩)
   (λ_ R s=>s.heap.get? l=la { cls:=.type "list",dict:=dd,data:=.seq xs n,slots:=sl }/\s.heap.get? b=la { cls:=.type "list",dict:=de,data:=.seq j m,slots:=sm }/\R (.ok (.ret (.bool (HT.lexLt ns ms)))) s):=by
 intro f w A R s h;obtain⟨z,g,d,F,I⟩:=s;obtain⟨gl,q,h⟩:=h;have J:=AutoSeq1.sub_list_list
 wp_walk using Ka gl,Ka q
 exact⟨Hy plain_eq_loop _,ku entry_eq_loop (by rw[Cu plain_eq_loop _];exact bQ l b xs j n m dd de sl sm ns ms hi y _ 0 rfl (og _) (og _) f w A R _ ⟨gl,q,h⟩)⟩
end L2

namespace L2
open PySem PySem.Spec PyProof.Rows PySem.W
noncomputable def lh  : Nat:=64

def ET      (hu:A.units<Xb)(O:nn s.heap a xs)(I:nn s.heap b ys)(hi:Nb xs.toList ns)(hj:Nb ys.toList y)(h:Q (HT.lexLt ns y) s) :
  wpAny (Ja prog w) A (oneLt' ma (.ref a) (.ref b)) Q E s:=by
 obtain⟨⟨c1,d1,Y,q⟩,J,f,F,q1,r1⟩:=O;obtain⟨⟨c2,d2,Z,j⟩,R,e2,z,q2,r2⟩:=I;simp only at F q1 r1 z q2 r2;subst F q1 r1 z q2 r2;rw[oneLt'_eq];simp only[if_true];refine Ab (wpAny_cRoomFor hu (Ab (wpAny_callSpecialIfBound?_slot ⟨_,f,rfl⟩ bJ (Qg bJ ⟨_,f,rfl⟩ PySem.F.entry_list_lt (PySem.F.args_list_lt_2 _ _) (ZP a b xs ys J R Aa Aa q j ns y hi hj) ⟨f,e2,?_⟩))));exact Pm h
def yM     [Decidable c]{g:α->Sem J}{Q:I->Ia->Prop} mid (F:c->wpAny M A m (λa s1=>wpAny M A (g a) mid E s1) E s)(y:¬c->wpAny M A n (λa s1=>wpAny M A (g a) mid E s1) E s)(z:∀b s2,mid b s2->wpAny M A (f b) Q E s2) :
  wpAny M A (if c then m >>= λa=>g a >>= f else n >>= λa=>g a >>= f) Q E s:=by
 have q:∀{m:Sem α},wpAny M A m (λa s1=>wpAny M A (g a) mid E s1) E s->wpAny M A (m >>= λa=>g a >>= f) Q E s:=λh=>Ab (Pb h λa s1 h=>Ab (Pb h z));by_cases j:c
 ·rw[if_pos j];exact q (F j)
 ·rw[if_neg j];exact q (y j)
def UF       (ho:s.heap.get? a=la (se "list" vs.toArray n))(Z:vs.length<lh)(nd:vs.Nodup) lt 
  (hk:∀h' ,(∀b o,b≠a->s.heap.get? b=la o->h'.get? b=la o)->2<=vs.length->∀R ,R κ { s with heap:=h' }->wpAny (Ja prog w) A (keyKind' vs.toArray) R E { s with heap:=h' })
  (as:∀h' ,(∀b o,b≠a->s.heap.get? b=la o->h'.get? b=la o)->Asks vs.length lt (Jg prog w A κ vs) { s with heap:=h' })
  (q:∀f:List Nat,f.Perm (Qc vs.length)->(∀i,i+1<vs.length->lt (f.getD i 0) (f.getD (i+1) 0)=ma)->P (.done (.ret .none)) { s with heap:=cn s.heap a vs (Mp (f.map λi=>vs.getD i ke)) }) :
  wpAny (Ja prog w) A (Ob.«list.sort» ⟨[.ref a],[]⟩) P E s:=by
 rw[list_sort_plain];have hz:vs.toArray.size=vs.length:=by simp
 have big:vs.length<=Za:=by rw[Kh];unfold lh at Z;lia
 have za:=get?_update_seq ho λ_=>(#[]:Array Da);generalize O:s.heap.update a (xj λ_=>(#[]:Array Da))=h1 at za;obtain⟨e1,ja⟩:∃e1,h1.get? a=la (se "list" #[] e1):=⟨_,za⟩;refine Ab (listItems_at ho rfl (Ab (listUpdate_at ho rfl ?_ (hz ▸ big) (og _))));rw[O];refine Ab (seqEpoch_at ja rfl (Ab (wpAny_newTuple (Ab (sy (Gj ?_) (og _))) big)));obtain⟨j,y⟩:∃j,j=(h1.push (se "tuple" vs.toArray 0)).push (se "list" #[] 0):=⟨_,rfl⟩;refine(?_:wpAny (Ja prog w) A _ P E { s with heap:=(h1.push (se "tuple" vs.toArray 0)).push (se "list" #[] 0) })
 have kp:∀b o,b≠a->s.heap.get? b=la o->j.get? b=la o:=λb o hb e=>by
  rw[y];exact Fc _ (Fc _ (by rw[<- O,XH _ _ _ _ hb];exact e))
 have xa:j.get? a=la (se "list" #[] e1):=by rw[y];exact Fc _ (Fc _ ja)
 have va:∀J:Array Da,cn s.heap a vs J=j.update a (xj λ_=>J):=λJ=>by rw[y,<- O];rfl
 rw[<- y];dsimp only;refine yM (λ(r:PUnit×SortSt) z=>z={ s with heap:=j }/\∃f:List Nat,f.Perm (Qc vs.length)/\(∀i,i+1<vs.length->lt (f.getD i 0) (f.getD (i+1) 0)=ma)/\(arrOf r.2).map (·.2)=Mp (f.map λi=>vs.getD i ke)/\failedOf r.2=Aa) (λY=>?_) (λY=>?_) ?_
 rotate_right
 ·rintro⟨⟨⟩,st⟩ z ⟨rfl,f,hp,hs,F,hf⟩;refine Ab (seqEpoch_at xa rfl (Ab (listUpdate_at xa rfl ?_ (og _) (by rw[F,Bd,Ua,hp.length_eq,ci];exact Nat.le_succ_of_le big))))
  dsimp only;rw[hf,bne_self_eq_false];refine fc ?_;rw[F,<- va];exact q f hp hs
 ·rw[if_pos Y];refine fc (fc ⟨rfl,Qc vs.length,.refl _,λi hi=>by rw[hz]at Y;lia,?_,rfl⟩)
  refine(?_:(vs.toArray.zip vs.toArray).map (·.2)=_);apply Array.toList_inj.mp;refine xz (by simp) λi g1 g2=>?_
  have hi:i<vs.length:=by simpa using g1
  simp[Xc,hi]
 ·rw[if_neg Y];rw[hz]at Y;refine hk j kp (Qd.mp Y) _ ?_;refine ng (kat_run (s:={ s with heap:=j }) (κ:=κ) (Q:=λI z=>z={ s with heap:=j }/\∃p:Array Nat,ug vs.length p/\Ig lt p vs.length/\arrOf I=p.map (kas_item (vs.toArray.zip vs.toArray))/\failedOf I=Aa)
   (G:=λp z=>z={ s with heap:=j }/\ug vs.length p/\Ig lt p vs.length) (ks:=vs) (vs:=vs) rfl (by lia) Z (λp I z a1 a2 a3 a4=>⟨a4.1,p,a4.2.1,a4.2.2,a2,a3⟩) (JQ (as j kp) (by lia) λp r1 r2=>⟨rfl,r1,r2⟩)) ?_ λ_ _ e=>e
  rintro⟨⟨⟩,st⟩ z ⟨rfl,p,r1,r2,ar,hf⟩;refine⟨rfl,p.toList,r1.pm,λi hi=>?_,kat_snds rfl ar,hf⟩;have:=r2 i hi;unfold gD at this;rw[SI,SI]at this;rw[Ij,Ij,Du,Du];exact this

theorem Vv  : ∀a ,HT.lexLt a a=ua
 |[]=>rfl
 |x::a=>by rw[HT.lexLt_cons,if_pos rfl];exact Vv a
theorem Hs  : ∀a b c ,HT.lexLt a b=ma->HT.lexLt b c=ma->HT.lexLt a c=ma
 |[],[],_,h,_=>by cases h
 |[],_::_,[],_,h=>by rw[HT.lexLt_cons_nil]at h;cases h
 |[],_::_,_::_,_,_=>rfl
 |_::_,[],_,h,_=>by rw[HT.lexLt_cons_nil]at h;cases h
 |_::_,_::_,[],_,h=>by rw[HT.lexLt_cons_nil]at h;cases h
 |x::a,y::b,z::c,h1,h2=>by
  rw[HT.lexLt_cons]at h1 h2 ⊢;by_cases j:x=y
  ·rw[if_pos j]at h1;by_cases f:y=z
   ·rw[if_pos f]at h2;rw[if_pos (j.trans f)];exact Hs a b c h1 h2
   ·rw[if_neg f]at h2;rw[if_neg (λq=>f (j.symm.trans q)),j];exact h2
  ·rw[if_neg j]at h1;by_cases f:y=z
   ·rw[if_pos f]at h2;rw[if_neg (λq=>j (q.trans f.symm)),<- f];exact h1
   ·rw[if_neg f]at h2;have F:=of_decide_eq_true h1;have I:=of_decide_eq_true h2;rw[if_neg (by lia)];exact decide_eq_true (by lia)
theorem TB  : ∀a b ,a≠b->HT.lexLt a b=ma\/HT.lexLt b a=ma
 |[],[],h=>absurd rfl h
 |[],_::_,_=>.inl rfl
 |_::_,[],_=>.inr rfl
 |x::a,y::b,h=>by
  rw[HT.lexLt_cons,HT.lexLt_cons];by_cases e:x=y
  ·rw[if_pos e,if_pos e.symm];exact TB a b λz=>h (by rw[e,z])
  ·rw[if_neg e,if_neg (Qa e)];by_cases z:x<y
   ·exact .inl (decide_eq_true z)
   ·exact .inr (decide_eq_true (by lia))
def KeyL  (K:Lb)(H:Hp)(v:V)(k:List Int):Prop:=∃t,v=.ref t/\Nd K H t (k.map V.int)
def PR         (F:Vals (k.map V.int) z)(j:Vals (k'.map V.int) q) i (h:Q (HT.lexLt k k') s):KatLex prog w A ma (decide (z.toArray.size<q.toArray.size)) Q (z.toArray.toList.zip q.toArray.toList) i s:=by
 have J:∀(k:List Int) {k':List Int} {z q:List Da} (f:Bool),Vals (k.map V.int) z->Vals (k'.map V.int) q->f=decide (z.length<q.length)->∀(i:Nat),Q (HT.lexLt k k') s->KatLex prog w A ma f Q (z.zip q) i s:=λk=>by
  induction k with
  |nil=>
   intro k' z q f F j I i h;cases F;subst I;cases k' with
   |nil=>cases j;exact kat_nil (by rw[HT.lexLt_nil_nil]at h;simpa using h)
   |cons y k'=>
    cases j with
    |cons b j=>
     refine kat_nil ?_;rw[show HT.lexLt [] (y::k')=ma from rfl]at h;simpa using h
  |cons x k O=>
   intro k' z q f F j I i h;cases F with
   |cons a F=>
    cases k' with
    |nil=>cases j;subst I;exact kat_nil (by rw[HT.lexLt_cons_nil]at h;simpa using h)
    |cons y k'=>
     cases j with
     |cons b j=>
      obtain⟨t,rfl⟩:=a;obtain⟨u,rfl⟩:=b;rw[HT.lexLt_cons]at h;refine kat_cons (wpAny_eqBool_int ?_);refine kat_go (λe=>kat_yes ?_) λe=>kat_no ?_
      ·have e:x=y:=by simpa using e
       rw[if_pos e]at h;exact O f F j (by rw[I];simp) (i+1) h
      ·have e:¬x=y:=by simpa using e
       rw[if_neg e]at h;cases i with
       |zero=>exact fv h
       |succ i=>
        rw[show(ma&&(i+1==0))=ua by simp]
        exact kat_one _ _ (wpAny_lt_int h)
 exact J k _ F j (by simp) i h

def FM  (X:Cx)(xs:List V)(H:Hp)(Q:VK):Prop:=∃(p:Ca) (vs:List V) (ks:List (List Int)),xs=[.ref p]/\Nd X.K H p vs/\vs.length=ks.length/\ks.Nodup/\vs.length<lh/\
 ((∀(i:Nat) v k,vs[i]?=la v->ks[i]?=la k->KeyI H v k)\/(∀(i:Nat) v k,vs[i]?=la v->ks[i]?=la k->KeyL X.K H v k)\/∀(i:Nat) v k,vs[i]?=la v->ks[i]?=la k->KeyT X.K H v k/\k≠[])/\
 ∀(l:Ca) (π:List Nat),H l=Aa->π.Perm (Qc vs.length)->(∀i,i+1<vs.length->HT.lexLt (ks.getD (π.getD i 0) []) (ks.getD (π.getD (i+1) 0) [])=ma)->Q (.ref l) (upd H l (.lst (π.map λi=>vs.getD i .non)))
def Yr  {y:Type}{l:List y}(h:l.Nodup) hi (q:j<l.length)(f:i≠j):l[i]≠l[j]:=by
 have h:=ud.mp h;rcases Nat.lt_or_gt_of_ne f with z|z
 ·exact h i j hi q z
 ·exact λe=>h j i q hi z e.symm
def nU  (hc:X.calm=ma)(hu:X.A.units+2<Xb):Ye X (.builtin "sorted") (FM X):=by
 intro vc s σ H xs us Q I r h;obtain⟨p,vs,Z,rfl,hq,hl,vb,ka,hk,q⟩:=h;obtain⟨u,rfl,rx⟩:=Ng r;cases rx;obtain⟨F,rv,pl,hz⟩:=I.list hq;have il:=rv.length;have hL:=pl.isList;have xa:∀{i:Nat} {u:Da},F[i]?=la u->∃v k,vs[i]?=la v/\Z[i]?=la k/\RelV v u:=λ{i u} e=>by
  obtain⟨v,ev,r1⟩:=Dt rv e;have:i<Z.length:=by rw[<- hl];exact(Ba.mp ev).1
  exact⟨v,Z[i],ev,ac this,r1⟩
 have nd:F.Nodup:=by
  refine ud.mpr λi j Y hj wc e=>?_;obtain⟨x,k,ex,ek,r1⟩:=xa (ac Y);obtain⟨y,k',ey,O,r2⟩:=xa (ac hj);have za:k≠k':=λz=>by
   obtain⟨h1,q1⟩:=Ba.mp ek;obtain⟨h2,q2⟩:=Ba.mp O;exact Yr vb h1 h2 (by lia) (by rw[q1,q2];exact z)
  rcases hk with hk|hk|hk
  ·obtain⟨z,rfl,e1⟩:=hk i x k ex ek;obtain⟨z',rfl,e2⟩:=hk j y k' ey O;obtain⟨t1,g1⟩:=r1;obtain⟨t2,g2⟩:=r2;rw[g1,g2]at e;injection e with e3 _
   exact za (by rw[e1,e2,e3])
  ·obtain⟨a,rfl,ha⟩:=hk i x k ex ek;obtain⟨b,rfl,hb⟩:=hk j y k' ey O;have g1:F[i]=.ref a:=r1;have g2:F[j]=.ref b:=r2;rw[g1,g2]at e;injection e with e3
   subst e3;exact za (BI (λ_ _ h=>by injection h) |>.mp (I.list_inj ha hb))
  ·obtain⟨⟨a,rfl,ha⟩,_⟩:=hk i x k ex ek;obtain⟨⟨b,rfl,hb⟩,_⟩:=hk j y k' ey O;have g1:F[i]=.ref a:=r1;have g2:F[j]=.ref b:=r2;rw[g1,g2]at e;injection e with e3
   subst e3;exact za (BI (λ_ _ h=>by injection h) |>.mp (I.tuple_inj ha hb))
 have big:F.length<=Za:=by rw[Kh];unfold lh at ka;lia
 refine NF (collect_list hL (sy ?_ big) big);obtain⟨h1,ya⟩:∃h1,h1=(s.heap.push (se "list" #[] 0)).update s.heap.objs.size (xj (·++F.toArray)):=⟨_,rfl⟩;rw[<- ya];have k1:∀b o,s.heap.get? b=la o->h1.get? b=la o:=λb o e=>by
  rw[ya,XH _ _ _ _ (re (Kc e))];exact Fc _ e
 have yb:s.heap.objs.size<=h1.objs.size:=by rw[ya,Xa.size_update,dn];exact fu _
 have va:(h1.push { cls:=.type "list",data:=.seq F.toArray }).get? h1.objs.size=la (se "list" F.toArray 0):=Fe _ rfl;have up:∀(J:Xa),(∀b o,b≠h1.objs.size->(h1.push { cls:=.type "list",data:=.seq F.toArray }).get? b=la o->J.get? b=la o)->∀b o,s.heap.get? b=la o->J.get? b=la o:=λJ k b o e=>
  k b o (re (Kc (k1 b o e))) (Fc _ (k1 b o e))
 obtain⟨κ,ja,zb⟩:∃κ:SortKind,(∀J:Xa,(∀b o,s.heap.get? b=la o->J.get? b=la o)->2<=F.length->∀(R:SortKind->Ia->Prop) (E:Da->Ia->Prop),R κ { s with heap:=J }->wpAny (Ja X.prog X.w) X.A.in1.in1 (keyKind' F.toArray) R E { s with heap:=J })/\
   ∀(J:Xa),(∀b o,s.heap.get? b=la o->J.get? b=la o)->∀(i j:Nat) (C:Bool->Ia->Prop),i<F.length->j<F.length->C (HT.lexLt (Z.getD i []) (Z.getD j [])) { s with heap:=J }->Jg X.prog X.w X.A.in1.in1 κ F i j C { s with heap:=J }:=by
  have wa:∀{i j:Nat} {C:Bool->Ia->Prop} {J:Xa},∀(Y:i<F.length) (hj:j<F.length),C (HT.lexLt (Z.getD i []) (Z.getD j [])) { s with heap:=J }->∃x k y k',vs[i]?=la x/\Z[i]?=la k/\RelV x (F.getD i ke)/\vs[j]?=la y/\Z[j]?=la k'/\RelV y (F.getD j ke)/\C (HT.lexLt k k') { s with heap:=J }:=λ{i j C J} Y hj hC=>by
   have ei:F.getD i ke=F[i]:=by simp[Xc,Y]
   have ej:F.getD j ke=F[j]:=by simp[Xc,hj]
   obtain⟨x,k,ex,ek,rx⟩:=xa (ac Y);obtain⟨y,k',ey,O,ry⟩:=xa (ac hj);have di:Z.getD i []=k:=by rw[Ij,ek];rfl
   have dj:Z.getD j []=k':=by rw[Ij,O];rfl
   rw[di,dj]at hC;exact⟨x,k,y,k',ex,ek,by rw[ei];exact rx,ey,O,by rw[ej];exact ry,hC⟩
  rcases hk with hk|hk|hk
  ·refine⟨oneType',λJ up h2 R E hR=>kas_kind (M:=Ja X.prog X.w) (s:={ s with heap:=J }) (T:=.type "int") (by lia) (λv hv=>?_) (by decide) (by decide) hR,λJ up i j C Y hj hC=>?_⟩
   ·obtain⟨i,Y,rfl⟩:=bg hv;obtain⟨x,k,ex,ek,r1⟩:=xa (ac Y);obtain⟨z,rfl,_⟩:=hk i x k ex ek;obtain⟨t,e⟩:=r1;rw[e];exact Vy rfl
   ·obtain⟨x,k,y,k',ex,ek,rx,ey,O,ry,hC⟩:=wa Y hj hC;unfold Jg;rw[Ay];obtain⟨z,rfl,e1⟩:=hk i x k ex ek;obtain⟨z',rfl,e2⟩:=hk j y k' ey O;obtain⟨t1,g1⟩:=rx;obtain⟨t2,g2⟩:=ry;rw[g1,g2];rw[e1,e2]at hC;refine fv ?_;have e:HT.lexLt [z] [z']=decide (z<z'):=by
     rw[HT.lexLt_cons];split
     ·rename_i q;rw[q,HT.lexLt_nil_nil];simp
     ·rfl
    rw[e]at hC;exact hC
  ·refine⟨oneType',λJ up h2 R E hR=>kas_kind (M:=Ja X.prog X.w) (s:={ s with heap:=J }) (T:=.type "list") (by lia) (λv hv=>?_) (by decide) (by decide) hR,λJ up i j C Y hj hC=>?_⟩
   ·obtain⟨i,Y,rfl⟩:=bg hv;obtain⟨x,k,ex,ek,r1⟩:=xa (ac Y);obtain⟨t,rfl,ht⟩:=hk i x k ex ek;obtain⟨js,rj,⟨o,m,eo,ec,_,_⟩,_⟩:=I.list ht;have r1:F[i]=.ref t:=r1;rw[r1];have:Looks (Ja X.prog X.w) J (typeOf (.ref t)) o.cls:=(Looks.ld (up _ _ eo)).andThen .now;rw[ec]at this;exact this
   ·obtain⟨x,k,y,k',ex,ek,rx,ey,O,ry,hC⟩:=wa Y hj hC;unfold Jg;rw[Ay];obtain⟨a,rfl,ha⟩:=hk i x k ex ek;obtain⟨b,rfl,hb⟩:=hk j y k' ey O;obtain⟨ia,ra,pa,_⟩:=I.list ha;obtain⟨ib,rb,pb,_⟩:=I.list hb;have g1:F.getD i ke=.ref a:=rx;have g2:F.getD j ke=.ref b:=ry;rw[g1,g2];have qc:∀{t:Ca} {z:Array Da},nn s.heap t z->nn J t z:=λ⟨o,n,e,q1,q2,q3⟩=>⟨o,n,up _ _ e,q1,q2,q3⟩;exact ET (A:=X.A.in1.in1) (by rw[xI,xI];lia) (qc pa) (qc pb) (SC (by simpa using ra)) (SC (by simpa using rb)) hC
  ·refine⟨tuples' ma,λJ up h2 R E hR=>?_,λJ up i j C Y hj hC=>?_⟩
   ·have go:∀l:List Da,(∀v∈l,v∈F)->∃fs,KatTups J l fs/\fs.length=l.length/\∀f∈fs,Looks (Ja X.prog X.w) J (typeOf f) (.type "int"):=λl=>by
     induction l with
     |nil=>intro _;exact⟨[],.nil,rfl,λ_ h=>(nomatch h)⟩
     |cons v l ih=>
      intro hv;obtain⟨fs,h1,h2,h3⟩:=ih λw hw=>hv w (Pd _ hw);obtain⟨i,Y,rfl⟩:=bg (hv v cf);obtain⟨x,k,ex,ek,r1⟩:=xa (ac Y);obtain⟨⟨t,rfl,ht⟩,kn⟩:=hk i x k ex ek;obtain⟨js,rj,⟨o,eo,ec,m,ed⟩,_⟩:=I.tuple ht;have r1:F[i]=.ref t:=r1;rw[r1];cases k with
      |nil=>exact absurd rfl kn
      |cons z k=>
       cases rj with
       |@cons v' u' _ yc r0 rr=>
        obtain⟨tk,rfl⟩:=r0;exact⟨_::fs,.cons (up _ _ eo) ec ed rfl h1,by rw[Nh,Nh,h2],λf hf=>by
         rcases Ic.mp hf with rfl|hf
         ·exact Vy rfl
         ·exact h3 f hf⟩
    obtain⟨fs,h1,h3,h4⟩:=go F λ_ h=>h;exact kat_kind (M:=Ja X.prog X.w) (s:={ s with heap:=J }) h1 (by lia) h4 (by decide) hR
   ·obtain⟨x,k,y,k',ex,ek,rx,ey,O,ry,hC⟩:=wa Y hj hC;unfold Jg;obtain⟨⟨a,rfl,ha⟩,_⟩:=hk i x k ex ek;obtain⟨⟨b,rfl,hb⟩,_⟩:=hk j y k' ey O;obtain⟨ia,ra,⟨o1,q1,_,m1,d1⟩,_⟩:=I.tuple ha;obtain⟨ib,rb,⟨o2,q2,_,m2,d2⟩,_⟩:=I.tuple hb;have g1:F.getD i ke=.ref a:=rx;have g2:F.getD j ke=.ref b:=ry;rw[g1,g2];refine kat_lt (s:={ s with heap:=J }) (up _ _ q1) d1 (up _ _ q2) d2 ?_
    exact PR ra rb 0 hC
 refine Bm slot_list_sort ⟨_,va,rfl⟩ entry_list_sort (UF (κ:=κ) (s:={ s with heap:=h1.push { cls:=.type "list",data:=.seq F.toArray } }) va (by lia) nd (λi j=>HT.lexLt (Z.getD i []) (Z.getD j [])) (λJ kp h2 R hR=>ja J (up J kp) h2 R _ hR) (λJ kp=>⟨λi j C Y hj hC=>zb J (up J kp) i j C Y hj hC,λi j k Y hj kc h1 h2=>Hs _ _ _ h1 h2,λi j Y hj jc=>TB _ _ ?_,λi _=>Vv _⟩) λπ hp hs=>⟨_,rfl,?_⟩) (args_list_sort _)
 ·have wb:i<Z.length:=by lia
  have kb:j<Z.length:=by lia
  have di:Z.getD i []=Z[i]:=by simp[Xc,wb]
  have dj:Z.getD j []=Z[j]:=by simp[Xc,kb]
  rw[di,dj];exact Yr vb wb kb jc
 ·obtain⟨e,he⟩:=sortedHeap_at (out:=Mp (π.map λi=>F.getD i ke)) va;rw[<- il]at hp hs;have zc:∀i∈π,i<vs.length:=λi Y=>Ra.mp (hp.mem_iff.mp Y);refine⟨.ref h1.objs.size,_,I.laid (o:=.lst (π.map λi=>vs.getD i .non)) (λb ob y=>?_) yb ?_,rfl,q _ π (I.hok.fresh yb) hp hs⟩
  ·have hb:=k1 b ob y;have jb:=Kc hb;rw[sortedHeap_old (re jb) (by rw[dn];exact Cz jb)]
   exact Fc _ hb
  ·refine⟨by rw[Ua,hp.length_eq,ci,Kh];unfold lh at ka;lia,π.map λi=>F.getD i ke,e,?_,?_⟩
   ·have:∀l:List Nat,(∀i∈l,i<vs.length)->Vals (l.map λi=>vs.getD i .non) (l.map λi=>F.getD i ke):=λl=>by
     induction l with
     |nil=>intro _;exact .nil
     |cons i l ih=>
      intro xb;have Y:=xb i (by simp)
      have xc:i<F.length:=by lia
      obtain⟨v,ev,r1⟩:=Dt rv (ac xc);refine .cons ?_ (ih λj hj=>xb j (Pd _ hj));refine(?_:RelV (vs.getD i .non) (F.getD i ke));rw[Ij,ev,Ij,ac xc];exact r1
    exact this π zc
   ·rw[he]
section
variable {X:Cx}
def QS  (hc:X.calm=ma):Ye X (.type "list") (λxs H Q=>∃(a:Ca) (kvs:List (Ub×V)) (ns:List Int),xs=[.ref a]/\H a=la (.dK kvs)/\kvs.map (·.1)=ns.map (λz=>(.inl z:Ub))/\∀l,H l=Aa->Q (.ref l) (upd H l (.lst (ns.map V.int)))):=by
 intro Z s σ H xs us Q I r h;obtain⟨a,kvs,ns,rfl,ha,hk,q⟩:=h;obtain⟨u,rfl,rx⟩:=Ng r;cases rx;obtain⟨hz,hS,F,rv,m⟩:kvs.length<=Za/\(a==jf)=ua/\∃F,KV kvs F/\s.heap.DictOf (Yd X.prog X.w) a F:=I.hok a _ ha;obtain⟨ep,R⟩:=m.dictAt;have J:F.map (·.1)=kvs.map (·.1):=Qw rv;have O:F.length=ns.length:=by simpa using congrArg Cp (J.trans hk)
 have za:kvs.length=ns.length:=by simpa using congrArg Cp hk
 refine kdl_call (A:=X.A) (kdl_dict (knd:=Yd X.prog X.w) (kvs:=F) (ep:=ep) hS) (I.ok.hd hc) R (by lia) λh' tk y c' Y xa f=>?_
 have hl:y.toList.length=ns.length:=by rw[Al,f.1,O]
 have hI:Nb y.toList ns:=Ow (J.trans hk) hl λj v e=>f.2 j v (by simp_all)
 refine⟨.ref s.heap.objs.size,_,I.laid (t':=tk) (o:=.lst (ns.map V.int)) (λb o e=>Y b o e) (Db _) ⟨by simp_all,y.toList,c',Sx hI,by simp_all⟩,rfl,q _ (I.hok.fresh (Db _))⟩
theorem tj  : ∀r:List Int,Ru (r.map .int)=ma/\Yh (r.map .int)=0/\noBs (r.map .int)=ma
 |[]=>⟨rfl,rfl,rfl⟩
 |i::r=>by
  obtain⟨q,j,f⟩:=tj r;refine⟨?_,?_,?_⟩
  ·show((vp i).canLay0&&Ru (r.map .int))=ma;rw[q];rfl
  ·show max (vp i).depth (Yh (r.map .int))=0;rw[j];rfl
  ·show(Th (.int i)&&noBs (r.map .int))=ma;rw[f];rfl
theorem AD  : ∀{l f:List Int},l.map vp=f.map vp->l=f
 |[],[],_=>rfl
 |[],_::_,h=>by cases h
 |_::_,[],h=>by cases h
 |a::l,b::f,h=>by
  have h:=Lz h;rw[vp.inj h.1,AD h.2]
def Hw  (k k':List Int):Ud (.list (k.map .int)) (.list (k'.map .int))=decide (k=k'):=by
 by_cases h:k=k'
 ·rw[h,Vz (.list (k'.map .int)) (tj k').1];simp
 ·cases e:Ud (.list (k.map .int)) (.list (k'.map .int))with
  |false=>simp[h]
  |true=>
   have e:=Va.list.inj (wB (d:=.list (k.map .int)) (e:=.list (k'.map .int)) (tj k).2.2 (tj k').2.2 e);exact absurd (AD e) h

def rInD  (X:Cx)(f:Bool):R2:=λx y H Q=>∃(p:Ca) (vs:List V) (d:Va) (ds:List Va),y=.ref p/\(Nd X.K H p vs\/td X.K H p vs)/\DV X.K H x d/\cg X.K H vs ds/\d.canLay0=ma/\d.depth<=100/\(∀e∈ds,e.canLay0=ma)/\Q (.bl (if f then !(ds.any λe=>Ud e d) else ds.any λe=>Ud e d)) H
open Classical in
noncomputable def eD (h:Xa)(d:Va)(w:Da):Bool:=decide (∃e f,e.canLay0=ma/\Reads h w e f/\Ud e d=ma)
open Classical in
def JA {h:Xa}{d e:Va}{w:Da}{as:List Ca}(r:Reads h w e as)(c:e.canLay0=ma):eD h d w=Ud e d:=by
 unfold eD;cases q:Ud e d with
 |true=>grind
 |false=>
  refine decide_eq_false λ⟨z,f,y,F,j⟩=>?_;rw[SeqAt.Reads.unique z e w f as y F r,q]at j;cases j
theorem rC {h:Xa}{d:Va}:∀{us:List Da} {j:List Va} {as:List Ca},ReadsAll h us j as->(∀e∈j,e.canLay0=ma)->us.any (eD h d)=(j.any λe=>Ud e d)/\∀w∈us,∃e as,e.canLay0=ma/\Reads h w e as
 |_,_,_,.nil,_=>⟨rfl,λw f=>by simp at f⟩
 |_,_,_,.cons r rs,c=>by
  obtain⟨z,y⟩:=rC (d:=d) rs λe q=>c e (Pd _ q);refine⟨by rw[oh,oh,z,JA r (c _ cf)],λw f=>?_⟩
  rcases Ic.mp f with rfl|f
  ·exact⟨_,_,c _ cf,r⟩
  ·exact y w f
def Ks   {O:St}(hu:A.units+100<Xb)(I:Oa X pins O H s)(rx:RelV x u)(hd:DV X.K H x d)(c:d.canLay0=ma)(F:d.depth<=100)(r:Vals vs f)(z:cg X.K H vs j)(Z:∀e∈j,e.canLay0=ma) :
  (∀w,w∈f->kg A s w u (eD s.heap d w))/\f.any (eD s.heap d)=j.any λe=>Ud e d:=by
 obtain⟨as,ra⟩:=cg.reads I z r;obtain⟨bs,rb⟩:=DV.reads I hd rx;obtain⟨J,h2⟩:=rC (d:=d) ra Z;refine⟨λw R=>?_,J⟩;obtain⟨e,Y,y,q⟩:=h2 w R;rw[JA q y];exact SeqAt.eqAt_reads _ _ A s _ _ _ _ q rb y c (Eg (CI (Fb (Nat.min_le_right _ _) F) _) hu)
def NM   (hr:Room k X.A):Cc X (ee .In) (rInD X ua):=by
 intro Y s σ H x y v u Q I Z ry h;obtain⟨p,vs,d,ds,rfl,j,hd,O,c,R,cs,q⟩:=h;cases ry;rcases j with j|j
 ·obtain⟨f,r,z,hz⟩:=I.list j;obtain⟨J,F⟩:=Ks (A:=X.A.in1) (by have:=hr.un;lia) I Z hd c R r O cs
  refine SH (eD s.heap d) z.isList (λw hw=>J w (by simp_all)) ⟨.bl _,H,I,rfl,?_⟩
  rw[show f.toArray.any (eD s.heap d)=f.any (eD s.heap d) by simp,F]
  exact q
 ·obtain⟨f,r,z,hz⟩:=I.tuple j;obtain⟨J,F⟩:=Ks (A:=X.A.in1) (by have:=hr.un;lia) I Z hd c R r O cs
  refine uI (eD s.heap d) z (λw hw=>J w (by simp_all)) ⟨.bl _,H,I,rfl,?_⟩
  rw[show f.toArray.any (eD s.heap d)=f.any (eD s.heap d) by simp,F]
  exact q
def kT   (hr:Room k X.A):Cc X (ee .NotIn) (rInD X ma):=by
 intro Y s σ H x y v u Q I Z ry h;obtain⟨p,vs,d,ds,rfl,j,hd,O,c,R,cs,q⟩:=h;cases ry;rcases j with j|j
 ·obtain⟨f,r,z,hz⟩:=I.list j;obtain⟨J,F⟩:=Ks (A:=X.A.in1) (by have:=hr.un;lia) I Z hd c R r O cs
  refine cI (eD s.heap d) z.isList (λw hw=>J w (by simp_all)) ⟨.bl _,H,I,rfl,?_⟩
  rw[show f.toArray.any (eD s.heap d)=f.any (eD s.heap d) by simp,F]
  exact q
 ·obtain⟨f,r,z,hz⟩:=I.tuple j;obtain⟨J,F⟩:=Ks (A:=X.A.in1) (by have:=hr.un;lia) I Z hd c R r O cs
  refine mI (eD s.heap d) z (λw hw=>J w (by simp_all)) ⟨.bl _,H,I,rfl,?_⟩
  rw[show f.toArray.any (eD s.heap d)=f.any (eD s.heap d) by simp,F]
  exact q
end

theorem xB   bt:∀k,ve bt k<=k
 |0=>Db _
 |k+1=>by
  have:=xB bt k;show(if bt (k+1) (ve bt k) then k+1 else ve bt k)<=k+1
  lia
theorem Lw  (val:Nat->Int):∀k j,j<=k->val j<=val (ve (λi j=>decide (val j<val i)) k)
 |0,j,h=>by rw[show j=0 by lia];exact Bp _
 |k+1,j,h=>by
  show val j<=val (if decide (val (ve (λi j=>decide (val j<val i)) k)<val (k+1))=ma then k+1 else ve (λi j=>decide (val j<val i)) k)
  by_cases c:val (ve (λi j=>decide (val j<val i)) k)<val (k+1)
  ·rw[if_pos (by lia)]
   by_cases e:j=k+1
   ·lia
   ·have:=Lw val k j (by lia);lia
  ·rw[if_neg (by lia)]
   by_cases e:j=k+1
   ·lia
   ·exact Lw val k j (by lia)
def rS  (hc:X.calm=ma):Ye X (.builtin "max") (λxs H Q=>∃(p:Ca) (ns:List Int),xs=[.ref p]/\(Nd X.K H p (ns.map V.int)\/td X.K H p (ns.map V.int))/\ns≠[]/\∀z∈ns,(∀y∈ns,y<=z)->Q (.int z) H):=by
 intro xa s σ H xs us Q I r h;obtain⟨p,ns,rfl,hq,hn,q⟩:=h;obtain⟨u,rfl,rx⟩:=Ng r;cases rx;have ja:0<ns.length:=List.length_pos_iff.mpr hn;have za:∀{f:List Da} {O:Xa} {tk:Nat},Vals (ns.map V.int) f->∀v,f[ve (λi j=>decide (ns.getD j 0<ns.getD i 0)) (f.toArray.size-1)]?=la v->(∀b o,s.heap.get? b=la o->O.get? b=la o)->EP X xa σ Q v { s with heap:=O,toks:=tk }:=λ{f O tk} r v hv k=>by
  have Y:=r.length;rw[Ua]at Y;obtain⟨x,J,rx⟩:=Dt r hv;rw[Bd,<- Y]at J;have hb:=xB (λi j=>decide (ns.getD j 0<ns.getD i 0)) (ns.length-1);obtain⟨m,hm⟩:∃m,m=ve (λi j=>decide (ns.getD j 0<ns.getD i 0)) (ns.length-1):=⟨_,rfl⟩;rw[<- hm]at J hb;have R:m<ns.length:=by lia
  rw[Lc,ac R]at J;have J:=Zc J;subst J;refine⟨_,H,I.kept k,rx,q _ (Mh R) λy hy=>?_⟩;obtain⟨j,hj,rfl⟩:=bg hy;have:=Lw (λi=>ns.getD i 0) (ns.length-1) j (by lia)
  rw[<- hm]at this;simpa[Xc,hj,R]using this
 have val:∀{f:List Da},Vals (ns.map V.int) f->∀i v,f[i]?=la v->∃t,v=um (ns.getD i 0) t:=λ{f} r i v e=>by
  obtain⟨x,J,rx⟩:=Dt r e;rw[Lc]at J;cases en:ns[i]? with
  |none=>simp_all
  |some n=>
   rw[en]at J;cases J;obtain⟨t,rfl⟩:=rx
   simp_all
 have kp:∀{O:Xa} {o0:Obj},(∀b o,b∉[s.heap.objs.size]->(s.heap.push o0).get? b=la o->O.get? b=la o)->∀b o,s.heap.get? b=la o->O.get? b=la o:=λhk b x e=>hk b x (λhm=>by rw[bc.mp hm]at e;exact Hh _ (Kc e)) (Fc _ e)
 have bd:∀{o0:Obj},p<s.heap.objs.size->∀b∈[s.heap.objs.size,p],b<(s.heap.push o0).objs.size:=λ{o0} F b hb=>by
  rw[Tp]
  grind
 rcases hq with hq|hq
 ·obtain⟨f,r,Z,hz⟩:=I.list hq;have Y:=r.length;rw[Ua]at Y;have hL:=Z.isList;have F:p<s.heap.objs.size:=by obtain⟨_,e,_⟩:=hL;exact Kc e
  refine call_max_walk (Ly hL ?_);exact⟨s.heap.objs.size,[s.heap.objs.size,p],[s.heap.objs.size],f.toArray.size,_,_,_,rfl,Walks.list (A:=X.A.in1) (I.ok.hd hc) _ p (re F) f.toArray,⟨⟨_,Fe _ rfl,rfl,rfl⟩,hL.push _⟩,bd F,by grind,
   CmpOf.ints_gt (λi=>ns.getD i 0) (λi v e=>val r i v (by grind)),λv O tk hv hk=>za r v (by grind) (kp hk)⟩
 ·obtain⟨f,r,Z,hz⟩:=I.tuple hq;have Y:=r.length;rw[Ua]at Y;have F:p<s.heap.objs.size:=by obtain⟨_,e,_⟩:=Z;exact Kc e
  refine call_max_walk (wz Z ?_);exact⟨s.heap.objs.size,[s.heap.objs.size,p],[s.heap.objs.size],f.toArray.size,_,_,_,rfl,Walks.tuple (A:=X.A.in1) (I.ok.hd hc) _ p (re F) f.toArray,⟨⟨_,Fe _ rfl,rfl,rfl⟩,Z.push _⟩,bd F,by grind,
   CmpOf.ints_gt (λi=>ns.getD i 0) (λi v e=>val r i v (by grind)),λv O tk hv hk=>za r v (by grind) (kp hk)⟩
end L2

namespace L2
open PySem PySem.Spec PyProof.Rows




end L2

namespace L2
open PySem PySem.Spec PyProof.Rows PySem.SeqAt PySem.MeetsSeq
def QU   l es (n:Nat) dd sl b u :
  rg (Ob.«dict.__eq__» ⟨[.ref l,.str b u],[]⟩) (λ_ R s=>s.heap.get? l=la { cls:=.type "dict",dict:=dd,data:=.dict es n,slots:=sl }/\R (.ok (.ret .notImplemented)) s):=
 .of_wp λf w A R s h=>by obtain⟨q,g,d,y,z⟩:=s;obtain⟨j,h⟩:=h;have I:=F.sub_str_dict;wp_walk using Ka j;exact⟨_,rfl,h⟩
def SU   b u l es (n:Nat) dd sl :
  rg (Ob.«str.__eq__» ⟨[.str b u,.ref l],[]⟩) (λ_ R s=>s.heap.get? l=la { cls:=.type "dict",dict:=dd,data:=.dict es n,slots:=sl }/\R (.ok (.ret .notImplemented)) s):=
 .of_wp λf w A R s h=>by obtain⟨q,g,d,y,z⟩:=s;obtain⟨j,h⟩:=h;wp_walk using Ka j,Ym j;exact⟨_,rfl,h⟩

def lU         b u (j:s.heap.get? l=la o)(y:o.cls=.type "dict")(hd:o.data=.dict es n)(hu:A.units<Xb):RcAt A s (.ref l) (.str b u) ua:=λq w E Q h=>by
 obtain⟨O,z,J,I⟩:=o;simp only at y hd;subst y hd;exact rc_eq_decline_or (k:=ua) ⟨_,j,rfl⟩ (yp s b u) (by decide) F.sub_str_dict F.slot_dict_eq F.slot_str_eq_refl
  (λ_ f=>Qg F.slot_dict_eq ⟨_,j,rfl⟩ F.entry_dict_eq (F.args_dict_eq_2 _ _) (QU l es n z I b u) ⟨j,f⟩)
  (λ_ f=>Qg F.slot_str_eq_refl (yp s b u) F.entry_str_eq (F.args_str_eq_2 _ _) (SU b u l es n z I) ⟨j,f⟩)
  (λ_ f=>wpAny_of_eq (rfl:isSame (.ref l) (.str b u)=pure ua) f) (.inr hu) h
def XR  : R2:=λx y H Q=>∃a z f,x=.ref a/\y=.str z/\H a=la (.dK f)/\Q (.bl ua) H
def zU   (hr:Room k X.A):Cc X (ee .Eq) XR:=by
 intro F s σ H x y v u Q I R Z h;obtain⟨a,z,f,rfl,rfl,O,q⟩:=h;cases R;obtain⟨t,rfl⟩:=Z;obtain⟨_,_,j,_,o,es,ep,Y,J,hd,_⟩:f.length<=Za/\(a==jf)=ua/\∃j,KV f j/\s.heap.DictOf (Yd X.prog X.w) a j:=I.hok a _ O;exact lU z t Y J.1 hd (by have:=hr.un;lia) X.prog X.w X.xe _ ⟨.bl ua,H,I,rfl,q⟩
def rSlS  : V->Option Int->Option Int->Hp->VK->Prop:=λx f j H Q=>∃z,x=.str z/\z.length<=Za/\Q (.str (Vt z f j)) H

def LO  : dh X rSlS:=by
 intro y s σ H x v vl vu lo hi sl Q I rx hs pl pu h;obtain⟨z,rfl,R,q⟩:=h;obtain⟨t,rfl⟩:=rx;refine⟨"str",_,F.slot_str_getitem.lookup,yp _ _ _,?_⟩;obtain⟨o,O,J,hd⟩:=hs;have f:∀Z k,EP X y σ Q (.str (Vt z lo hi) Z) { s with toks:=k }:=λZ k=>⟨.str _,H,I.tok _,⟨_,rfl⟩,q⟩
 cases pl with
 |none=>
  cases pu with
  |none=>exact Fu (l:=Aa) (u:=Aa) (st:=Aa) ⟨o,O,J,hd⟩ rfl (mu ⟨Fb (yu z _ _) R,f⟩)
  |int j Y=>exact Fu (l:=Aa) (u:=la (j,Y)) (st:=Aa) ⟨o,O,J,hd⟩ rfl (mu ⟨Fb (yu z _ _) R,f⟩)
 |int i ui=>
  cases pu with
  |none=>exact Fu (l:=la (i,ui)) (u:=Aa) (st:=Aa) ⟨o,O,J,hd⟩ rfl (mu ⟨Fb (yu z _ _) R,f⟩)
  |int j Y=>exact Fu (l:=la (i,ui)) (u:=la (j,Y)) (st:=Aa) ⟨o,O,J,hd⟩ rfl (mu ⟨Fb (yu z _ _) R,f⟩)
def oP  : Cc X (Oe .Add) (λx y H Q=>∃b j,x=.bl b/\y=.int j/\Q (.int ((if b=ma then (1:Int) else 0)+j)) H):=by
 intro f s J H x y v u Q I F z h;obtain⟨b,j,rfl,rfl,q⟩:=h;cases F;obtain⟨t,rfl⟩:=z;exact PySem.IntBool.add_bool_int ⟨.int _,H,I.tok _,⟨_,rfl⟩,q⟩
def uP  : Cc X (Oe .Sub) (λx y H Q=>(∃b j,x=.bl b/\y=.int j/\Q (.int ((if b=ma then (1:Int) else 0)-j)) H)\/∃i b,x=.int i/\y=.bl b/\Q (.int (i-if b=ma then (1:Int) else 0)) H):=by
 intro F s J H x y v u Q I z f h;rcases h with⟨b,j,rfl,rfl,q⟩|⟨i,b,rfl,rfl,q⟩
 ·cases z;obtain⟨t,rfl⟩:=f;exact PySem.IntBool.sub_bool_int ⟨.int _,H,I.tok _,⟨_,rfl⟩,q⟩
 ·cases f;obtain⟨t,rfl⟩:=z;exact PySem.IntBool.sub_int_bool ⟨.int _,H,I.tok _,⟨_,rfl⟩,q⟩
def BQ  (K:Lb):R2:=λx y H Q=>∃a z f,x=.ref a/\y=.str z/\(td K H a f\/Nd K H a f)/\Q (.bl ua) H
def EU   (Z:Room k X.A):Cc X (ee .Eq) (BQ X.K):=by
 intro J s σ H x y v u Q I O R h;obtain⟨a,z,xs,rfl,rfl,f,q⟩:=h;cases O;obtain⟨t,rfl⟩:=R;have hu:X.A.units<Xb:=Z.units0;rcases f with f|f
 ·obtain⟨j,Y,F,_⟩:=I.tuple f;exact zh.tuple_str z t (show s.heap.IsTuple a j.toArray from F) hu X.prog X.w X.xe _ ⟨.bl ua,H,I,rfl,q⟩
 ·obtain⟨j,Y,F,_⟩:=I.list f;exact zh.list_str z t F.isList hu X.prog X.w X.xe _ ⟨.bl ua,H,I,rfl,q⟩
end L2

namespace L2
open PySem PySem.Spec PyProof.Rows
open AutoSeq1 (wpAny_loadPart')


end L2

namespace L2
open PySem PySem.Spec PyProof.Rows PySem.W
structure Lies (lo:Nat)(pn:List (Ca×Obj))(H:Hp)(h:Xa)(e:Ca)(cls:Da)(dx:Option Ca):Prop where
 ob:∃oe vs,h.get? e=la oe/\oe.cls=cls/\oe.dict=dx/\oe.data=.fields vs/\
  (vs[1]?=la .none\/∃T oT ts,vs[1]?=la (.ref T)/\T≠e/\h.get? T=la oT/\oT.data=.fields ts/\ts[3]?=la .none/\H T=Aa/\lo<=T/\∀p∈pn,p.1≠T)
 hn:H e=Aa
 le:lo<=e
 pn:∀p∈pn,p.1≠e

def Bx  {h:Xa} i x (j:h.get? a=la o)(hd:o.data=.fields vs) :
  (∃f,(h.update a (Oi (·.setIfInBounds i x))).get? a=la f/\f.cls=o.cls/\f.dict=o.dict/\f.data=.fields (vs.setIfInBounds i x))/\∀b,b≠a->(h.update a (Oi (·.setIfInBounds i x))).get? b=h.get? b:=by
 have z:=Obj.data_mapFields hd (·.setIfInBounds i x);refine⟨⟨_,Yz _ j (eI z),Obj.cls_mapFields _ _,?_,z⟩,λb q=>Tz _ _ (Qa q)⟩;unfold Oi
 lia
def yD  {s: Ia} 
  (xa:A.frames=la (env::outer)) (hl:s.heap.FunFrames base (env::outer)) (hf:env.frame=la L) (he:s.heap.get? e=la oe) (hd:oe.data=.fields vs) (hsz:1<vs.size)
  (h:∀(h':Xa) (T:Ca) (j oT:Obj) vs' ts ,(∀b o,b∉Ef (env::outer)->b≠e->s.heap.get? b=la o->h'.get? b=la o)->(∀b o,b∈Ef (env::outer)->b≠e->s.heap.get? b=la o->∃sl,h'.get? b=la { o with slots:=sl })->
   s.heap.objs.size<=T->h'.get? e=la j->j.cls=oe.cls->j.dict=oe.dict->j.data=.fields vs'->vs'[1]?=la (.ref T)->h'.get? T=la oT->oT.data=.fields ts->ts[3]?=la .none->Q () { s with heap:=h' }) :
  wpAny M A (do let a <- frameOf env;let y <- entryPlaceOf L za;let b <- EntryCells.newEntry f a .none (Rc L) .none y;setField (.ref e) 1 b) (λ_ s'=>wpAny M A (cv (.ref e) Aa) Q E s') E s:=by
 have R:e∉Ef (env::outer):=λm=>by
  rcases hl.mem m with⟨-,o,ho,no⟩
  simp_all
 refine Ab (wpAny_frameOf_fun xa hl hf λF fs=>Ab (wpAny_entryPlaceOf λy O=>Ab (xh ?_ (O.sizeOk5 _ _ _ _ _))));have n3:3<([f,.ref L,.none,Rc L,.none]++(if y.isEmpty then Kb 6 ke else y)).toArray.size:=by
  simp_all
 generalize ja:(⟨.type "traceback",Aa,.fields ([f,.ref L,.none,Rc L,.none]++(if y.isEmpty then Kb 6 ke else y)).toArray,#[]⟩:Obj)=ot
 have Y:ot.data=.fields ([f,.ref L,.none,Rc L,.none]++(if y.isEmpty then Kb 6 ke else y)).toArray:=by lia
 have Z:F.get? e=la oe:=by rw[fs.2.1 e R,he]
 have new:=Fe F (eI Y);have ne:F.objs.size≠e:=λz=>Hh _ (z ▸ Kc Z);obtain⟨⟨o2,g2,c2,d2,v2⟩,r2⟩:=Bx 1 (.ref F.objs.size) (Fc ot Z) hd;have J:=(r2 _ ne).trans new;obtain⟨⟨o3,g3,c3,d3,v3⟩,r3⟩:=Bx 3 .none J Y;refine Np (Fc ot Z) hd hsz (Ab (gi g2 v2 (cA hsz) ?_));rw[if_pos (by rfl)]
 refine Np J Y n3 ?_;have keep:∀b o,b≠e->F.get? b=la o->_:=λb o hb g=>(r3 b (re (Kc g))).trans ((r2 b hb).trans (Fc ot g));refine h _ F.objs.size o2 o3 _ _ (λb o hb I g=>keep b o I (by rw[fs.2.1 b hb,g])) (λb o _ I g=>?_) (Yp fs.1.symm) ((r3 e (Qa ne)).trans g2) c2 d2 v2 (cA hsz) g3 v3 (cA n3)
 rcases fs.2.2 b o g with⟨sl,q⟩
 simp_all

def Oa.left  {J: St}{ch:List Ca}(I:Oa X pins J H s)(hH:∀b∈ch,H b=Aa)(hlo:∀b∈ch,X.s₀.heap.objs.size<=b)(hd:∀b∈ch,∃o vs,s.heap.get? b=la o/\o.data=.fields vs)(R:∀b∈ch,∀p∈X.pn++pins,p.1≠b)
  (k:∀b o,b∉Ef X.stack->b∉ch->s.heap.get? b=la o->h'.get? b=la o) (Z:∀b o,b∈Ef X.stack->b∉ch->s.heap.get? b=la o->∃t,h'.get? b=la { o with slots:=t }):Oa X pins J H { s with heap:=h' }:=by
 have u:Un (Ef X.stack) ch H H s.heap h':=by
  refine⟨λb o e _ j y=>k b o j y e,λb o e _ j y=>Z b o j y e,λ_ _ _ n _=>n,λb o e y=>?_,λ_ _ e=>e,λ_ _ _ e=>e,λb ps e=>⟨#[],by rw[e];simp⟩⟩
  grind
 have tr:∀b u,H b=la u->b∉Ef X.stack/\b∉ch:=λb u e=>⟨λz=>(by rw[I.stkFree b z]at e;cases e),λz=>(by simp_all)⟩
 have F:Xd X.prog X.w H h':=λa o e=>(I.hok a o e).stay (λb v j q=>by
  grind) (λ_ q=>q) λ_ _ q=>q
 refine I.call (g':=s.gens) (d':=s.drawn) (t':=s.toks) u F I.bare λb j=>⟨.inr (hlo b j),λz=>?_,λx c e z=>?_,R b j⟩
 ·obtain⟨o,vs,g,d⟩:=hd b j;obtain⟨m,⟨O,_,_,Y,r⟩,_⟩:=I.loc
  lia
 ·obtain⟨o,vs,g,d⟩:=hd b j;obtain⟨v,O,Y,y⟩:=I.cell x c e
  lia
def uN  {σ: St}(I:Oa X [] σ H s)(F:X.stack=X.env::X.outer)(hf:X.env.frame=la X.env.locals)
  (l:Lies X.s₀.heap.objs.size X.pn H s.heap ea cls dx) (q:∀h',Oa X [] σ H { s with heap:=h' }->Lies X.s₀.heap.objs.size X.pn H h' ea cls dx->Q () { s with heap:=h' }):wpAny M X.A (gv (.ref ea) X.env) (λ_ s'=>wpAny M X.A (cv (.ref ea) Aa) Q E s') E s:=by
 obtain⟨oe,vs,he,y,za,hd,ht⟩:=l.ob;have ja:X.A.frames=la (X.env::X.outer):=by rw[<- F];exact I.ok.frames
 have hl:s.heap.FunFrames X.base (X.env::X.outer):=by rw[<- F];exact I.stack
 have pe:∀p∈X.pn++[],p.1≠ea:=λp hp=>l.pn p (by simp_all)
 unfold gv;simp only[hf];rcases ht with h1|⟨T,oT,ts,h1,hTe,hT,hdT,h3,nT,lT,pT⟩
 ·refine Ab (gi he hd h1 ?_);rw[if_neg (by decide)]
  refine yD ja hl hf he hd (Yb.mp h1).1 λh' T' Z xa Y R k sl O g1 c1 c2 c3 c4 g2 c5 c6=>?_;rw[<- F]at k sl;have J:Oa X [] σ H { s with heap:=h' }:=I.left (ch:=[ea]) (λb f=>by rw[bc.mp f];exact l.hn) (λb f=>by rw[bc.mp f];exact l.le) (λb f=>by simp_all) (λb f=>by grind)
   (λb o f y e=>k b o f (λz=>y (by simp[z])) e) λb o f y e=>sl b o f (λz=>y (by simp[z])) e
  refine q h' J ⟨⟨Z,Y,g1,c1.trans y,c2.trans za,c3,.inr ⟨T',xa,R,c4,?_,g2,c5,c6,I.hok.fresh O,Fb I.sz O,λp hp z=>?_⟩⟩,l.hn,l.le,l.pn⟩
  ·exact λz=>absurd (Kc he) (Qd.mpr (z ▸ O))
  ·exact absurd (Kc (I.pin p (by simp_all)).1) (Qd.mpr (z ▸ O))
 ·have ya:(ke==Rc X.env.locals)=ua:=rfl;refine Ab (gi he hd h1 ?_);rw[if_pos (by rfl)]
  refine Ab (gi hT hdT h3 ?_);rw[ya,if_neg Md];refine Ab (Np hT hdT (Yb.mp h3).1 ?_);have j:=(Bx 3 .none hT hdT).2;have I1:Oa X [] σ H { s with heap:=s.heap.update T (Oi (·.setIfInBounds 3 ke)) }:=I.left (ch:=[T]) (λb f=>by simp_all) (λb f=>by simp_all) (λb f=>by simp_all) (λb f p hp=>by grind)
   (λb o _ y e=>(j b (by simp_all)).trans e) λb o _ y e=>⟨o.slots,(j b (by simp_all)).trans e⟩
  have va:=(j ea (Qa hTe)).trans he;have wa:(s.heap.update T (Oi (·.setIfInBounds 3 ke))).FunFrames X.base (X.env::X.outer):=by rw[<- F];exact I1.stack
  refine yD (s:={ s with heap:=s.heap.update T (Oi (·.setIfInBounds 3 ke)) }) ja wa hf va hd (Yb.mp h1).1 λh' T' Z xa Y R k sl O g1 c1 c2 c3 c4 g2 c5 c6=>?_
  rw[<- F]at k sl;have J:Oa X [] σ H { s with heap:=h' }:=Oa.left (s:={ s with heap:=s.heap.update T (Oi (·.setIfInBounds 3 ke)) }) (ch:=[ea]) I1 (λb f=>by rw[bc.mp f];exact l.hn) (λb f=>by rw[bc.mp f];exact l.le) (λb f=>by simp_all) (λb f=>by grind)
   (λb o f y e=>k b o f (λz=>y (by simp[z])) e) λb o f y e=>sl b o f (λz=>y (by simp[z])) e
  refine q h' J ⟨⟨Z,Y,g1,c1.trans y,c2.trans za,c3,.inr ⟨T',xa,R,c4,?_,g2,c5,c6,I1.hok.fresh O,Fb I1.sz O,λp hp z=>?_⟩⟩,l.hn,l.le,l.pn⟩
  ·exact λz=>absurd (Kc va) (Qd.mpr (z ▸ O))
  ·exact absurd (Kc (I1.pin p (by simp_all)).1) (Qd.mpr (z ▸ O))
def Uf  (P:Tb)(w:Cb):Wm:=λf H s E e j=>∃(q:Ca) (H':Hp) (cls:Da) (dx:Option Ca),e=.ref q/\j.os=s.os/\we j.gens/\Un (Ef f) [] H H' s.heap j.heap/\Xd P w H' j.heap/\Lies s.heap.objs.size [] H' j.heap q cls dx/\E cls dx H'

def Uf.back  {Z: St}(I:Oa X pins Z H s)(h:Uf X.prog X.w X.stack H s E e Y):∃(y:Ca) (j:Hp) (cls:Da) (F:Option Ca),e=.ref y/\Oa X pins Z j Y/\Lies X.s₀.heap.objs.size X.pn j Y.heap y cls F/\E cls F j:=by
 obtain⟨y,j,cls,F,rfl,os,bare,un,J,l,q⟩:=h;have R:∀b,s.heap.objs.size<=b->∀p∈X.pn,p.1≠b:=λb hb p hp z=>absurd (Kc (I.pin p (Cf _ hp)).1) (Qd.mpr (z ▸ hb));refine⟨y,j,cls,F,rfl,I.call' (ch:=[]) os un J bare (λb z=>absurd z (by simp)),⟨?_,l.hn,Fb I.sz l.le,R y l.le⟩,q⟩
 obtain⟨oe,vs,he,hc,O,hd,ht⟩:=l.ob;refine⟨oe,vs,he,hc,O,hd,ht.imp id ?_⟩;rintro⟨T,oT,ts,h1,h2,h3,h4,h5,h6,h7,_⟩;exact⟨T,oT,ts,h1,h2,h3,h4,h5,h6,Fb I.sz h7,R T h7⟩
end L2

namespace L2
open PySem PySem.Spec PyProof.Rows PySem.W
open Builtin Builtin.ObjectAttr

section
variable {prog:Tb}{w:Cb}{A:Ac}{E:Da->Ia->Prop}{h:Xa}{g:Array GenState}{d:Drawn}{t:Nat}{os:li}
variable {C N D x:Ca}{bmB:List Da}{B newId sa owner:String}{mN mD mA:Str->Option Da}{name:Str}{v:Da}
structure Reads (B:String)(bmB:List Da):Prop where
 ga:Slot B "__getattribute__" "BaseException.__getattribute__"
 mro:mroOf (.type B)=pure bmB
 no:typeLookup (.type B) "__getattr__" = pure Aa
 has:bmB.contains (.type "BaseException")=ma
end




end L2

namespace L2
open PySem PySem.Spec PyProof.Rows PySem.W


def XL  (M:Model)(A:Ac)(env:Env)(R:Da->Ia->Prop):Da->Ia->Prop:=λe q=>wpAny M A (gv e env) (λ_ f=>wpAny M A (cv e Aa) (λ_ j=>R e j) R f) R q
def UK      : wj M A env (XL M A env R):=wj.looking

abbrev ly  (P:Tb)(w:Cb)(K:Lb)(mg:Str->Option Da)(base:Xa)(N:List Str)(j:Str)(scope:Od)(f:Ca)(q:Da)(A:Ac)(outer:List Env)(s:Ia)(H:Hp)(E:XK):Cx:=
 (cxOf (Uf P w) P w K mg base N j scope f q A outer s H E).wish (XL (Ja P w) (A.deeper (ue j scope s.heap.objs.size f q)) (ue j scope s.heap.objs.size f q) λe y=>Uf P w outer H s E e y)
def Fun.okX  {K: Lb}{st:Pa}(F:Fun K x y st f fd)(S:FnScope N ps (uf st))(len:∀vs H Q E,sp vs H Q E->vs.length=ps.length)
  (J:∀j (A:Ac) outer (s:Ia) H (vs:List V) Q E ,Room k (A.deeper (ue y (uf st) s.heap.objs.size f j))->sp vs H Q E->
   ∃t,xf (ly P w K mg base N y (uf st) f j A outer s H E) (Df st) t/\t { nx:=λ_ Z=>Q .non Z,rt:=Q } (start N vs) H):FnOk P w K mg base (Uf P w) (k+1) f fd ps sp:=by
 obtain⟨oc,od,kV,xa,pm,an,j,ct,za,rfl,lk,R⟩:=F.ex;refine qL lk R S len λA outer s H vs Q E hr Y=>?_;obtain⟨t,h,q⟩:=J j A outer s H vs Q E hr Y;refine⟨t,λO s1 σ H1 D I hw=>?_,q⟩;refine ng (h O s1 σ H1 D (I.wish _) hw) (λ_ _ q=>q.unwish) λe s' z=>?_;show wpAny _ _ (leaving _ e) _ _ s';unfold leaving;exact Ab z
def Uf.out1  {K: Lb}{Y:St} 
  (I:Oa (ly P w K mg base N j scope f F A outer s H E) pins Y H' y) (l:Lies s.heap.objs.size [] H' y.heap O cls R) (q:E cls R H'):(ly P w K mg base N j scope f F A outer s H E).xe (.ref O) y:=by
 have I0:Oa (cxOf (Uf P w) P w K mg base N j scope f F A outer s H E) [] Y H' y:=I.unwish.pins_of λp Z=>absurd Z (by simp)
 refine uN (X:=cxOf (Uf P w) P w K mg base N j scope f F A outer s H E) (E:=λe y=>Uf P w outer H s E e y) I0 rfl rfl l λh' J l'=>?_;exact⟨O,H',cls,R,rfl,J.os,J.bare,J.base,J.hok,l',q⟩
end L2

namespace L2
open PySem PySem.Spec PyProof.Rows PySem.W
open Builtin Builtin.ObjectAttr
noncomputable abbrev LH  : List Da:=[.type "ValueError",.type "Exception",.type "BaseException",.type "object"]

noncomputable def offN  : List Str:=["__setattr__", "__getattribute__", "__getattr__", "__class__", "word", "at", "row"]
structure XBase (K:Frag)(mg:Str->Option Da)(D:Ca)(mD:Str->Option Da):Prop where
 m:mg "PlanError" = la (.ref D)
 kp:keepIn K (.ref D)=ma
 lk:∃q ND bs hd sn sub ab col dd k0 k1 k2 k3 k5 nid,K.lookup D=la (excClassObj "PlanError" q D ND bs LH hd sn sub ab col dd k0 k1 k2 k3 k5 nid)/\∀h,K.In h->h.Ns ND mD
 no:∀y∈offN,mD y=Aa
 ni:mD "__init__" = Aa
structure XCls (K:Frag)(mg:Str->Option Da)(x:Str)(fs:List Str)(C:Ca):Prop where
 m:mg x=la (.ref C)
 kp:keepIn K (.ref C)=ma
 ex:∃(D N fI:Ca) (mN mD:Str->Option Da),XBase K mg D mD/\(∃q bs sn sub ab col dd k0 k1 k2 k3 k5,K.lookup C=la (excClassObj x q C N bs (.ref D::LH) ma sn sub ab col dd k0 k1 k2 k3 k5 "ValueError.__new__"))/\(∀h,K.In h->h.Ns N mN)/\(∀y∈offN,mN y=Aa)/\
  mN "__init__" = la (.ref fI)/\∃(st:Pa) (qual:Str) (fd:om),L2.Fun K "__init__" qual st fI fd/\(∃od osl,K.lookup fI=la ⟨.type "function",od,.func fd,osl⟩)/\FnScope ("self" :: fs) ("self" :: fs) (uf st)/\Binds K fd ("self" :: fs) []/\(∀y∈(("self" : Str)::fs),(uf st).names.lookup y=la .local)/\
  ((∃f p1 p2 p3 pos,fs=[f]/\Df st=[.Assign [.Attribute (.Name "self" p1) f p2] (.Name f p3) pos])\/∃f f2 p1 p2 p3 pos q1 q2 q3 qos,fs=[f,f2]/\f≠f2/\Df st=[.Assign [.Attribute (.Name "self" p1) f p2] (.Name f p3) pos,.Assign [.Attribute (.Name "self" q1) f2 q2] (.Name f2 q3) qos])



end L2

namespace L2
open PySem PySem.Spec PyProof.Rows

end L2

namespace L2
open PySem PySem.Spec PyProof.Rows

end L2

namespace L2
open PySem PySem.Spec PyProof.Rows PySem.W

def kL  (o:Obj)(q:Str):Prop:=∃f t,o.data=.fields f/\f[1]?=la (.str q t)
noncomputable abbrev frzC  (o:Obj):HO:=.frz o (.ext λ_=>True)
def IL  (H:Hp)(P:Ca)(f:Pos)(q:Str):Prop:=
 H P=la (.tbl #[])\/∃c j,H P=la (.tbl #[Rc f.line,Rc f.col,.ref c])/\H c=la (frzC j)/\kL j q
def BmAt  (mg:Str->Option Da)(base:Xa):Prop:=∃j f,mg "__builtins__" = la (.ref j)/\j≠rm/\base.get? j=la f/\f.cls=.type "module" /\ f.dict=la rm/\f.data=.plain

def Zr  (tb:List Ca)(H:Hp):Prop:=∀b,if b∈tb then H b=la (.tbl #[]) else H b=Aa\/∃o f,H b=la (.frz o (.lst f))
def law_callT    {K:Lb}{CX:Wm}{k:Nat}{x:Str}{sp:Sp} 
  (yb:(K.all λp=>p.2.cls != .type "list")=ma) (ya:∀b∈tb,f.heap.get? b=la (tabObj #[])/\isCodeTable f.heap b/\K.lookup b=Aa) (jb:BmAt mg f.heap)
  (KX:K.In f.heap) (Z:∃o,K.lookup jf=la o/\o.cls=.type "dict") (Y:f.heap.Ns Ue mg) (hb:f.heap.Ns rm mb) (wa:∀x:Str,x ≠ "__name__" -> mb x=Pi x) (va:f.heap.NoLimit) (hg:f.gens=#[])
  (ha:f.heap.get? a=la { cls:=.type "list",data:=.seq vs.toArray }) (hi:Nb vs ns) (hl:ns.length<=Za) (hr:Room k Kg)
  (F:∀base ,K.In base->base.Ns Ue mg->BmAt mg base->FnOk P w K mg base CX k fa fd [x] sp) (R:∀(s:Ia) u ,Lg s fd ⟨[u],[]⟩ [(x,u)])
  (wb:∀H (o:Obj),Zr tb H->H a=la (.frz o (.lst (ns.map V.int)))->sp [.ref a] H (λv _=>v=.bl ma) λ_ _ _=>False)
  (xb:∀H e O,CX [] H f (λ_ _ _=>False) e O->False) :
  codeAny (Ja P w) Kg (.call (.ref fa) ⟨[.ref a],[]⟩) (λr O=>r=.ok (.ret (.bool ma))/\OldK f.heap O.heap/\O.os=f.os/\we O.gens) f:=by
 have ka:K.lookup a=Aa:=by
  cases hk:K.lookup a with
  |none=>rfl
  |some o=>
   have e:=KX a o hk;rw[ha]at e;cases e;have:=jl.mp yb (a,_) (mem_of_lookupK hk)
   lia
 let oa:Obj:={ cls:=.type "list",data:=.seq vs.toArray }
 have kb:a∉tb:=λz=>by
  simp_all
 obtain⟨H,hH⟩:∃H:Hp,H=λb=>if b∈tb then la (.tbl #[]) else if b=a then la (.frz oa (.lst (ns.map V.int))) else Aa:=⟨_,rfl⟩
 have H1:∀{b},b∈tb->H b=la (.tbl #[]):=λhb=>by lia
 have H2:H a=la (.frz oa (.lst (ns.map V.int))):=by
  lia
 have H3:∀{b},b∉tb->b≠a->H b=Aa:=λ{b} j J=>by
  lia
 clear hH;have za:∀{b:Ca} {o:Obj},f.heap.get? b=la o->o.cls≠.none->(∀xs n,o.data≠.seq xs n)->H b=Aa:=λ{b o} e j J=>by
  refine H3 (λz=>?_) λz=>?_
  ·grind
  grind
 have zb:Xd P w H f.heap:=λb u e=>by
  by_cases j:b∈tb
  ·rw[H1 j]at e;cases e;exact(ya b j).1
  ·by_cases J:b=a
   ·subst J;rw[H2]at e;cases e;exact⟨ha,by simp_all,vs,_,mE hi,ha⟩
   simp_all
 have y:∀{b:Ca} {m:Str->Option Da},f.heap.Ns b m->(hidT f.heap H).Ns b m:=λ{b m} ⟨o,es,ep,e,d,r⟩=>by
  refine⟨o,es,ep,Vw e (H3 (λz=>?_) λz=>?_),d,r⟩
  ·grind
  lia
 have ja:K.In (hidT f.heap H):=λb o e=>Vw (KX b o e) (H3 (λz=>by grind) λz=>by lia)
 have hM:Mod K mg (hidT f.heap H):=⟨ja,y Y,⟨mb,y hb,wa⟩,let ⟨mc,j,J⟩:=va;⟨mc,y j,J⟩,Z⟩
 have vb:BmAt mg (hidT f.heap H):=by
  obtain⟨bm,ob,b1,b2,b3,b4,b5,b6⟩:=jb;exact⟨bm,ob,b1,b2,Vw b3 (za b3 (by lia) (by lia)),b4,b5,b6⟩
 have e0:Env0 P w K mg (hidT f.heap H) Kg [] f H:=⟨rfl,hM,λb o e=>cP e,Yp (VR _ _),trivial,λb hb=>(nomatch hb),zb,.of_eq hg⟩;have only:Zr tb H:=λb=>by
  grind
 refine au ((F _ ja (y Y) vb).run Kg [] f H ⟨[.ref a],[]⟩ [.ref a] [.ref a] _ _ hr e0 (R f (.ref a)) (.cons rfl .nil) (wb H oa only H2)) λr O h=>?_
 match r,h with
 |.error e,h=>exact(xb H e O h).elim
 |.ok (.ret u),h=>
  obtain⟨v,H',os,bare,un,I,r',q⟩:=h;have q':v=.bl ma:=q;subst q';obtain rfl:u=Dy ma:=r';refine⟨rfl,⟨λb o e=>?_,λb o e=>un.there b o e (by simp)⟩,os,bare⟩
  by_cases j:b∈tb
  ·obtain⟨e1,ht,_⟩:=ya b j;rw[e]at e1;cases e1;obtain⟨xa,e2⟩:=un.tbls b _ (H1 j);exact .inr (.inl ⟨ht,rfl,#[],xa,rfl,I b _ e2⟩)
  ·by_cases J:b=a
   ·subst J;obtain⟨e2,_⟩:=I b _ (un.frzs b _ _ H2);rw[ha]at e;cases e;exact .inl e2
   ·exact .inl (un.keep b o e (H3 j J) (by intro z;exact(nomatch z)) (by simp))
def walk_ofT  {l:Dz}{K:Vb->Lb}{CX:Cb->Wm}{sp:Cb->Sp}{tbs:List (Str×Ca×Ca)}
  (xa:∀w:Cb,((K w.params).all λp=>p.2.cls != .type "list")=ma) (ka:∀(w:Cb),∀t∈tbs,(∃dr,(recsOf q).find? (λe=>e.name==t.1)=la dr)/\tabIn (K w.params) t.1=la (t.2.1,t.2.2)/\(K w.params).lookup t.2.2=Aa)
  (hn:l.most=la n) (va:n<=Za) (ya:d.params.defaults=[]) (hr:Room k Kg)
  (hY:∀(w:Cb) (h:Xa),YP w h->(K w.params).In h) (ja:∀w:Cb,∃o,(K w.params).lookup jf=la o/\o.cls=.type "dict")
  (F:∀(w:Cb) mg J (h:Xa),(K w.params).In h->h.Ns Ue mg->mg d.name=la (.ref J)->
   ∃R ,(∀(s:Ia) u ,Lg s R ⟨[u],[]⟩ [(x,u)])/\
    ∀base ,(K w.params).In base->base.Ns Ue mg->BmAt mg base->FnOk l.prog w (K w.params) mg base (CX w) k J R [x] (sp w))
  (za:∀(w:Cb) H (o:Obj) a (ns:List Int),ns.length<=n->Zr (tbs.map (·.2.2)) H->H a=la (.frz o (.lst (ns.map V.int)))->sp w [.ref a] H (λv _=>v=.bl ma) λ_ _ _=>False)
  (O:∀(w:Cb) H (s:Ia) (e:Da) Z ,CX w [] H s (λ_ _ _=>False) e Z->False) :
  RH q loose XP YP l.row.toRowW d [] (λf vs=>Cy f vs):=by
 refine Att.attach_call hn ya λw ha I mg mb J o pm cd xb a vs ns G Y ho hd zb wa z y j hg=>?_;have kx:=hY w _ Y;obtain⟨R,hb,hF⟩:=F w mg J _ kx G.T.g wa;refine law_callT (tb:=tbs.map (·.2.2)) (xa w) (λb hb=>?_) ?_ kx (ja w) G.T.g G.T.b G.T.builtins G.T.nolimit hg z y (Fb j va) hr hF hb (λH o hO hS=>za w H o a ns j hO hS) λH e Z=>O w H I e Z
 ·obtain⟨t,ht,rfl⟩:=Ea.mp hb;obtain⟨⟨dr,h1⟩,h2,h3⟩:=ka w t ht;obtain⟨c1,c2⟩:=tab_of G.T kx h1 h2;exact⟨c2,(c1.tab c2).isCodeTable,h3⟩
 ·obtain⟨bm,ob,b1,b2,b3,b4,b5,b6⟩:=G.T.bmain;exact⟨bm,ob,b1,b2,b3,b4,b5,b6⟩
end L2

namespace L2
open PySem PySem.Spec PyProof.Rows
open Sem (wp)
open AutoSeq1 (wpAny_loadPart')

def LU  {s: Ia}(hL:s.heap.IsList l items)
  (h:∀h',IsEnum h' (s.heap.objs.size+1) s.heap.objs.size 0 .none->h'.IsListIter s.heap.objs.size l 0->(∀b o,s.heap.get? b=la o->h'.get? b=la o)->Q (.ref (s.heap.objs.size+1)) { s with heap:=h' }) :
  wpAny (Ja prog w) A (call (.type "enumerate") [.ref l]) Q E s:=by
 have j:∀(p:Xa) (n:Nat) (o:Obj),p.objs.size=n->o.isFreed=ua->(p.push o).get? n=la o:=λp n o e f=>by
  subst e;exact Fe p f
 have sz:=λo=>Tp s.heap o;refine callType_new F.called_enumerate (by decide) (WH _) (zI _) (λy=>FI y _) yI (JG (.ref l) _) ⟨λ_ _ _ _ _ q=>Ly hL q,?_⟩
 rw[sz];have z:=j _ _ ⟨.type "enumerate",Aa,.fields #[.none,.bool ua,.ref s.heap.objs.size,Rc 0,.none,.none],#[]⟩ (sz ⟨.type "list_iterator",Aa,.fields #[.ref l,.int 0 0],#[]⟩) rfl;exact⟨⟨_,z,rfl⟩,h _ z ⟨_,Fc _ (j _ _ _ rfl rfl),rfl,rfl⟩ λb o x=>Fc _ (Fc _ x)⟩

def IJ  (K:Lb)(a:Ca):It:=
 ⟨λi H=>∃f x,Nd K H a f/\f[i]?=la x,λi H y j=>∃x p,(∀f,Nd K H a f->f[i]?=la x)/\y=.ref p/\H p=Aa/\j=upd H p (.tup [.int (i:Int),x]),λi H=>∃f,Nd K H a f/\f.length=i⟩
def RT    {K:Lb} a e it (va:e≠it)(jb:a≠e)(za:a≠it) :
  Turn P w K (.Tuple zb x1 pos) (IJ K a) [e,it] e (λi h=>(∃q,IsEnum h e it (i:Int) q)/\h.IsListIter it a i) where
 mem:=by simp
 obj:=λi h R b J=>by
  obtain⟨⟨q,O⟩,o,ho,c,d⟩:=R
  grind
 keep:=λi h h' R k=>by
  obtain⟨⟨q,O⟩,o,ho,r⟩:=R;exact⟨⟨q,k e (by simp) _ O⟩,o,k it (by simp) _ ho,r⟩
 item:=by
  intro X hP hw hK hc i j s σ H E I Z R hg;subst hP hw hK;obtain⟨xs,x,hq,hx⟩:=hg;obtain⟨z,rv,p,hz⟩:=I.list hq;obtain⟨u,hu,ru⟩:=rv.get hx;obtain⟨⟨q,O⟩,hit⟩:=R;have xb:i<z.toArray.size:=by
   grind
  refine UH (aJ (A:=X.A.in1) (I.ok.hd hc) it a za z.toArray) O ⟨hit,p.isList⟩ xb va (by grind) λx' h' F hP ho ka hT vb hk=>?_
  refine⟨_,rfl,oJ ho λh2 wa ja=>?_⟩;have ex:x'=u:=by
   simp_all
  subst ex;have ha:H s.heap.objs.size=Aa:=I.hok.fresh (Db _);have ya:e≠s.heap.objs.size:=re (Kc O);have xa:it≠s.heap.objs.size:=by obtain⟨o,Y,_⟩:=hit;exact re (Kc Y)
  have I1:Oa X j σ (upd H s.heap.objs.size (.tup [.int (i:Int),x])) { s with heap:=s.heap.push { cls:=.type "tuple",data:=.seq #[.int i F,x'] },toks:=F+1 }:=by
   refine I.laid (λb o y=>Fc _ y) (Db _) ⟨by show 2<=Za;decide,[.int i F,x'],.cons ⟨F,rfl⟩ (.cons ru .nil),TupD.new _ _⟩
  have fpU:∀b,b≠s.heap.objs.size->FpOk X j H b->FpOk X j (upd H s.heap.objs.size (.tup [.int (i:Int),x])) b:=λb J f=>⟨by rw[Pc J];exact f.1,f.2⟩
  have kk:∀b o,b≠e->b≠it->(s.heap.push { cls:=.type "tuple",data:=.seq #[.int i F,x'] }).get? b=la o->h2.get? b=la o:=λb o be bi y=>by
   have step:h'.get? b=la o:=by
    by_cases J:b=s.heap.objs.size
    ·subst J;rw[hT];exact(Fe s.heap (o:={ cls:=.type "tuple",data:=.seq #[.int i F,x'] }) rfl).symm.trans y
    ·rw[Jz _ _ _ J]at y
     simp_all
   exact(ja.2 b be).trans step
  have I2:Oa X j σ (upd H s.heap.objs.size (.tup [.int (i:Int),x])) { s with heap:=h2,toks:=F+1 }:=
   EC (s:={ s with heap:=s.heap.push { cls:=.type "tuple",data:=.seq #[.int i F,x'] },toks:=F+1 }) (h':=h2) (t':=F+1) (e:=e) (it:=it) I1 kk (fpU e ya (Z e (by simp))) (fpU it xa (Z it (by simp)))
  refine⟨.ref s.heap.objs.size,_,I2,rfl,⟨x,_,λys hy=>by rw[I.list_inj hy hq];exact hx,rfl,ha,rfl⟩,⟨⟨_,by simpa using wa⟩,?_⟩,λb J=>?_⟩
  ·obtain⟨o,Y,r⟩:=ka.1;exact⟨o,(ja.2 it (Qa va)).trans Y,r⟩
  ·simp only[Ic,Je,or_false]at J;rcases J with rfl|rfl
   ·rw[Pc ya];exact(Z _ (by simp)).1
   ·rw[Pc xa];exact(Z _ (by simp)).1
 done:=by
  intro X hP hw hK hc i j s σ H E I Z R hg;subst hP hw hK;obtain⟨xs,hq,hx⟩:=hg;obtain⟨z,rv,p,hz⟩:=I.list hq;obtain⟨⟨q,O⟩,hit⟩:=R;have hl:z.toArray.size=i:=by rw[Bd,<- rv.length];exact hx
  refine wI (aJ (A:=X.A.in1) (I.ok.hd hc) it a za z.toArray) O ⟨by lia,p.isList⟩ λh' eb=>⟨rfl,?_⟩
  obtain⟨f0,f1,f2,f3,f4,f5⟩:=Z it (by simp)
  exact I.turned (t':=s.toks) (λb o J y=>eb b o J y) f0 f1 f3 f4 f5
 self:=λA i s Q E R h=>by
  obtain⟨⟨q,O⟩,_⟩:=R;exact Pu O h
section
variable {X:Cx}
def JN  (K:Lb)(y:TA):TI:=λq H R=>y q H λz f=>∃a,z=[.ref a]/\(((∃j,f a=la (.tup j))/\R (JJ K a) f)\/((∃j,Nd K f a j)/\R (IJ K a) f))
def vS {l:La}{ta:TA}{p F J:Pos}{Y:List La}{x1}(hg:Gl X "enumerate")(hm:X.mg "enumerate" = Aa)(ha:PA X [l] ta)(hs:md [l] X.env=[(ua,Ib l X.env)]:=by rfl) :
  PI X (.Tuple Y x1 J) (.Call (.Name "enumerate" p) [l] [] F) (JN X.K ta):=by
 intro y s σ H R I h;refine Call_ (Rk I hg hm boot_enumerate (dq (Pb (ha F y s σ H _ I h) λus s1 ⟨vs,H1,j,r1,q1⟩=>?_) hs rfl));obtain⟨a,e,q⟩:=q1;subst e;obtain⟨u,rfl,rx⟩:=Ng r1;cases rx;have fp:∀b∈[s1.heap.objs.size+1,s1.heap.objs.size],FpOk X y H1 b:=λb hb=>by
  simp only[Ic,Je,or_false]at hb;rcases hb with rfl|rfl
  ·exact j.fpOk (fu _) (j.hok.fresh (fu _))
  ·exact j.fpOk (Db _) (j.hok.fresh (Db _))
 rcases q with⟨⟨xs,hq⟩,q⟩|⟨⟨xs,hq⟩,q⟩
 ·obtain⟨z,rv,t,hz⟩:=j.tuple (td.of hq);have f:a<s1.heap.objs.size:=by obtain⟨o,Z,_⟩:=t;exact Kc Z
  exact uU (items:=z.toArray) t λh' O hit hk=>Pu O ⟨_,_,_,_,H1,rfl,j.kept (t':=s1.toks) hk,MS a _ _ (Nat.succ_ne_self _) (re (Cz f)) (re f),⟨⟨_,O⟩,hit⟩,fp,q⟩
 ·obtain⟨z,rv,t,hz⟩:=j.list hq;have f:a<s1.heap.objs.size:=by obtain⟨o,Z,_⟩:=t.isList;exact Kc Z
  exact LU (items:=z.toArray) t.isList λh' O hit hk=>Pu O ⟨_,_,_,_,H1,rfl,j.kept (t':=s1.toks) hk,RT a _ _ (Nat.succ_ne_self _) (re (Cz f)) (re f),⟨⟨_,O⟩,hit⟩,fp,q⟩
end
end L2

namespace L2
open PySem PySem.Spec PyProof.Rows

def jT  : Cc X (ee .LtE) (λx y H Q=>∃i j,x=.str i/\y=.str j/\Q (.bl (!decide (j.cps.toList<i.cps.toList))) H):=by
 intro f s O H x y v u Q I F z h;obtain⟨i,j,rfl,rfl,q⟩:=h;obtain⟨t,rfl⟩:=F;obtain⟨J,rfl⟩:=z;exact PySem.P.le_str (Sd I q rfl)
def vU  : Ye X (.type "int") (λxs H Q=>∃z n,xs=[.str z]/\PySem.intText? z=la n/\z.length<=640/\Q (.int n) H):=by
 intro f s J H xs O Q I r h;obtain⟨z,n,rfl,F,j,q⟩:=h;obtain⟨u,rfl,y⟩:=Ng r;obtain⟨t,rfl⟩:=y;exact PySem.W.KIN.call_text F j ⟨.int n,H,I.tok _,⟨_,rfl⟩,q⟩
end L2

namespace L2
open PySem PySem.Spec PyProof.Rows Builtin Builtin.Str

end L2

namespace L2
open PySem PySem.Spec PyProof.Rows
section
variable {prog:Tb}{w:Cb}{K:Type}[DecidableEq K]{knd:KeyKind prog w K}{A:Ac}{E:Da->Ia->Prop}{s:Ia}
end


def Ws  (x:je P w H h a (.frz o (.dK kvs)))(hd:o.data=.dict es ep):es.size=kvs.length/\∃vs,KV kvs vs/\h.DictAt (Yd P w) a vs ep:=by
 obtain⟨j,_,_,vs,r,R,O,J,y,I,q,z,f,F⟩:=x;rw[j]at y;cases y;rw[hd]at q;cases q;have e:=f.length;rw[Al]at e;exact⟨e.trans r.length.symm,vs,r,o,es,j,I,hd,z,f,F⟩
theorem KV.at    {vs:List (κ×Da)}(r:KV kvs vs):∀{i:Nat} {p },kvs[i]?=la p->∃v,vs[i]?=la (p.1,v)/\RelV p.2 v:=by
 induction r with
 |nil=>simp_all
 |@cons p q J F h t y=>
  intro i I e;cases i with
  |zero=>simp at e;subst e;exact⟨q.2,by rw[h.1];rfl,h.2⟩
  |succ j=>simp at e;simpa using y e
noncomputable def fA  (a:Ca)(o:Obj):It:=
 ⟨λi H=>∃f,H a=la (.frz o (.dK f))/\i<f.length,λi H x j=>j=H/\∃f k,H a=la (.frz o (.dK f))/\f[i]?=la (k,x),λi H=>∃f,H a=la (.frz o (.dK f))/\f.length<=i⟩
def gA  (a:Ca)(o:Obj):It:=
 ⟨λi H=>∃f,H a=la (.frz o (.dK f))/\i<f.length,λi H y j=>∃f k x p,H a=la (.frz o (.dK f))/\f[i]?=la (k,x)/\y=.ref p/\H p=Aa/\j=upd H p (.tup [kV k,x]),λi H=>∃f,H a=la (.frz o (.dK f))/\f.length<=i⟩
def PQ  {K:Lb} a it (o:Obj)(es:Array vj) ep (hd:o.data=.dict es ep) :
  Turn P w K tg (fA a o) [it] it (λi h=>h.IsValIter it a i es.size ep) where
 mem:=by simp
 obj:=λi h f b z=>by
  cases bc.mp z;obtain⟨u,e,_,d⟩:=f
  simp_all
 keep:=λi h h' f k=>f.at λu e=>k it (by simp) u e
 item:=by
  intro X hP hw hK hc i F s σ H E I J f Y;subst hP hw hK;obtain⟨j,R,hl⟩:=Y;obtain⟨O,vs,r,da⟩:=Ws (I.hok a _ R) hd;obtain⟨Z,f1,f2,f3,f4,f5⟩:=J it (by simp)
  rw[O.trans r.length]at f;have ek:j[i]?=la j[i]:=ac hl;obtain⟨v,ev,rv⟩:=r.at ek;refine wpAny_pyNext_values_item f da ev λh' y sb=>?_;obtain⟨u,eu,cu,du⟩:=id y;rw[<- r.length,<- O]at y;exact⟨_,rfl,Fs (s:={ s with heap:=h' }) eu cu du (by decide) ⟨_,H,I.turned (t':=s.toks) (λb o z e=>(sb.2 b z).trans e) Z f1 f3 f4 f5,rv,⟨rfl,j,_,R,ek⟩,y,λb z=>(J b z).1⟩⟩
 done:=by
  intro X hP hw hK hc i F s σ H E I J f Y;subst hP hw hK;obtain⟨j,R,hl⟩:=Y;obtain⟨O,vs,r,da⟩:=Ws (I.hok a _ R) hd;obtain⟨Z,f1,f2,f3,f4,f5⟩:=J it (by simp)
  rw[O.trans r.length]at f;exact wpAny_pyNext_values_end (I.ok.hd hc) f da (Zz (by rw[<- r.length];exact hl)) λh' eb=>⟨rfl,I.turned (t':=s.toks) (λb o z e=>eb b o z e) Z f1 f3 f4 f5⟩
 self:=λ_ _ _ _ _ f q=>wpAny_pyIter_valiter f q
def QP    (e:(Yd P w).is k u=ma):RelV (kV k) u:=by
 rcases Eh e with⟨i,t,rfl,rfl⟩|⟨x,t,rfl,rfl⟩
 ·exact⟨t,rfl⟩
 ·exact⟨t,rfl⟩
def OQ  {K:Lb} a it (o:Obj)(es:Array vj) ep (hd:o.data=.dict es ep) :
  Turn P w K (.Tuple ya x1 pos) (gA a o) [it] it (λi h=>∃u v,IsItemIter h it a i es.size ep u v) where
 mem:=by simp
 obj:=λi h j b J=>by
  grind
 keep:=λi h h' j k=>let ⟨u,v,e⟩:=j;⟨u,v,k it (by simp) _ e⟩
 item:=by
  intro X hP hw hK hc i z s σ H E I Y j Z;subst hP hw hK;obtain⟨f,R,hl⟩:=Z;obtain⟨O,vs,r,da⟩:=Ws (I.hok a _ R) hd;have fi:=Y it (by simp)
  obtain⟨u0,v0,j⟩:=j;rw[O.trans r.length]at j;have ek:f[i]?=la f[i]:=ac hl;obtain⟨v,ev,rv⟩:=r.at ek;refine wpAny_pyNext_items_item j da ev λF h' hk za tp sz kp=>⟨_,rfl,wpAny_letOwnedTupleGo_items za λh2 st2 sb=>?_⟩;rw[<- r.length,<- O]at st2;have ja:H s.heap.objs.size=Aa:=I.hok.fresh (Db _);have xa:it≠s.heap.objs.size:=re (Kc j);have I1:Oa X z σ (upd H s.heap.objs.size (.tup [kV f[i].1,f[i].2])) { s with heap:=s.heap.push { cls:=.type "tuple",data:=.seq #[F,v] },toks:=s.toks }:=by
   refine I.laid (λb o y=>Fc _ y) (Db _) ⟨by show 2<=Za;decide,[F,v],.cons (QP hk) (.cons rv .nil),TupD.new _ _⟩
  have kk:∀b o,b≠it->(s.heap.push { cls:=.type "tuple",data:=.seq #[F,v] }).get? b=la o->h2.get? b=la o:=λb o bi y=>by
   refine(sb.2 b bi).trans ?_;by_cases J:b=s.heap.objs.size
   ·subst J;rw[Fe _ rfl]at y
    lia
   ·rw[Jz _ _ _ J]at y
    simp_all
  obtain⟨f0,f1,f2,f3,f4,f5⟩:=fi;have va:upd H s.heap.objs.size (.tup [kV f[i].1,f[i].2]) it=Aa:=by rw[Pc xa];exact f0
  refine⟨.ref s.heap.objs.size,_,I1.turned (h':=h2) (t':=s.toks) kk va f1 f3 f4 f5,rfl,⟨f,_,_,_,R,ek,rfl,ja,rfl⟩,⟨_,_,st2⟩,λb J=>?_⟩
  simp_all
 done:=by
  intro X hP hw hK hc i z s σ H E I Y j Z;subst hP hw hK;obtain⟨f,R,hl⟩:=Z;obtain⟨O,vs,r,da⟩:=Ws (I.hok a _ R) hd;obtain⟨f0,f1,f2,f3,f4,f5⟩:=Y it (by simp)
  obtain⟨u0,v0,j⟩:=j;rw[O.trans r.length]at j;exact wpAny_pyNext_items_end (I.ok.hd hc) j da (Zz (by rw[<- r.length];exact hl)) λh' eb=>⟨rfl,I.turned (t':=s.toks) (λb o J e=>eb b o J e) f0 f1 f3 f4 f5⟩
 self:=λA i s Q E j q=>by
  obtain⟨u,v,j⟩:=j;exact PySem.W.kcp_self j q
section
variable {X:Cx}{tg d:La}{tl:TE}{apos cpos:Pos}
def Held  (H:Hp)(a:Ca)(kvs:List (Ub×V))(R:Obj->Hp->Prop):Prop:=Rd H a (.dK kvs)/\∀o,(∀u,H a=la (.frz u (.dK kvs))->u=o)->R o (upd H a (.frz o (.dK kvs)))
def oC    {σ:St}(I:Oa X pins σ H s)(q:Held H a kvs R) :
  ∃o f ep vs,o.data=.dict f ep/\f.size=vs.length/\(a==jf)=ua/\s.heap.DictAt (Yd X.prog X.w) a vs ep/\R o (upd H a (.frz o (.dK kvs)))/\Oa X pins σ (upd H a (.frz o (.dK kvs))) s:=by
 obtain⟨z,y,vs,r,o,f,ep,F,h2,J,Y,O,h6⟩:=qi I.hok q.1;have e:=O.length;rw[Al]at e;have j:s.heap.DictAt (Yd X.prog X.w) a vs ep:=⟨o,f,F,h2,J,Y,O,h6⟩;rcases q.1 with g|⟨u,g⟩
 ·refine⟨o,f,ep,vs,J,e,y,j,q.2 o (λu z=>by lia),?_⟩
  exact I.write (h':=s.heap) (t':=s.toks) (x:=a) (e:=a) (by rw[g];trivial) (.inl rfl) (λb u _ e=>e) ⟨o,F⟩ ⟨F,z,y,vs,r,o,f,ep,F,h2,J,Y,O,h6⟩
 ·have hu:=(show je X.prog X.w H s.heap a (.frz u (.dK kvs))from I.hok a _ g).1;rw[F]at hu;cases hu;have Z:upd H a (.frz o (.dK kvs))=H:=by
   funext b;unfold upd
   lia
  refine⟨o,f,ep,vs,J,e,y,j,q.2 o (λu z=>by lia),?_⟩
  lia
def UU  (j:TE):TI:=λy H R=>j y H λx z=>∃a f,x=.ref a/\Held z a f λo q=>R (fA a o) q
def VU  (j:TE):TI:=λy H R=>j y H λx z=>∃a f,x=.ref a/\Held z a f λo q=>R (gA a o) q
def TK (hd:PE X d tl)(j:Fj d "values" X.env (Ib d X.env)=Ib d X.env:=by rfl)(z:(apos.endLine==cpos.line)=ma:=by rfl):PI X tg (.Call (.Attribute d "values" apos) [] [] cpos) (UU tl):=by
 intro f s Y H R I h;refine TH j z (Pb (hd f s Y H _ I h) λv s1 ⟨x,H1,Z,r1,a,F,ex,q⟩=>?_);subst ex;cases r1;obtain⟨t1,t2,_⟩:=DB Z (.inl ⟨F,q.1⟩);obtain⟨o,es,ep,vs,hd,hs,y,J,q,I2⟩:=oC Z q;refine⟨"dict", "dict.values",Mu,RI,PySem.F.type_dict_values,t1,t2,Iu rfl (nz ?_)⟩;refine Zt RI t1 PySem.F.entry_dict_values (PySem.F.args_dict_values_1 _) (meets_dict_values (Yd X.prog X.w) a y) ⟨⟨vs,J.dictOf⟩,?_⟩;have O:Oa X f Y (upd H1 a (.frz o (.dK F))) { s1 with heap:=s1.heap.push { cls:=.type "dict_values",data:=.fields #[.ref a] } }:=I2.kept (t':=s1.toks) λb o e=>Fc _ e
 refine wpAny_pyIter_values (s:={ s1 with heap:=s1.heap.push { cls:=.type "dict_values",data:=.fields #[.ref a] } }) ⟨_,Fe _ rfl,rfl,rfl⟩ (J.at' λo e=>Fc _ e) ?_
 rw[<- hs];refine⟨_,[_],_,_,_,rfl,O.kept (t':=s1.toks) λb o e=>Fc _ e,PQ a _ o es ep hd,⟨_,Fe _ rfl,rfl,rfl⟩,λb hb=>?_,q⟩;cases bc.mp hb;exact O.fpOk (Db _) (O.hok.fresh (Db _))
def SK {Y:List La}{x1}{J:Pos}(hd:PE X d tl)(j:Fj d "items" X.env (Ib d X.env)=Ib d X.env:=by rfl)(z:(apos.endLine==cpos.line)=ma:=by rfl):PI X (.Tuple Y x1 J) (.Call (.Attribute d "items" apos) [] [] cpos) (VU tl):=by
 intro f s σ H R I h;refine TH j z (Pb (hd f s σ H _ I h) λv s1 ⟨x,H1,I1,r1,a,O,ex,q⟩=>?_);subst ex;cases r1;obtain⟨t1,t2,_⟩:=DB I1 (.inl ⟨O,q.1⟩);obtain⟨o,es,ep,vs,hd,hs,y,F,q,I2⟩:=oC I1 q;refine⟨"dict", "dict.items",Mu,OI,PySem.F.type_dict_items,t1,t2,Iu rfl (nz ?_)⟩;refine Zt OI t1 PySem.F.entry_dict_items (PySem.F.args_dict_items_1 _) (meets_dict_items (Yd X.prog X.w) a y) ⟨⟨vs,F.dictOf⟩,?_⟩;have Z:Oa X f σ (upd H1 a (.frz o (.dK O))) { s1 with heap:=s1.heap.push { cls:=.type "dict_items",data:=.fields #[.ref a] } }:=I2.kept (t':=s1.toks) λb o e=>Fc _ e
 refine wpAny_pyIter_items (s:={ s1 with heap:=s1.heap.push { cls:=.type "dict_items",data:=.fields #[.ref a] } }) ⟨_,Fe _ rfl,rfl,rfl⟩ (F.at' λo e=>Fc _ e) ?_
 rw[<- hs];refine⟨_,[_],_,_,_,rfl,Z.kept (t':=s1.toks) λb o e=>Fc _ e,OQ a _ o es ep hd,⟨_,_,Fe _ rfl⟩,λb hb=>?_,q⟩;cases bc.mp hb;exact Z.fpOk (Db _) (Z.hok.fresh (Db _))
end
end L2

namespace L2
open PySem PySem.Spec PyProof.Rows
open Sem (wp)


end L2

namespace L2
open PySem PySem.Spec PyProof.Rows PySem.W
theorem Yk  : ∀{vs } {ns },Nb vs ns->∀{i } {u },vs[i]?=la u->∃t,u=.int (ns.getD i 0) t/\i<ns.length
 |_,_,.nil,_,_,h=>by simp at h
 |_,_,.cons m t r,0,u,h=>by
  simp at h;exact⟨t,by rw[<- h];rfl,Nat.zero_lt_succ _⟩
 |_,_,.cons m t r,i+1,u,h=>by
  obtain⟨f,e,l⟩:=Yk r (by simpa using h)
  exact⟨f,by rw[e];rfl,Nat.succ_lt_succ l⟩
theorem bC:∀{l:List Int},(∀i (h:i+1<l.length),l[i]<l[i+1])->l.Pairwise (·< ·)
 |[],_=>.nil
 |[x],_=>Ju _ _
 |x::y::r,h=>by
  have j:=bC (l:=y::r) λi q=>by
   have:=h (i+1) (Nat.succ_lt_succ q);simpa using this
  have h0:x<y:=h 0 (by simp)
  refine Wa.mpr ⟨λz f=>?_,j⟩;rcases Ic.mp f with rfl|f
  ·exact h0
  ·exact Int.lt_trans h0 ((Wa.mp j).1 z f)

def IS       (ho:s.heap.get? a=la (se "list" vs.toArray n))(F:Nb vs ns)(nd:ns.Nodup)(xa:vs.length<lh)
  (h:∀(out:Array Da) (z:List Int),Nb out.toList z->z.Perm ns->z.Pairwise (·< ·)->P (.done (.ret .none)) { s with heap:=cn s.heap a vs out }) :
  wpAny (Ja prog w) A (Ob.«list.sort» ⟨[.ref a],[]⟩) P E s:=by
 have il:vs.length=ns.length:=F.length;have I:∀{i:Nat} (f:i<ns.length),ns.getD i 0=ns[i]:=λf=>by simp[Xc,f]
 have Y:vs.Nodup:=by
  refine ud.mpr λi j f q va e=>?_;obtain⟨t1,e1,l1⟩:=Yk F (ac f);obtain⟨t2,e2,l2⟩:=Yk F (ac q);rw[e1,e2]at e;injection e with e3 _
  rw[I l1,I l2]at e3;exact Yr nd l1 l2 (by lia) e3
 refine UF (κ:=oneType') ho xa Y (λi j=>decide (ns.getD i 0<ns.getD j 0)) (λh' kp O R hR=>?_) (λh' kp=>⟨λi j C f q hC=>?_,λi j k _ _ _ Z O=>?_,λi j f q ja=>?_,λi _=>?_⟩) λy J hs=>?_
 ·refine kas_kind (M:=Ja prog w) (s:={ s with heap:=h' }) (T:=.type "int") O (λv hv=>?_) (by decide) (by decide) hR
  obtain⟨i,f,rfl⟩:=bg hv;obtain⟨t,e,_⟩:=Yk F (ac f);rw[e];exact Vy rfl
 ·unfold Jg;rw[Ay];obtain⟨t1,e1,_⟩:=Yk F (ac f);obtain⟨t2,e2,_⟩:=Yk F (ac q);have ei:vs.getD i ke=vs[i]:=by simp[Xc,f]
  have ej:vs.getD j ke=vs[j]:=by simp[Xc,q]
  rw[ei,ej,e1,e2];exact fv hC
 ·have:=of_decide_eq_true Z;have:=of_decide_eq_true O;exact decide_eq_true (by lia)
 ·rw[il]at f q;have:=Yr nd f q ja;rw[I f,I q,decide_eq_true_iff,decide_eq_true_iff]
  lia
 ·exact decide_eq_false (Int.lt_irrefl _)
 ·rw[il]at J hs;have za:∀i∈y,i<ns.length:=λi f=>Ra.mp (J.mem_iff.mp f);have go:∀l:List Nat,(∀i∈l,i<ns.length)->Nb (l.map λi=>vs.getD i ke) (l.map λi=>ns.getD i 0):=λl=>by
   induction l with
   |nil=>intro _;exact .nil
   |cons i l ih=>
    intro hl;have f:=hl i cf;obtain⟨t,e,_⟩:=Yk F (ac (show i<vs.length by lia))
    have ei:vs.getD i ke=vs[i]'(by lia):=by simp[Xc,show i<vs.length by lia]
    rw[Le,Le,ei,e];exact .cons _ t (ih λj q=>hl j (Pd _ q))
  refine h _ (y.map λi=>ns.getD i 0) (by rw[List.toList_toArray];exact go y za) ?_ ?_
  ·have e:ns=(Qc ns.length).map λi=>ns.getD i 0:=by
    refine xz (by simp) λi Z O=>?_
    rw[yz,List.getElem_range,I Z]
   exact(J.map _).trans (by rw[<- e])
  ·have pl:y.length=ns.length:=by rw[J.length_eq,ci]
   refine bC λi f=>?_;rw[Ua]at f;have:=of_decide_eq_true (hs i (by lia))
   rw[yz,yz];have g1:y.getD i 0=y[i]:=by simp[Xc,show i<y.length by lia]
   have g2:y.getD (i+1) 0=y[i+1]:=by simp[Xc,f]
   rw[g1,g2]at this;exact this

def wU  (hc:X.calm=ma):Ye X (.builtin "sorted") (λxs H Q=>∃(a:Ca) (kvs:List (Ub×V)) (ns:List Int),xs=[.ref a]/\H a=la (.dK kvs)/\kvs.map (·.1)=ns.map (λz=>(.inl z:Ub))/\ns.length<lh/\∀p (ms:List Int),H p=Aa->ms.Perm ns->ms.Pairwise (·< ·)->Q (.ref p) (upd H p (.lst (ms.map V.int)))):=by
 intro ka s σ H xs us Q I r h;obtain⟨a,kvs,ns,rfl,ha,hk,J,q⟩:=h;obtain⟨u,rfl,rx⟩:=Ng r;cases rx;obtain⟨hz,hS,Y,rv,m⟩:kvs.length<=Za/\(a==jf)=ua/\∃Y,KV kvs Y/\s.heap.DictOf (Yd X.prog X.w) a Y:=I.hok a _ ha;obtain⟨ep,ja⟩:=m.dictAt;have O:Y.map (·.1)=kvs.map (·.1):=Qw rv;have Z:Y.length=ns.length:=by
  have:=congrArg Cp (O.trans hk)
  grind
 have nd:ns.Nodup:=by
  have hn:(Y.map (·.1)).Nodup:=let ⟨_,_,_,_,_,_,_,_,hn⟩:=m;hn
  rw[O,hk]at hn;exact(Qe.mp hn).imp λh e=>h (by rw[e])
 refine NF (XT (A:=X.A.in1) (PySem.W.kdl_dict (knd:=Yd X.prog X.w) (kvs:=Y) (ep:=ep) hS) (I.ok.hd hc) ja (by rw[Z];exact(by rw[Kh];unfold lh at J;lia)) λh' tk f va wa F=>?_)
 have hl:f.toList.length=ns.length:=by rw[Al,F.1,Z]
 refine sy ?_ (by rw[hl];exact(by rw[Kh];unfold lh at J;lia))
 have hI:Nb f.toList ns:=Ow (O.trans hk) hl λj v e=>F.2 j v (by simp_all)
 have R:(h'.push { cls:=.type "list",data:=.seq f.toList.toArray }).get? h'.objs.size=la (se "list" f.toList.toArray 0):=Fe _ rfl;refine Bm slot_list_sort ⟨_,R,rfl⟩ entry_list_sort (IS R hI nd (by lia) λout xa a1 a2 a3=>⟨_,rfl,?_⟩) (args_list_sort _)
 obtain⟨e,he⟩:=sortedHeap_at (out:=out) R;have za:s.heap.objs.size<=h'.objs.size:=Ki wa;refine⟨.ref h'.objs.size,_,I.laid (t':=tk) (o:=.lst (xa.map V.int)) (λb ob y=>?_) za ?_,rfl,q _ xa (I.hok.fresh za) a2 a3⟩
 ·have hb:=va b ob y;have ya:=Kc hb;rw[sortedHeap_old (re ya) (by rw[dn];lia)]
  exact Fc _ hb
 ·refine⟨by rw[Ua,a2.length_eq];exact(by rw[Kh];unfold lh at J;lia),out.toList,e,?_,?_⟩
  ·exact Sx a1
  ·rw[he]
end L2

namespace L2
open PySem PySem.Spec PyProof.Rows



end L2

namespace Z
open PySem L2
inductive U where
 |non|bl (b:Bool)|int (i:Int)|str (x:Str)|tup (xs:List U)|loc (a:Ca)|fn (n:Nat)|ty (n:String)
 |exc (c:Nat) (fs:List U)|own (n:Nat)|clo (n:Nat) (cs:List U)
inductive MO where
 |lst (xs:List U)|fro (xs:List U)|dK (kvs:List (Ub×U))|dT (kvs:List (List Ub×U))|frd (o:Obj) (kvs:List (List Ub×U))|frk (o:Obj) (kvs:List (Ub×U))
abbrev Gp:=Ca->Option MO
noncomputable def Wc  (G:Gp)(a:Ca)(o:MO):Gp:=λb=>if b=a then la o else G b
structure Ri (G:Gp)(p:Ca)(o:MO)(G':Gp):Prop where
 no:G p=Aa
 eq:G'=Wc G p o
structure qg (G:Gp)(a:Ca)(o:MO)(G':Gp):Prop where
 eq:G'=Wc G a o
structure XV where
 c:Nat
 fs:List U
abbrev Sg:=List (Option U)
abbrev K1:=U->Gp->Prop
abbrev KX:=XV->Gp->Prop
def newO  (G:Gp)(o:MO)(Q:K1):Prop:=∀p f,Ri G p o f->Q (.loc p) f
def putO  (G:Gp)(a:Ca)(o:MO)(Q:Gp->Prop):Prop:=∀f,qg G a o f->Q f
def newO.at     (h:newO G o Q):∀p,G p=Aa->Q (.loc p) (Wc G p o):=λp j=>h p _ ⟨j,rfl⟩
def putO.at      (h:putO G a o Q):Q (Wc G a o):=h _ ⟨rfl⟩
structure En where
 nx:Sg->Gp->Prop
 rt:K1
 ex:XV->Sg->Gp->Prop
noncomputable def Bc  (G:Gp)(a:Ca):Option (List U):=match G a with
 |some (.lst xs)=>la xs
 |some (.fro xs)=>la xs
 |_=>Aa
noncomputable def kU  : U->Option Ub
 |.int i=>la (.inl i)
 |.str x=>la (.inr x)
 |_=>Aa
noncomputable def Kk  : List U->Option (List Ub)
 |[]=>la []
 |u::r=>match kU u,Kk r with
  |some k,la ks=>la (k::ks)
  |_,_=>Aa
noncomputable def Ku  : Ub->U
 |.inl i=>.int i
 |.inr x=>.str x
section
variable {κ α:Type}[DecidableEq κ]
noncomputable def dGet (kvs:List (κ×α))(k:κ):Option α:=(kvs.find? λf=>decide (f.1=k)).map (·.2)
noncomputable def dPut (kvs:List (κ×α))(k:κ)(v:α):List (κ×α):=
 if (kvs.any λf=>decide (f.1=k))=ma then kvs.map (λf=>if f.1=k then (f.1,v) else f) else kvs++[(k,v)]
def Ai (f:List (κ×α)):List (κ×α):=f.foldl (λj q=>dPut j q.1 q.2) []
end
def cut  {f:Type}(xs:List f)(lo hi:Option Int):List f:=(xs.drop (HT.sIx xs.length 0 lo)).take (HT.sIx xs.length xs.length hi-HT.sIx xs.length 0 lo)
mutual
inductive DU (G:Gp):U->Va->Prop
 |non:DU G .non .none
 |bl (b:Bool):DU G (.bl b) (.bool b)
 |int (i:Int):DU G (.int i) (.int i)
 |str (x:Str):DU G (.str x) (.str x)
 |tup {us:List U} {ds:List Va}:Hg G us ds->DU G (.tup us) (.tuple ds)
 |lst {a:Ca} {us:List U} {ds:List Va}:Bc G a=la us->Hg G us ds->DU G (.loc a) (.list ds)
 |dic {a:Ca}:G a=la (.dK [])->DU G (.loc a) (.dict [])
inductive Hg (G:Gp):List U->List Va->Prop
 |nil:Hg G [] []
 |cons {u:U} {d:Va} {us:List U} {ds:List Va}:DU G u d->Hg G us ds->Hg G (u::us) (d::ds)
end
def addU  : U->U->Gp->K1->Prop
 |.int i,.int j,G,Q=>Q (.int (i+j)) G
 |.str x,.str y,G,Q=>x.length+y.length<=Za/\Q (.str (x++y)) G
 |.tup f,.tup q,G,Q=>f.length+q.length<=Za/\Q (.tup (f++q)) G
 |.loc a,.loc b,G,Q=>∃f q,G a=la (.lst f)/\G b=la (.lst q)/\f.length+q.length<=Za/\newO G (.lst (f++q)) Q
 |.bl b,.int j,G,Q=>Q (.int ((if b=ma then (1:Int) else 0)+j)) G
 |_,_,_,_=>False
def subU  : U->U->Gp->K1->Prop
 |.int i,.int j,G,Q=>Q (.int (i-j)) G
 |.bl b,.int j,G,Q=>Q (.int ((if b=ma then (1:Int) else 0)-j)) G
 |.int i,.bl b,G,Q=>Q (.int (i-if b=ma then (1:Int) else 0)) G
 |_,_,_,_=>False
def mulU  : U->U->Gp->K1->Prop
 |.int i,.int j,G,Q=>CMul i j/\Q (.int (i*j)) G
 |.loc a,.int k,G,Q=>∃f,G a=la (.lst f)/\-(2 ^ 63)<=k/\k<2 ^ 63/\f.length*k.toNat<=Za/\newO G (.lst (Kb k.toNat f).flatten) Q
 |.tup f,.int k,G,Q=>f≠[]/\0<=k/\k<2 ^ 62/\f.length*k.toNat<=Za/\Q (.tup (Kb k.toNat f).flatten) G
 |.str z,.int k,G,Q=>0<=k/\k<1000/\z.length<=1000/\Q (.str (repS z k.toNat)) G
 |_,_,_,_=>False
def MA  : U->U->Gp->K1->Prop
 |.int i,.int j,G,Q=>0<j/\j<1073741824/\Q (.int (i/j)) G
 |_,_,_,_=>False
def modU  : U->U->Gp->K1->Prop
 |.int i,.int j,G,Q=>0<j/\Q (.int (i%j)) G
 |_,_,_,_=>False
def powU  : U->U->Gp->K1->Prop
 |.int i,.int j,G,Q=>CPow i j/\Q (.int (i ^ j.toNat)) G
 |_,_,_,_=>False
def binU  : ml->U->U->Gp->K1->Prop
 |.Add=>addU
 |.Sub=>subU
 |.Mult=>mulU
 |.FloorDiv=>MA
 |.Mod=>modU
 |.Pow=>powU
 |_=>λ_ _ _ _=>False
def Gs  : ml->U->U->Gp->K1->Prop
 |.Add,.int i,.int j,G,Q=>Q (.int (i+j)) G
 |.Add,.str x,.str y,G,Q=>x.length+y.length<=Za/\Q (.str (x++y)) G
 |.Sub,.int i,.int j,G,Q=>Q (.int (i-j)) G
 |.Mult,.int i,.int j,G,Q=>CMul i j/\Q (.int (i*j)) G
 |_,_,_,_,_=>False
def negU  : U->Gp->K1->Prop
 |.int i,G,Q=>Q (.int (-i)) G
 |_,_,_=>False
def Small  (d:Va):Prop:=d.canLay0=ma/\d.depth<=100
noncomputable def eqU  : U->U->Gp->(Bool->Prop)->Prop
 |.non,.non,_,k=>k ma
 |.non,.bl _,_,k=>k ua
 |.non,.int _,_,k=>k ua
 |.non,.str _,_,k=>k ua
 |.bl _,.non,_,k=>k ua
 |.bl a,.bl b,_,k=>k (decide (a=b))
 |.bl _,.str _,_,k=>k ua
 |.int _,.non,_,k=>k ua
 |.int i,.int j,_,k=>k (decide (i=j))
 |.int _,.str _,_,k=>k ua
 |.str _,.non,_,k=>k ua
 |.str _,.bl _,_,k=>k ua
 |.str _,.int _,_,k=>k ua
 |.str x,.str y,_,k=>k (decide (x=y))
 |x,y,G,k=>∃d e,DU G x d/\DU G y e/\Small d/\Small e/\k (Ud d e)
def JH  : U->U->Gp->(Bool->Prop)->Prop
 |.loc a,.str y,G,k=>(∃j,G a=la (.dK j)/\k ua)\/(∃f,G a=la (.lst f)/\k ua)\/eqU (.loc a) (.str y) G k
 |.tup f,.tup [],_,k=>k f.isEmpty
 |.tup _,.str _,_,k=>k ua
 |x,y,G,k=>eqU x y G k
def Wh  : U->U->(Bool->Prop)->Prop
 |.non,.non,k=>k ma
 |.bl a,.bl b,k=>k (decide (a=b))
 |.non,.bl _,k|.non,.int _,k|.non,.str _,k|.non,.tup _,k|.non,.loc _,k=>k ua
 |.bl _,.non,k|.int _,.non,k|.str _,.non,k|.tup _,.non,k|.loc _,.non,k=>k ua
 |.int _,.bl _,k|.str _,.bl _,k|.tup _,.bl _,k|.loc _,.bl _,k=>k ua
 |_,_,_=>False
noncomputable def flat  : U->Bool
 |.non|.bl _|.int _|.str _=>ma
 |_=>ua
noncomputable def nh  : U->U->Bool
 |.non,.non=>ma
 |.bl a,.bl b=>a==b
 |.bl a,.int b=>(if a then 1 else 0)==b
 |.int a,.bl b=>a==(if b then 1 else 0)
 |.int a,.int b=>a==b
 |.str a,.str b=>a==b
 |_,_=>ua
def ig  : U->U->Gp->(Bool->Prop)->Prop
 |.str x,.str y,_,k=>k (!(Xu y x 0 y.length 1).isEmpty)
 |.tup j,.tup ys,G,k=>∃d f,DU G (.tup j) d/\Hg G ys f/\Small d/\(∀e∈f,Small e)/\k (f.any λe=>Ud e d)
 |x,.tup ys,_,k=>flat x=ma/\ys.all flat=ma/\k (ys.any λy=>nh y x)
 |x,.loc a,G,k=>match G a with
  |some (.lst ys)=>(flat x=ma/\ys.all flat=ma/\k (ys.any λy=>nh y x))\/
    ∃d f,DU G x d/\Hg G ys f/\Small d/\(∀e∈f,Small e)/\k (f.any λe=>Ud e d)
  |some (.fro ys)=>flat x=ma/\ys.all flat=ma/\k (ys.any λy=>nh y x)
  |some (.dK kvs)=>match kU x with
   |some y=>k (dGet kvs y).isSome
   |none=>False
  |some (.dT kvs)=>match x with
   |.tup j=>match Kk j with
    |some y=>k (dGet kvs y).isSome
    |none=>False
   |_=>False
  |some (.frk _ kvs)=>match kU x with
   |some y=>k (dGet kvs y).isSome
   |none=>False
  |_=>False
 |_,_,_,_=>False
def ordU  : oq->U->U->(Bool->Prop)->Prop
 |.Lt,.int i,.int j,k=>k (decide (i<j))
 |.LtE,.int i,.int j,k=>k (decide (i<=j))
 |.LtE,.str x,.str y,k=>k (!decide (y.cps.toList<x.cps.toList))
 |.Gt,.int i,.int j,k=>k (decide (j<i))
 |_,_,_,_=>False
def cmpU  : oq->U->U->Gp->(Bool->Prop)->Prop
 |.Eq,x,y,G,k=>JH x y G k
 |.NotEq,x,y,G,k=>eqU x y G λb=>k (!b)
 |.Is,x,y,_,k=>Wh x y k
 |.IsNot,x,y,_,k=>Wh x y λb=>k (!b)
 |.In,x,y,G,k=>ig x y G k
 |.NotIn,x,y,G,k=>ig x y G λb=>k (!b)
 |o,x,y,_,k=>ordU o x y k
def truU  : U->Gp->(Bool->Prop)->Prop
 |.non,_,k=>k ua
 |.bl b,_,k=>k b
 |.int i,_,k=>k (i != 0)
 |.str x,_,k=>x.length<=Za/\k ((x.length:Int) != 0)
 |.tup xs,_,k=>k (!xs.isEmpty)
 |.loc a,G,k=>match G a with
  |some (.lst xs)=>k (!xs.isEmpty)
  |some (.fro xs)=>k (!xs.isEmpty)
  |some (.dK kvs)=>k (!kvs.isEmpty)
  |_=>False
 |_,_,_=>False
def af  : U->U->Gp->K1->Prop
 |.tup xs,.int i,G,Q=>match atI xs i with
  |some u=>Q u G
  |none=>False
 |.str x,.int i,G,Q=>x.length<=Za/\match atI x.cps.toList i with
  |some c=>Q (.str ⟨#[c]⟩) G
  |none=>False
 |.loc a,y,G,Q=>match G a with
  |some (.lst xs)=>(match y with|.int i=>(match atI xs i with|some u=>Q u G|none=>False)|_=>False)
  |some (.fro xs)=>(match y with|.int i=>(match atI xs i with|some u=>Q u G|none=>False)|_=>False)
  |some (.dK kvs)=>(match kU y with|some k=>(match dGet kvs k with|some u=>Q u G|none=>False)|none=>False)
  |some (.dT kvs)=>(match y with|.tup ys=>(match Kk ys with|some k=>(match dGet kvs k with|some u=>Q u G|none=>False)|none=>False)|_=>False)
  |some (.frk _ kvs)=>(match kU y with|some k=>(match dGet kvs k with|some u=>Q u G|none=>False)|none=>False)
  |_=>False
 |_,_,_,_=>False
def Vi  : U->Option Int->Option Int->Gp->K1->Prop
 |.tup f,lo,hi,G,Q=>Q (.tup (cut f lo hi)) G
 |.str x,lo,hi,G,Q=>x.length<=Za/\Q (.str (Vt x lo hi)) G
 |.loc a,lo,hi,G,Q=>match Bc G a with
  |some f=>newO G (.lst (cut f lo hi)) Q
  |none=>False
 |_,_,_,_,_=>False
def revU  : U->U->Gp->K1->Prop
 |.tup f,.int i,G,Q=>i=-1/\Q (.tup f.reverse) G
 |.loc a,.int i,G,Q=>match Bc G a with
  |some f=>(i=1\/i=-1)/\newO G (.lst (if i=1 then f else f.reverse)) Q
  |none=>False
 |_,_,_,_=>False
def setU  : U->U->U->Gp->(Gp->Prop)->Prop
 |.loc a,y,v,G,Q=>match G a with
  |some (.lst xs)=>(match y with|.int i=>(match gg xs.length i with|some j=>putO G a (.lst (xs.set j v)) Q|none=>False)|_=>False)
  |some (.dK kvs)=>(match kU y with|some k=>kvs.length<Za/\putO G a (.dK (dPut kvs k v)) Q|none=>False)
  |some (.dT kvs)=>(match y with|.tup ys=>(match Kk ys with|some k=>kvs.length<Za/\putO G a (.dT (dPut kvs k v)) Q|none=>False)|_=>False)
  |_=>False
 |_,_,_,_,_=>False
inductive Blt|len|repr|min|max|sum|all|any|sorted|int|str|isi
 deriving DecidableEq
inductive Mth|append|extend|insert|pop|reverse|index|join|get|split|setd|clear|count|upper
 deriving DecidableEq
noncomputable def ij  : List U->Option (List Int)
 |[]=>la []
 |.int i::r=>(match ij r with|some l=>la (i::l)|none=>Aa)
 |_=>Aa
noncomputable def pq  : U->Gp->Option String
 |.non,_=>la "NoneType"
 |.bl _,_=>la "bool"
 |.int _,_=>la "int"
 |.str _,_=>la "str"
 |.tup _,_=>la "tuple"
 |.loc a,G=>match G a with
  |some (.lst _)=>la "list"
  |some (.dK _)=>la "dict"
  |some (.dT _)=>la "dict"
  |_=>Aa
 |_,_=>Aa
def isiU  (x:U)(G:Gp)(t:String):Option Bool:=match pq x G with
 |some n=>if t∈["bool", "int", "str", "list", "tuple", "dict"] then la (n==t||(n == "bool" && t == "int")) else Aa
 |none=>Aa
def lenU  : List U->Gp->K1->Prop
 |[.tup xs],G,Q=>Q (.int xs.length) G
 |[.str x],G,Q=>x.length<=Za/\Q (.int x.length) G
 |[.loc a],G,Q=>(match G a with
  |some (.lst xs)=>Q (.int xs.length) G
  |some (.fro xs)=>Q (.int xs.length) G
  |some (.dK kvs)=>Q (.int kvs.length) G
  |_=>False)
 |_,_,_=>False
def Xl  : List U->Gp->K1->Prop
 |[u],G,Q=>∃d,DU G u d/\Fits 16000000 60 d/\Q (.str d.shown) G
 |_,_,_=>False
def minU  : List U->Gp->K1->Prop
 |[.int i,.int j],G,Q=>Q (.int (if j<i then j else i)) G
 |_,_,_=>False
def Wr  (xs:List U)(G:Gp)(Q:K1):Prop:=match ij xs with
 |some f=>f≠[]/\∀z∈f,(∀y∈f,y<=z)->Q (.int z) G
 |none=>False
def maxU  : List U->Gp->K1->Prop
 |[.int i,.int j],G,Q=>Q (.int (if j>i then j else i)) G
 |[.loc a],G,Q=>(match G a with
  |some (.lst xs)=>Wr xs G Q
  |_=>False)
 |[.tup xs],G,Q=>Wr xs G Q
 |_,_,_=>False
def sumU  : List U->Gp->K1->Prop
 |[.loc a],G,Q=>(match G a with
  |some (.lst xs)=>(match ij xs with|some ns=>Q (.int ns.sum) G|none=>False)
  |_=>False)
 |_,_,_=>False
def intU  : List U->Gp->K1->Prop
 |[.int i],G,Q=>Q (.int i) G
 |[.bl b],G,Q=>Q (.int (if b then 1 else 0)) G
 |[.str z],G,Q=>∃n,PySem.intText? z=la n/\z.length<=640/\Q (.int n) G
 |_,_,_=>False
def kj  : List U->Gp->K1->Prop
 |[x,.ty t],G,Q=>(match isiU x G t with|some b=>Q (.bl b) G|none=>False)
 |_,_,_=>False
def uj  : List U->Gp->K1->Prop
 |[.loc a],G,Q=>(match G a with
  |some (.lst us)=>∃f:List (List Int),f.Nodup/\us.length<lh/\us.length=f.length/\((∃j:List Int,us=j.map .int/\f=j.map λn=>[n])\/(∃F:List Ca,us=F.map .loc/\∀(i:Nat) a k,F[i]?=la a->f[i]?=la k->G a=la (.lst (k.map .int)))\/us=f.map (λk=>.tup (k.map .int))/\∀k∈f,k≠[])/\
    ∀q:List Nat,q.Perm (Qc us.length)->(∀i,i+1<us.length->HT.lexLt (f.getD (q.getD i 0) []) (f.getD (q.getD (i+1) 0) [])=ma)->newO G (.lst (q.map λi=>us.getD i .non)) Q
  |some (.dK kvs)=>∃j:List Int,kvs.map (·.1)=j.map (λz=>(Wb z:Ub))/\j.length<lh/\∀y:List Int,y.Perm j->y.Pairwise (·< ·)->newO G (.lst (y.map .int)) Q
  |_=>False)
 |_,_,_=>False
def mkDU  : U->Gp->K1->Prop
 |.loc a,G,Q=>(match G a with
  |some (.dK kvs)=>∃f:List Int,kvs.map (·.1)=f.map (λz=>(Wb z:Ub))/\newO G (.lst (f.map .int)) Q
  |_=>False)
 |_,_,_=>False
def bltU  : Blt->List U->Gp->K1->Prop
 |.len=>lenU
 |.repr=>Xl
 |.min=>minU
 |.max=>maxU
 |.sum=>sumU
 |.all=>λ_ _ _=>False
 |.any=>λ_ _ _=>False
 |.sorted=>uj
 |.int=>intU
 |.str=>λ_ _ _=>False
 |.isi=>kj
def Cw  : U->List U->Gp->K1->Prop
 |.loc a,[v],G,Q=>(match G a with
  |some (.lst xs)=>xs.length<Za/\putO G a (.lst (xs++[v])) (Q .non)
  |_=>False)
 |_,_,_,_=>False
def Jw  : U->List U->Gp->K1->Prop
 |.loc a,[.loc b],G,Q=>(match G a,G b with
  |some (.lst xs),la (.lst ys)=>xs.length+ys.length<=Za/\putO G a (.lst (xs++ys)) (Q .non)
  |_,_=>False)
 |_,_,_,_=>False
def Nw  : U->List U->Gp->K1->Prop
 |.loc a,[.int i,v],G,Q=>(match G a with
  |some (.lst xs)=>0<=i/\i<=xs.length/\xs.length<Za/\putO G a (.lst (xs.take i.toNat++v::xs.drop i.toNat)) (Q .non)
  |_=>False)
 |_,_,_,_=>False
def popU  : U->List U->Gp->K1->Prop
 |.loc a,[],G,Q=>(match G a with
  |some (.lst xs)=>(match xs[xs.length-1]? with|some v=>putO G a (.lst xs.dropLast) (Q v)|none=>False)
  |_=>False)
 |.loc a,[.int i],G,Q=>(match G a with
  |some (.lst xs)=>-(2 ^ 63)<=i/\i<2 ^ 63/\(match Yt i xs.length with
   |some k=>(match xs[k]? with|some v=>putO G a (.lst (xs.eraseIdx k)) (Q v)|none=>False)
   |none=>False)
  |_=>False)
 |_,_,_,_=>False
def getU  : U->List U->Gp->K1->Prop
 |.loc a,[y,d],G,Q=>(match G a with
  |some (.dK kvs)=>(match kU y with
   |some k=>Q ((dGet kvs k).getD d) G
   |none=>False)
  |some (.dT kvs)=>∃k:List Ub,y=.tup (k.map Ku)/\Q ((dGet kvs k).getD d) G
  |_=>False)
 |_,_,_,_=>False
def ze  : Mth->U->List U->Gp->K1->Prop
 |.append=>Cw
 |.extend=>Jw
 |.insert=>Nw
 |.pop=>popU
 |.reverse=>λ_ _ _ _=>False
 |.index=>λ_ _ _ _=>False
 |.join=>λ_ _ _ _=>False
 |.get=>getU
 |.split=>λ_ _ _ _=>False
 |.setd=>λ_ _ _ _=>False
 |.clear=>λ_ _ _ _=>False
 |.count=>λ_ _ _ _=>False
 |.upper=>λ_ _ _ _=>False
noncomputable def Se  : Mth->U->Gp->Option (String×String)
 |.append,x,G=>(match x with|.loc a=>(match G a with|some (.lst _)=>la ("list", "list.append")|_=>Aa)|_=>Aa)
 |.extend,x,G=>(match x with|.loc a=>(match G a with|some (.lst _)=>la ("list", "list.extend")|_=>Aa)|_=>Aa)
 |.insert,x,G=>(match x with|.loc a=>(match G a with|some (.lst _)=>la ("list", "list.insert")|_=>Aa)|_=>Aa)
 |.pop,x,G=>(match x with|.loc a=>(match G a with|some (.lst _)=>la ("list", "list.pop")|_=>Aa)|_=>Aa)
 |.reverse,_,_=>Aa
 |.index,_,_=>Aa
 |.join,_,_=>Aa
 |.get,x,G=>(match x with|.loc a=>(match G a with|some (.dK _)=>la ("dict", "dict.get")|some (.dT _)=>la ("dict", "dict.get")|_=>Aa)|_=>Aa)
 |.split,_,_=>Aa
 |.setd,_,_=>Aa
 |.clear,_,_=>Aa
 |.count,_,_=>Aa
 |.upper,_,_=>Aa
noncomputable def clsA  : List (Str×List Str):=[("PlanError",[]),("NoPaper",["word", "at"]),("TooMany",["word"]),("NoRing",["word"]),("NoText",["row", "word"]),("NoRow",["row"])]
def clsN  (c:Nat):Str:=(clsA.getD c ("",[])).1
def clsF  (c:Nat):List Str:=(clsA.getD c ("",[])).2
inductive HL where
 |is1 (c:Nat)|isi (cs:List Nat)|isiV|v (i:Nat)
inductive HA where
 |str (x:Str)|att (f:Str)
inductive HV where
 |cond (k:Bool) (a:Bool×HL) (as:List (Bool×HL))|one (a:HA)|bl (b:Bool)|tup (as:List HA)|lst (as:List HA)
inductive HS where
 |asg (i:Nat) (e:HV)|ifa (k:Bool) (a:Bool×HL) (as:List (Bool×HL)) (i:Nat) (e:HV)
section
variable (x:XV)
noncomputable def litH (f:Sg):HL->Option Bool
 |.is1 c=>la (decide (x.c=c))
 |.isi j=>la (j.contains x.c)
 |.isiV=>la ma
 |.v i=>match f[i]? with
  |some (la (.bl b))=>la b
  |_=>Aa
def lit1 (f:Sg)(p:Bool×HL):Option Bool:=match litH x f p.2 with
 |some b=>la (if p.1=ma then !b else b)
 |none=>Aa
noncomputable def Tv (f:Sg)(k:Bool):Bool×HL->List (Bool×HL)->Option Bool
 |a,[]=>lit1 x f a
 |a,b::r=>match lit1 x f a with
  |some t=>if t=k then Tv f k b r else la t
  |none=>Aa
def MH:HA->Option U
 |.str y=>la (.str y)
 |.att f=>((clsF x.c).zip x.fs).lookup f
noncomputable def atsH:List HA->Option (List U)
 |[]=>la []
 |a::r=>match MH x a,atsH r with
  |some u,la us=>la (u::us)
  |_,_=>Aa
def FH (j:Sg):HV->Gp->K1->Prop
 |.cond k a as,G,Q=>match Tv x j k a as with
  |some b=>Q (.bl b) G
  |none=>False
 |.one a,G,Q=>match MH x a with
  |some u=>Q u G
  |none=>False
 |.bl b,G,Q=>Q (.bl b) G
 |.tup as,G,Q=>match atsH x as with
  |some f=>Q (.tup f) G
  |none=>False
 |.lst as,G,Q=>match atsH x as with
  |some f=>newO G (.lst f) Q
  |none=>False
def Qt:List HS->Sg->Gp->(Sg->Gp->Prop)->Prop
 |[],ς,G,k=>k ς G
 |.asg i e::r,ς,G,k=>FH x ς e G λu f=>Qt r (ς.set i (la u)) f k
 |.ifa q a as i e::r,ς,G,k=>match Tv x ς q a as with
  |some ma=>FH x ς e G λu f=>Qt r (ς.set i (la u)) f k
  |some ua=>Qt r ς G k
  |none=>False
end
mutual
inductive Tg where
 |n (i:Nat)|t (ts:bh)
inductive bh where
 |nil|cons (t:Tg) (ts:bh)
end
mutual
inductive E where
 |v (i:Nat)|non|bl (b:Bool)|int (i:Int)|str (x:Str)|g (n:Nat)|bin (o:ml) (a b:E)|neg (a:E)|not (a:E)|bop (k:Bool) (a:E) (es:Es)|cmp (o:oq) (a b:E)|cmp2 (o p:oq) (a b c:E)|ife (c a b:E)|tup (es:Es)|lst (es:Es)|dic (es:Es)|ix (a b:E)|sl (a:E) (lo hi:Eo)|rev (a st:E)|call (n:Nat) (es:Es)|blt (b:Blt) (es:Es)|meth (m:Mth) (o:E) (es:Es)|ty (n:String)|lc (pick:List (Option Nat)) (t:Tg) (it:It) (ifs:Es) (e:E)|mkL (e:E)|mkT (e:E)|rngL (a:E)|mkD (e:E)
inductive Eo where
 |no|so (e:E)
inductive Es where
 |nil|cons (e:E) (es:Es)
inductive It where
 |e (e:E)|r1 (e:E)|enum (e:E)|dv (e:E)|di (e:E)
end
mutual
inductive S where
 |expr (e:E)|asg (t:Tg) (e:E)|asgC (i:Nat) (e:E)|setS (o i e:E)|par (is:List Nat) (es:Es)|aug (i:Nat) (o:ml) (e:E)|ite (c:E) (a b:Ss)|fr (t:Tg) (it:It) (b:Ss)|wh (c:E) (b:Ss)|ret (e:E)|never
inductive Ss where
 |nil|cons (s:S) (ss:Ss)
end
mutual
noncomputable def Yc:Tg->U->Sg->(Sg->Prop)->Prop
 |.n i,u,ς,k=>k (ς.set i (la u))
 |.t ts,u,ς,k=>match u with
  |.tup f=>tgsU ts f ς k
  |_=>False
noncomputable def tgsU:bh->List U->Sg->(Sg->Prop)->Prop
 |.nil,us,ς,k=>us=[]/\k ς
 |.cons t ts,us,ς,k=>match us with
  |[]=>False
  |u::r=>Yc t u ς λf=>tgsU ts r f k
end
abbrev Cl:=Nat->List U->Gp->K1->KX->Prop
def slot  (f:Sg)(i:Nat)(k:U->Prop):Prop:=match f[i]? with
 |some (la u)=>k u
 |_=>False
noncomputable def Wg  (pick:List (Option Nat))(f:Sg):Sg:=pick.map λo=>o.bind λj=>(f[j]?).join
def cj  (ok:Gp->Prop)(b:U->Gp->(Option U->Gp->Prop)->Prop):List U->List U->Gp->(List U->Gp->Prop)->Prop
 |[],acc,G,k=>ok G/\k acc G
 |x::xs,acc,G,k=>ok G/\b x G λo f=>cj ok b xs (match o with|some u=>acc++[u]|none=>acc) f k
def forL  (ok:Gp->Prop)(b:U->Sg->Gp->(Sg->Gp->Prop)->Prop):List U->Sg->Gp->(Sg->Gp->Prop)->Prop
 |[],ς,G,k=>ok G/\k ς G
 |x::xs,ς,G,k=>ok G/\b x ς G λf j=>forL ok b xs f j k
noncomputable def rngU  (i:Int)(n:Nat):List U:=(Qc n).map λk:Nat=>.int (i+k)
noncomputable def si  : Nat->List U->List U
 |_,[]=>[]
 |n,u::r=>.tup [.int n,u]::si (n+1) r
def Pf  : U->Gp->(List U->(Gp->Prop)->Prop)->Prop
 |.tup f,_,k=>k f λ_=>True
 |.loc a,G,k=>match Bc G a with
  |some f=>k f λj=>Bc j a=la f
  |none=>False
 |_,_,_=>False
def pp  : U->Gp->(List U->(Gp->Prop)->Prop)->Prop
 |.tup f,_,k=>k (si 0 f) λ_=>True
 |.loc a,G,k=>match Bc G a with
  |some f=>k (si 0 f) λj=>Bc j a=la f
  |none=>False
 |_,_,_=>False
def kh  (f:List (Ub×U)->List U):U->Gp->(List U->(Gp->Prop)->Gp->Prop)->Prop
 |.loc a,G,Q=>match G a with
  |some (.dK kvs)=>∀o j,qg G a (.frk o kvs) j->Q (f kvs) (λj=>j a=la (.frk o kvs)) j
  |some (.frk o kvs)=>Q (f kvs) (λj=>j a=la (.frk o kvs)) G
  |_=>False
 |_,_,_=>False
noncomputable def Dh  (kvs:List (Ub×U)):List U:=kvs.map (·.2)
def pj  (kvs:List (Ub×U)):List U:=kvs.map λp=>.tup [Ku p.1,p.2]
def fpU  : U->(Str->Prop)->Prop
 |.str z,k=>z.length<=10000/\k z
 |.int i,k=>i.natAbs.log2<1920/\k (toString i:String)
 |_,_=>False
def jp  (f:List U)(n:Nat)(k:U->Prop):Prop:=match f[n]? with
 |some u=>k u
 |none=>False
abbrev UE:=Sg->Gp->K1->KX->Prop
abbrev UT:=Sg->Gp->(Bool->Gp->Prop)->KX->Prop
abbrev UA:=Sg->Gp->(List U->Gp->Prop)->KX->Prop
def truT  (t:UE):UT:=λj G Q X=>t j G (λx f=>truU x f λb=>Q b f) X
noncomputable abbrev tp  (t:UE):UE×UT:=(t,truT t)
noncomputable def comb  : Bool->UE×UT->UE×UT->UE×UT
 |true,p,q=>(λj G Q X=>p.1 j G (λx f=>truU x f λc=>if c=ma then q.1 j f Q X else Q x f) X,λj G Q X=>p.2 j G (λc f=>if c=ma then q.2 j f Q X else Q ua f) X)
 |false,p,q=>(λj G Q X=>p.1 j G (λx f=>truU x f λc=>if c=ma then Q x f else q.1 j f Q X) X,λj G Q X=>p.2 j G (λc f=>if c=ma then Q ma f else q.2 j f Q X) X)
section
variable (gs:List U)(Δ:Cl)
mutual
noncomputable def Ta:E->UE×UT
 |.v i=>tp λf G Q _=>slot f i λu=>Q u G
 |.non=>tp λ_ G Q _=>Q .non G
 |.bl b=>tp λ_ G Q _=>Q (.bl b) G
 |.int i=>tp λ_ G Q _=>Q (.int i) G
 |.str x=>tp λ_ G Q _=>Q (.str x) G
 |.g n=>tp λ_ G Q _=>jp gs n λu=>Q u G
 |.bin o a b=>tp λf G Q X=>(Ta a).1 f G (λx q=>(Ta b).1 f q (λy F=>binU o x y F Q) X) X
 |.neg a=>tp λf G Q X=>(Ta a).1 f G (λx q=>negU x q Q) X
 |.not a=>(λf G Q X=>(Ta a).1 f G (λx q=>truU x q λb=>Q (.bl (!b)) q) X,
   λf G Q X=>(Ta a).2 f G (λb q=>Q (!b) q) X)
 |.bop k a I=>denB k (Ta a) I
 |.cmp o a b=>tp λf G Q X=>(Ta a).1 f G (λx q=>(Ta b).1 f q (λy F=>cmpU o x y F λc=>Q (.bl c) F) X) X
 |.cmp2 o p a b c=>tp λf G Q X=>(Ta a).1 f G (λx q=>(Ta b).1 f q (λy F=>cmpU o x y F λt=>if t=ma then (Ta c).1 f F (λz O=>cmpU p y z O λt'=>Q (.bl t') O) X else Q (.bl ua) F) X) X
 |.ife c a b=>(λf G Q X=>(Ta c).2 f G (λt q=>if t=ma then (Ta a).1 f q Q X else (Ta b).1 f q Q X) X,
   λf G Q X=>(Ta c).2 f G (λt q=>if t=ma then (Ta a).2 f q Q X else (Ta b).2 f q Q X) X)
 |.tup I=>tp λf G Q X=>zf I f G (λJ q=>J.length<=Za/\Q (.tup J) q) X
 |.lst I=>tp λf G Q X=>zf I f G (λJ q=>J.length<=Za/\newO q (.lst J) Q) X
 |.dic I=>tp λf G Q X=>denD I f G (λY q=>Y.length<=15/\newO q (.dK (Ai Y)) Q) X
 |.ix a b=>tp λf G Q X=>(Ta a).1 f G (λx q=>(Ta b).1 f q (λy F=>af x y F Q) X) X
 |.sl a lo hi=>tp λf G Q X=>(Ta a).1 f G (λx q=>denO lo f q (λl F=>denO hi f F (λh O=>Vi x l h O Q) X) X) X
 |.rev a b=>tp λf G Q X=>(Ta a).1 f G (λx q=>(Ta b).1 f q (λy F=>revU x y F Q) X) X
 |.call n I=>tp λf G Q X=>zf I f G (λJ q=>Δ n J q Q X) X
 |.blt b I=>tp λf G Q X=>zf I f G (λJ q=>bltU b J q Q) X
 |.meth m o I=>tp λf G Q X=>(Ta o).1 f G (λx q=>match Se m x q with
   |some _=>zf I f q (λJ F=>ze m x J F Q) X
   |none=>False) X
 |.ty n=>tp λ_ G Q _=>Q (.ty n) G
 |.lc pick t it Z e=>tp λf G Q X=>denI it f G (λR ok q=>R.length<=Za/\cj ok (λx F k=>Yc t x (Wg pick f) λτ=>denC Z τ F (λb O=>if b=ma then (Ta e).1 τ O (λu G4=>k (la u) G4) (λ_ _=>False) else k Aa O)) R [] q
   λJ G5=>newO G5 (.lst J) Q) X
 |.mkD e=>tp λf G Q X=>(Ta e).1 f G (λx q=>mkDU x q Q) X
 |.mkL e=>tp λf G Q X=>(Ta e).1 f G (λx q=>Pf x q λR _=>newO q (.lst R) Q) X
 |.mkT e=>tp λf G Q X=>(Ta e).1 f G (λx q=>Pf x q λR _=>Q (.tup R) q) X
 |.rngL e=>tp λf G Q X=>(Ta e).1 f G (λx q=>match x with
   |.int j=>0<=j/\j<=1000000/\newO q (.lst (rngU 0 j.toNat)) Q
   |_=>False) X
noncomputable def denB (k:Bool)(p:UE×UT):Es->UE×UT
 |.nil=>p
 |.cons e f=>comb k p (denB k (Ta e) f)
noncomputable def denC:Es->Sg->Gp->(Bool->Gp->Prop)->Prop
 |.nil,_,G,Q=>Q ma G
 |.cons e es,ς,G,Q=>(Ta e).2 ς G (λb f=>if b=ma then denC es ς f Q else Q ua f) (λ_ _=>False)
noncomputable def denO:Eo->Sg->Gp->(Option Int->Gp->Prop)->KX->Prop
 |.no,_,G,Q,_=>Q Aa G
 |.so e,ς,G,Q,X=>(Ta e).1 ς G (λx f=>match x with|.int i=>Q (la i) f|_=>False) X
noncomputable def zf:Es->Sg->Gp->(List U->Gp->Prop)->KX->Prop
 |.nil,_,G,Q,_=>Q [] G
 |.cons e es,ς,G,Q,X=>(Ta e).1 ς G (λx j=>zf es ς j (λq f=>Q (x::q) f) X) X
noncomputable def denF:Es->Sg->Gp->(List Str->Gp->Prop)->KX->Prop
 |.nil,_,G,Q,_=>Q [] G
 |.cons e es,ς,G,Q,X=>(Ta e).1 ς G (λx j=>fpU x λz=>denF es ς j (λq f=>Q (z::q) f) X) X
noncomputable def denD:Es->Sg->Gp->(List (Ub×U)->Gp->Prop)->KX->Prop
 |.nil,_,G,Q,_=>Q [] G
 |.cons e (.cons f es),ς,G,Q,X=>(Ta e).1 ς G (λx z=>(Ta f).1 ς z (λy q=>match kU x with
   |some k=>denD es ς q (λj F=>Q ((k,y)::j) F) X
   |none=>False) X) X
 |.cons _ .nil,_,_,_,_=>False
noncomputable def denI:It->Sg->Gp->(List U->(Gp->Prop)->Gp->Prop)->KX->Prop
 |.e e,ς,G,Q,X=>(Ta e).1 ς G (λx f=>Pf x f λq ok=>Q q ok f) X
 |.r1 e,ς,G,Q,X=>(Ta e).1 ς G (λx f=>match x with
   |.int j=>-(2 ^ 62)<=j/\j<2 ^ 62/\Q (rngU 0 j.toNat) (λ_=>True) f
   |_=>False) X
 |.enum e,ς,G,Q,X=>(Ta e).1 ς G (λx f=>pp x f λq ok=>Q q ok f) X
 |.dv e,ς,G,Q,X=>(Ta e).1 ς G (λx f=>kh Dh x f Q) X
 |.di e,ς,G,Q,X=>(Ta e).1 ς G (λx f=>kh pj x f Q) X
end
def denE (e:E):UE:=(Ta gs Δ e).1
def denT (e:E):UT:=(Ta gs Δ e).2
mutual
noncomputable def denS:S->En->Sg->Gp->Prop
 |.expr e,D,ς,G=>denE gs Δ e ς G (λ_ f=>D.nx ς f) λx f=>D.ex x ς f
 |.asg t e,D,ς,G=>denE gs Δ e ς G (λu f=>Yc t u ς λF=>D.nx F f) λx f=>D.ex x ς f
 |.asgC i e,D,ς,G=>denE gs Δ e ς G (λu f=>D.nx (ς.set i (la u)) f) λx f=>D.ex x ς f
 |.setS o i e,D,ς,G=>denE gs Δ e ς G (λv f=>denE gs Δ o ς f (λx q=>denE gs Δ i ς q (λy Y=>setU x y v Y λZ=>D.nx ς Z) λx f=>D.ex x ς f) λx f=>D.ex x ς f) λx f=>D.ex x ς f
 |.par is es,D,ς,G=>zf gs Δ es ς G (λO f=>O.length=is.length/\D.nx ((is.zip O).foldl (λs p=>s.set p.1 (la p.2)) ς) f) λx f=>D.ex x ς f
 |.aug i o e,D,ς,G=>slot ς i λx=>denE gs Δ e ς G (λy f=>Gs o x y f λz q=>D.nx (ς.set i (la z)) q) λx f=>D.ex x ς f
 |.ite c a b,D,ς,G=>denT gs Δ c ς G (λt f=>if t=ma then He a D ς f else He b D ς f) λx f=>D.ex x ς f
 |.fr t it b,D,ς,G=>denI gs Δ it ς G (λR ok f=>forL ok (λx j q k=>Yc t x j λI=>He b { D with nx:=k } I q) R ς f D.nx) λx f=>D.ex x ς f
 |.wh c b,D,ς,G=>∃W:Nat->Sg->Gp->Prop,(∃m,W m ς G)/\∀m j f,W m j f->
   denT gs Δ c j f (λt q=>if t=ma then He b { D with nx:=λF G'=>∃J,J<m/\W J F G' } j q else D.nx j q) λx f=>D.ex x j f
 |.ret e,D,ς,G=>denE gs Δ e ς G D.rt λx f=>D.ex x ς f
 |.never,_,_,_=>False
noncomputable def He:Ss->En->Sg->Gp->Prop
 |.nil,D,ς,G=>D.nx ς G
 |.cons s ss,D,ς,G=>denS s { D with nx:=λf j=>He ss D f j } ς G
end
end
structure Fun where
 name:Str
 ps:List Str
 N:List Str
 body:Ss
structure cV where
 P:Ca
 ff:Nat
 vi:Nat
 fi:Nat
 caps:List Nat
 wi:Nat
 fni:Nat
 least:Int
 wn:Str
 fn:Str
 at':Str
structure qf where
 funs:List Fun
 gs:List U
 gn:List Str:=[]
 cs:List Nat:=[]
 vf:List Fun:=[]
 ns:List (Nat×cV):=[]
noncomputable def nc  (n:Nat)(us:List U):Sg:=us.map la++Kb (n-us.length) Aa
def db  (T:qf):Nat->Cl
 |0,_,_,_,_,_=>False
 |k+1,n,us,G,Q,X=>match (T.funs++T.vf)[n]? with
  |some d=>us.length=d.ps.length/\He T.gs (db T k) d.body ⟨λ_ f=>Q .non f,Q,λx _ f=>X x f⟩ (nc d.N.length us) G
  |none=>False
mutual
noncomputable def RU (K:Lb)(H:Hp):U->V->Prop
 |.non,v=>v=.non
 |.bl b,v=>v=.bl b
 |.int i,v=>v=.int i
 |.str x,v=>v=.str x
 |.tup xs,v=>∃a f,v=.ref a/\H a=la (.tup f)/\Mb K H xs f
 |.loc a,v=>v=.ref a
 |.fn _,_=>False
 |.ty n,v=>v=.ty n
 |.exc _ _,_=>False
 |.own _,_=>False
 |.clo _ _,_=>False
noncomputable def Mb (K:Lb)(H:Hp):List U->List V->Prop
 |[],vs=>vs=[]
 |u::us,vs=>∃v f,vs=v::f/\RU K H u v/\Mb K H us f
end
def Kd  {κ:Type}(K:Lb)(H:Hp):List (κ×U)->List (κ×V)->Prop
 |[],l=>l=[]
 |(k,u)::r,l=>∃v f,l=(k,v)::f/\RU K H u v/\Kd K H r f
def Si  (K:Lb)(H:Hp)(a:Ca):MO->Prop
 |.lst q=>∃j,H a=la (.lst j)/\Mb K H q j
 |.fro q=>∃o j,H a=la (.frz o (.lst j))/\Mb K H q j
 |.dK f=>∃l,H a=la (.dK l)/\Kd K H f l
 |.dT f=>∃l,H a=la (.dT l)/\Kd K H f l
 |.frd o f=>∃l,H a=la (.frz o (.dT l))/\Kd K H f l
 |.frk o f=>∃l,H a=la (.frz o (.dK l))/\Kd K H f l
noncomputable def tabs  : List (Ca×Pos×Str):=[]
def bj  (H:Hp):Prop:=∀t∈tabs,IL H t.1 t.2.1 t.2.2
structure HR (K:Lb)(H:Hp)(G:Gp):Prop where
 mo:∀a o,G a=la o->Si K H a o
 tab:bj H
instance {K:Lb} {H:Hp} {G:Gp}:CoeFun (HR K H G) λ_=>∀a o,G a=la o->Si K H a o:=⟨HR.mo⟩
noncomputable def noTb  : HO->Bool
 |.tbl _=>ua
 |_=>ma
structure Fr (H:Hp)(G:Gp)(H':Hp)(G':Gp):Prop where
 go:∀a o,H a=la o->G a=Aa->(nt:noTb o=ma:=by rfl)->H' a=la o/\G' a=Aa
instance {H H':Hp} {G G':Gp}:CoeFun (Fr H G H' G') λ_=>∀a o,H a=la o->G a=Aa->(nt:noTb o=ma:=by rfl)->H' a=la o/\G' a=Aa:=⟨@Fr.go H G H' G'⟩
def SR  (K:Lb)(H:Hp)(f:Sg)(j:St):Prop:=f.length=j.length/\∀(i:Nat) (u:U),f[i]?=la (la u)->∃v,j[i]?=la (la v)/\RU K H u v
section
variable {K:Lb}{H H' H1 H2:Hp}{G G' G1 G2:Gp}
def Fr.refl   H G:Fr H G H G:=⟨λ_ _ h g _=>⟨h,g⟩⟩
def Fr.trans  (a:Fr H G H1 G1)(b:Fr H1 G1 H2 G2):Fr H G H2 G2:=⟨λc o h g j=>let ⟨y,q⟩:=a c o h g j;b c o y q j⟩
structure TS (H H':Hp):Prop where
 tup:∀a xs,H a=la (.tup xs)->H' a=la (.tup xs)
 cod:∀a o,H a=la (frzC o)->H' a=la (frzC o)
instance:CoeFun (TS H H') λ_=>∀a xs,H a=la (.tup xs)->H' a=la (.tup xs):=⟨TS.tup⟩
def TS.trans  (a:TS H H1)(b:TS H1 H2):TS H H2:=⟨λc j h=>b.tup c j (a.tup c j h),λc o h=>b.cod c o (a.cod c o h)⟩
mutual
theorem RU.ts (t:TS H H'):∀{u:U} {v:V},RU K H u v->RU K H' u v
 |.non,_,h=>h
 |.bl _,_,h=>h
 |.int _,_,h=>h
 |.str _,_,h=>h
 |.tup xs,_,h=>by
  obtain⟨a,j,e,q,r⟩:=h
  exact⟨a,j,e,t _ _ q,Mb.ts t r⟩
 |.loc _,_,h=>h
 |.fn _,_,h=>h
 |.ty _,_,h=>h
 |.exc _ _,_,h=>h
 |.own _,_,h=>h
 |.clo _ _,_,h=>h
theorem Mb.ts (t:TS H H'):∀{us:List U} {vs:List V},Mb K H us vs->Mb K H' us vs
 |[],_,h=>h
 |_::_,_,h=>by
  obtain⟨v,q,e,r,j⟩:=h
  exact⟨v,q,e,RU.ts t r,Mb.ts t j⟩
end
theorem Kd.ts   (t:TS H H'):∀{kvs:List (κ×U)} {l },Kd K H kvs l->Kd K H' kvs l
 |[],_,h=>h
 |(_,_)::_,_,h=>by
  obtain⟨v,q,e,r,j⟩:=h;exact⟨v,q,e,r.ts t,Kd.ts t j⟩
def SR.ts    (t:TS H H')(h:SR K H j σ):SR K H' j σ:=⟨h.1,λi u e=>let ⟨v,q,r⟩:=h.2 i u e;⟨v,q,r.ts t⟩⟩
def HR.tupNone  (h:HR K H G)(e:H a=la (.tup xs)):G a=Aa:=by
 cases q:G a with
 |none=>rfl
 |some o=>
  have m:=h a o q;cases o with
  |lst j=>obtain⟨_,y,_⟩:=m;lia
  |fro j=>obtain⟨_,_,y,_⟩:=m;lia
  |dK j=>obtain⟨_,y,_⟩:=m;lia
  |dT j=>obtain⟨_,y,_⟩:=m;lia
  |frd _ j=>obtain⟨_,y,_⟩:=m;lia
  |frk _ j=>obtain⟨_,y,_⟩:=m;lia
def HR.codNone  (h:HR K H G)(e:H a=la (frzC F)):G a=Aa:=by
 cases q:G a with
 |none=>rfl
 |some o=>
  have m:=h a o q;cases o with
  |lst j=>obtain⟨_,y,_⟩:=m;lia
  |fro j=>obtain⟨_,_,y,_⟩:=m;lia
  |dK j=>obtain⟨_,y,_⟩:=m;lia
  |dT j=>obtain⟨_,y,_⟩:=m;lia
  |frd _ j=>obtain⟨_,y,_⟩:=m;lia
  |frk _ j=>obtain⟨_,y,_⟩:=m;lia
def HR.tblNone  (h:HR K H G)(e:H a=la (.tbl ps)):G a=Aa:=by
 cases q:G a with
 |none=>rfl
 |some o=>
  have m:=h a o q;cases o with
  |lst j=>obtain⟨_,y,_⟩:=m;lia
  |fro j=>obtain⟨_,_,y,_⟩:=m;lia
  |dK j=>obtain⟨_,y,_⟩:=m;lia
  |dT j=>obtain⟨_,y,_⟩:=m;lia
  |frd _ j=>obtain⟨_,y,_⟩:=m;lia
  |frk _ j=>obtain⟨_,y,_⟩:=m;lia
def Fr.ts  (f:Fr H G H' G')(h:HR K H G):TS H H':=⟨λa j e=>(f a _ e (h.tupNone e)).1,λa o e=>(f a _ e (h.codNone e)).1⟩
def bj.upd  (h:bj H)(j:∀ps,H p≠la (.tbl ps))(F:∀I,H p≠la (frzC I)):bj (L2.upd H p o):=λt y=>by
 rcases h t y with e|⟨c,oc,e1,e2,q⟩
 ·exact .inl (by rw[Pc (λz=>j _ (z ▸ e))];exact e)
 ·exact .inr ⟨c,oc,by rw[Pc (λz=>j _ (z ▸ e1))];exact e1,by rw[Pc (λz=>F _ (z ▸ e2))];exact e2,q⟩
def bj.new  (h:bj H)(e:H p=Aa):bj (L2.upd H p o):=h.upd (λj z=>by lia) λq z=>by lia
def HR.tabW  (h:HR K H G){mo:MO}(g:G p=la mo):bj (L2.upd H p o):=h.tab.upd (λj z=>by rw[h.tblNone z]at g;cases g) λq z=>by rw[h.codNone z]at g;cases g
def Si.there    (m:Si K H a o):∃j,H a=la j:=by
 cases o with
 |lst _=>obtain⟨_,e,_⟩:=m;simp_all
 |fro _=>obtain⟨_,_,e,_⟩:=m;simp_all
 |dK _=>obtain⟨_,e,_⟩:=m;simp_all
 |dT _=>obtain⟨_,e,_⟩:=m;simp_all
 |frd _ _=>obtain⟨_,e,_⟩:=m;simp_all
 |frk _ _=>obtain⟨_,e,_⟩:=m;simp_all
def Si.keep    (m:Si K H a o)(e:H' a=H a)(t:TS H H'):Si K H' a o:=by
 cases o with
 |lst _=>obtain⟨j,q,r⟩:=m;exact⟨j,e.trans q,r.ts t⟩
 |fro _=>obtain⟨y,j,q,r⟩:=m;exact⟨y,j,e.trans q,r.ts t⟩
 |dK _=>obtain⟨l,q,r⟩:=m;exact⟨l,e.trans q,r.ts t⟩
 |dT _=>obtain⟨l,q,r⟩:=m;exact⟨l,e.trans q,r.ts t⟩
 |frd _ _=>obtain⟨l,q,r⟩:=m;exact⟨l,e.trans q,r.ts t⟩
 |frk _ _=>obtain⟨l,q,r⟩:=m;exact⟨l,e.trans q,r.ts t⟩
def HR.nope  (h:HR K H G)(e:H a=Aa):G a=Aa:=by
 cases q:G a with
 |none=>rfl
 |some o=>
  obtain⟨_,j⟩:=(h a o q).there
  lia
def wf    : Wc G a o a=la o:=by unfold Wc;lia
def mh    (h:b≠a):Wc G a o b=G b:=by unfold Wc;lia
def TS.new    (e:H p=Aa):TS H (upd H p o):=⟨λa j h=>by rw[Pc (zg h e)];exact h,λa q h=>by rw[Pc (zg h e)];exact h⟩
def HR.newT  (h:HR K H G)(e:H p=Aa):HR K (upd H p (.tup xs)) G:=⟨λa o q=>by
 have m:=h a o q;obtain⟨y,j⟩:=m.there;exact m.keep (Pc (zg j e)) (TS.new e),h.tab.new e⟩
def Fr.new    (e:H p=Aa):Fr H G (upd H p o) G:=⟨λa j h g _=>⟨by rw[Pc (zg h e)];exact h,g⟩⟩
def HR.newO  (h:HR K H G){mo:MO}(e:H p=Aa)(m:Si K (upd H p o) p mo):HR K (upd H p o) (Wc G p mo):=⟨λa j q=>by
 by_cases z:a=p
 ·subst z;rw[wf]at q
  lia
 ·rw[mh z]at q;exact(h a j q).keep (Pc z) (TS.new e),h.tab.new e⟩
def Fr.newO     (e:H p=Aa):Fr H G (upd H p o) (Wc G p mo):=⟨λa j h g _=>by
 have z:a≠p:=zg h e;exact⟨by rw[Pc z];exact h,by rw[mh z];exact g⟩⟩
def TS.write  (h:HR K H G)(g:G p=la mo):TS H (upd H p o):=⟨λa j e=>by
 have z:a≠p:=λz=>by subst z;rw[h.tupNone e]at g;cases g
 rw[Pc z];exact e,λa q e=>by
 have z:a≠p:=λz=>by subst z;rw[h.codNone e]at g;cases g
 rw[Pc z];exact e⟩
def HR.write  (h:HR K H G){mo mo':MO}(g:G p=la mo)(m:Si K (upd H p o) p mo'):HR K (upd H p o) (Wc G p mo'):=⟨λa j q=>by
 by_cases z:a=p
 ·subst z;rw[wf]at q
  lia
 ·rw[mh z]at q;exact(h a j q).keep (Pc z) (TS.write h g),h.tabW g⟩
def Fr.write     (g:G p=la mo):Fr H G (upd H p o) (Wc G p mo'):=⟨λa j h n _=>by
 have z:a≠p:=λz=>by lia
 exact⟨by rw[Pc z];exact h,by rw[mh z];exact n⟩⟩
theorem Mb.length  : ∀{us } {vs },Mb K H us vs->us.length=vs.length
 |[],_,h=>by cases h;rfl
 |_::_,_,h=>by
  obtain⟨v,q,rfl,_,j⟩:=h;simp[j.length]
theorem Mb.append  : ∀{us ws } {vs xs },Mb K H us vs->Mb K H ws xs->Mb K H (us++ws) (vs++xs)
 |[],_,_,_,h,h'=>by cases h;exact h'
 |_::_,_,_,_,h,h'=>by
  obtain⟨v,q,rfl,r,j⟩:=h;exact⟨v,q++_,rfl,r,j.append h'⟩
theorem Mb.get  : ∀{us } {vs } {i:Nat} {u },Mb K H us vs->us[i]?=la u->∃v,vs[i]?=la v/\RU K H u v
 |[],_,_,_,_,e=>by simp at e
 |_::_,_,0,_,h,e=>by
  obtain⟨v,q,rfl,r,_⟩:=h
  simp_all
 |_::_,_,i+1,_,h,e=>by
  obtain⟨v,q,rfl,_,j⟩:=h;obtain⟨w,y,F⟩:=j.get (i:=i) (by simpa using e)
  simp_all
theorem Mb.take  : ∀{us } {vs } n ,Mb K H us vs->Mb K H (us.take n) (vs.take n)
 |_,_,0,_=>rfl
 |[],_,_+1,h=>by cases h;rfl
 |_::_,_,n+1,h=>by
  obtain⟨v,q,rfl,r,j⟩:=h;exact⟨v,q.take n,rfl,r,j.take n⟩
theorem Mb.drop  : ∀{us } {vs } n ,Mb K H us vs->Mb K H (us.drop n) (vs.drop n)
 |_,_,0,h=>h
 |[],_,_+1,h=>by cases h;rfl
 |_::_,_,n+1,h=>by
  obtain⟨v,q,rfl,_,j⟩:=h;exact j.drop n
theorem Mb.set    (r:RU K H u v):∀{us } {vs } i ,Mb K H us vs->Mb K H (us.set i u) (vs.set i v)
 |[],_,_,h=>by cases h;rfl
 |_::_,_,0,h=>by
  obtain⟨w,y,rfl,_,j⟩:=h;exact⟨v,y,rfl,r,j⟩
 |_::_,_,i+1,h=>by
  obtain⟨w,y,rfl,q,j⟩:=h;exact⟨w,y.set i v,rfl,q,j.set r i⟩
theorem Mb.reverse  : ∀{us } {vs },Mb K H us vs->Mb K H us.reverse vs.reverse
 |[],_,h=>by cases h;rfl
 |_::_,_,h=>by
  obtain⟨v,q,rfl,r,j⟩:=h;rw[Ip,Ip];exact j.reverse.append ⟨v,[],rfl,r,rfl⟩
theorem Mb.rep    (h:Mb K H us vs):∀k ,Mb K H (Kb k us).flatten (Kb k vs).flatten
 |0=>rfl
 |k+1=>by
  rw[Ji,Ji,Lm,Lm];exact h.append (h.rep k)
theorem Mb.erase  : ∀{us } {vs } i ,Mb K H us vs->Mb K H (us.eraseIdx i) (vs.eraseIdx i)
 |[],_,_,h=>by cases h;rfl
 |_::_,_,0,h=>by
  obtain⟨v,q,rfl,_,j⟩:=h;exact j
 |_::_,_,i+1,h=>by
  obtain⟨v,q,rfl,r,j⟩:=h;exact⟨v,_,rfl,r,j.erase i⟩
def Mb.dropLast    (h:Mb K H us vs):Mb K H us.dropLast vs.dropLast:=by
 rw[mJ,mJ,h.length];exact h.take _
theorem Mb.atI {us:List U}{vs:List V}{i:Int}{u:U}(h:Mb K H us vs)(e:atI us i=la u):∃v,L2.atI vs i=la v/\RU K H u v:=by
 unfold L2.atI at e ⊢;rw[h.length]at e;cases q:gg vs.length i with
 |none=>simp_all
 |some j=>
  rw[q]at e;exact h.get e
def Mb.cut    (h:Mb K H us vs) lo hi:Mb K H (Z.cut us lo hi) (cutV vs lo hi):=by
 unfold Z.cut cutV;rw[h.length];exact(h.drop _).take _
theorem Mb.isEmpty    (h:Mb K H us vs):us.isEmpty=vs.isEmpty:=by
 cases us with
 |nil=>cases h;rfl
 |cons u us=>obtain⟨v,j,rfl,_⟩:=h;rfl
theorem Mb.ints  : ∀{us } {vs } {ns },Mb K H us vs->ij us=la ns->vs=ns.map V.int
 |[],_,_,h,e=>by cases h;cases e;rfl
 |u::us,_,ns,h,e=>by
  obtain⟨v,y,rfl,r,j⟩:=h;cases u with
  |int i=>
   cases r;rw[ij]at e;cases q:ij us with
   |none=>lia
   |some l=>rw[q]at e;cases e;rw[j.ints q];rfl
  |_=>cases e
def HR.lst  (h:HR K H G)(e:G a=la (.lst us)):∃vs,H a=la (.lst vs)/\Mb K H us vs:=h a _ e
def HR.ls  (h:HR K H G)(e:Bc G a=la us):∃vs,Nd K H a vs/\Mb K H us vs:=by
 unfold Bc at e;split at e
 ·rename_i j q;cases e;obtain⟨vs,q2,r⟩:=h a _ q;exact⟨vs,.inl (.inl q2),r⟩
 ·rename_i j q;cases e;obtain⟨o,vs,q2,r⟩:=h a _ q;exact⟨vs,.inl (.inr ⟨o,q2⟩),r⟩
 lia
def HR.rd  (h:HR K H G)(e:Bc G a=la us):∃vs,Rd H a (.lst vs)/\Mb K H us vs:=by
 unfold Bc at e;split at e
 ·rename_i j q;cases e;obtain⟨vs,q2,r⟩:=h a _ q;exact⟨vs,.inl q2,r⟩
 ·rename_i j q;cases e;obtain⟨o,vs,q2,r⟩:=h a _ q;exact⟨vs,.inr ⟨o,q2⟩,r⟩
 lia
end
mutual
theorem DU.dv {K:Lb}{H:Hp}{G:Gp}(h:HR K H G):∀{u:U} {d:Va} {v:V},DU G u d->RU K H u v->DV K H v d
 |_,_,_,.non,r=>by cases r;exact .non
 |_,_,_,.bl b,r=>by cases r;exact .bl b
 |_,_,_,.int i,r=>by cases r;exact .int i
 |_,_,_,.str x,r=>by cases r;exact .str x
 |_,_,_,.tup q,r=>by
  obtain⟨a,y,rfl,s,j⟩:=r
  exact .tup (.of s) (Hg.dv h q j)
 |_,_,_,.lst e q,r=>by
  cases r
  obtain⟨y,s,j⟩:=h.rd e
  exact .lst s (Hg.dv h q j)
 |_,_,_,.dic e,r=>by
  cases r
  obtain⟨l,q,j⟩:=h _ _ e
  cases j
  exact .dic q
theorem Hg.dv {K:Lb}{H:Hp}{G:Gp}(h:HR K H G):∀{us:List U} {j:List Va} {vs:List V},Hg G us j->Mb K H us vs->cg K H vs j
 |_,_,_,.nil,r=>by cases r;exact .nil
 |_,_,_,.cons a b,r=>by
  obtain⟨v,y,rfl,r1,q⟩:=r
  exact .cons (DU.dv h a r1) (Hg.dv h b q)
end
end Z

namespace L2
open PySem
def PE.imp     (h:PE X e t)(i:∀j H Q,t' j H Q->t j H Q):PE X e t':=λy s j H Q I q=>h y s j H Q I (i j H Q q)
def PT.imp     (h:PT X e t)(i:∀j H Q,t' j H Q->t j H Q):PT X e t':=λy s j H Q I q=>h y s j H Q I (i j H Q q)
def PW.imp     (h:PW X e t)(i:∀j H Q,t' j H Q->t j H Q):PW X e t':=λw y s j H Q I q=>h w y s j H Q I (i j H Q q)
def PA.imp     (h:PA X e t)(i:∀j H Q,t' j H Q->t j H Q):PA X e t':=λF y s j H Q I q=>h F y s j H Q I (i j H Q q)
def PO.imp     (h:PO X e t)(i:∀j H Q,t' j H Q->t j H Q):PO X e t':=λy s j H Q I q=>h y s j H Q I (i j H Q q)
def PS.imp     (h:PS X e t)(i:∀D j H,t' D j H->t D j H):PS X e t':=λy s j H D I q=>h y s j H D I (i D j H q)
def xf.imp     (h:xf X e t)(i:∀D j H,t' D j H->t D j H):xf X e t':=λy s j H D I q=>h y s j H D I (i D j H q)
end L2
namespace Z
open PySem L2
noncomputable def gK  (K:Lb):Str->Option Da:=λx=>(ol K Ue x).join
def XD  (K:Lb)(H:Hp)(C f:Ca)(x:XV):Prop:=1<=x.c/\x.c<6/\XCls K (gK K) (clsN x.c) (clsF x.c) C/\∃l,H f=la (.xd l)/\l.map (·.1)=clsF x.c/\Mb K H x.fs (l.map (·.2))
def CJ  (X:Cx)(H:Hp)(s:Ia)(e:Da)(x:XV):Prop:=∃j C f,e=.ref j/\Lies X.s₀.heap.objs.size X.pn H s.heap j (.ref C) (la f)/\XD X.K H C f x
section
variable (X:Cx)
def LX (j:St)(H:Hp)(G:Gp)(E:KX):Prop:=∀(f:List (Ca×Obj)) (e:Da) (s':Ia) (x:XV) (G':Gp) (H':Hp),Oa X f j H' s'->CJ X H' s' e x->HR X.K H' G'->Fr H G H' G'->E x G'->X.xe e s'
def LV (H:Hp)(G:Gp)(Q:K1)(q:VK):Prop:=∀w v j f,RU X.K f w v->HR X.K f j->Fr H G f j->Q w j->q v f
def lE (t:UE):TE:=λj H q=>∃f G Q E,SR X.K H f j/\HR X.K H G/\t f G Q E/\LV X H G Q q/\LX X j H G E
def lT (t:UT):TT:=λy H z=>∃q G Q E,SR X.K H q y/\HR X.K H G/\t q G Q E/\(∀b j f,HR X.K f j->Fr H G f j->Q b j->z b f)/\LX X y H G E
def lA (t:UA):TA:=λz H I=>∃y G Q E,SR X.K H y z/\HR X.K H G/\t y G Q E/\(∀q F j f,Mb X.K f q F->HR X.K f j->Fr H G f j->Q q j->I F f)/\LX X z H G E
def lO (t:Sg->Gp->(Option Int->Gp->Prop)->KX->Prop):TO:=λy H z=>∃q G Q E,SR X.K H q y/\HR X.K H G/\t q G Q E/\(∀o j f,HR X.K f j->Fr H G f j->Q o j->z o f)/\LX X y H G E
end
section
variable {X:Cx}{σ:St}{H H1 H2:Hp}{G G1 G2:Gp}
def LX.fr  {E:KX}(h:LX X σ H G E)(f:Fr H G H1 G1):LX X σ H1 G1 E:=λj e R x F y I a J O q=>h j e R x F y I a J (f.trans O) q
def LV.fr    (h:LV X H G Q Q0)(f:Fr H G H1 G1):LV X H1 G1 Q Q0:=λw v j F r y I q=>h w v j F r y (f.trans I) q
def LV.here    (h:LV X H G Q Q0)(r:RU X.K H w v)(j:HR X.K H G)(q:Q w G):Q0 v H:=h w v G H r j (Fr.refl _ _) q
def LV.bl    (h:LV X H G Q Q0)(j:HR X.K H G)(q:Q (.bl b) G):Q0 (.bl b) H:=h.here (w:=.bl b) rfl j q
def LV.int    (h:LV X H G Q Q0)(j:HR X.K H G)(q:Q (.int b) G):Q0 (.int b) H:=h.here (w:=.int b) rfl j q
def LV.str    (h:LV X H G Q Q0)(j:HR X.K H G)(q:Q (.str b) G):Q0 (.str b) H:=h.here (w:=.str b) rfl j q
def LV.tup    (h:LV X H G Q Q0)(e:H p=Aa)(r:Mb X.K H us vs)(j:HR X.K H G)(q:Q (.tup us) G):Q0 (.ref p) (upd H p (.tup vs)):=
 h (.tup us) (.ref p) G _ ⟨p,vs,rfl,fg,r.ts (TS.new e)⟩ (j.newT e) (Fr.new e) q
def LV.lst    (h:LV X H G Q Q0)(e:H p=Aa)(r:Mb X.K H us vs)(j:HR X.K H G)(q:newO G (.lst us) Q):Q0 (.ref p) (upd H p (.lst vs)):=
 h (.loc p) (.ref p) _ _ rfl (j.newO (mo:=.lst us) e ⟨vs,fg,r.ts (TS.new e)⟩) (Fr.newO e) (q.at p (j.nope e))
def LV.wl    (h:LV X H G Q Q0)(g:G p=la mo)(r:Mb X.K H us vs)(j:HR X.K H G)(y:RU X.K H w v)(q:putO G p (.lst us) (Q w)):Q0 v (upd H p (.lst vs)):=
 h w v _ _ (y.ts (TS.write j g)) (j.write (mo':=.lst us) g ⟨vs,fg,r.ts (TS.write j g)⟩) (Fr.write g) q.at
end

def lE.two  {R:V->V->Hp->Prop}{k:U->U->Gp->K1->Prop}(h:lE X (λF G Q E=>ta F G (λx Z=>tb F Z (λy O=>k x y O Q) E) E) σ H Q0)
  (f:∀x y v j G q Q,RU X.K q x v->RU X.K q y j->HR X.K q G->k x y G Q->LV X q G Q Q0->R v j q):lE X ta σ H λv H1=>lE X tb σ H1 λj H2=>R v j H2:=by
 obtain⟨F,G,Q,E,J,hG,h,lv,lx⟩:=h;refine⟨F,G,_,E,J,hG,h,λx v Z H1 rx I f1 h1=>?_,lx⟩;refine⟨F,Z,_,E,J.ts (f1.ts hG),I,h1,λy j O H2 ry Y f2 h2=>?_,lx.fr f1⟩;exact f x y v j O H2 Q (rx.ts (f2.ts I)) ry Y h2 (lv.fr (f1.trans f2))
def lE.one  {R:V->Hp->Prop}{k:U->Gp->K1->Prop}(h:lE X (λq G Q E=>ta q G (λx F=>k x F Q) E) σ H Q0)
  (f:∀x v G j Q,RU X.K j x v->HR X.K j G->k x G Q->LV X j G Q Q0->R v j):lE X ta σ H R:=by
 obtain⟨q,G,Q,E,I,J,h,O,lx⟩:=h;exact⟨q,G,_,E,I,J,h,λx v F Z rx y Y h1=>f x v F Z Q rx y h1 (O.fr Y),lx⟩
def lE.many    {k:List U->Gp->K1->Prop}(h:lE X (λq G Q E=>ta q G (λx F=>k x F Q) E) σ H Q0)
  (f:∀x v G j Q,Mb X.K j x v->HR X.K j G->k x G Q->LV X j G Q Q0->R v j):lA X ta σ H R:=by
 obtain⟨q,G,Q,E,I,J,h,O,lx⟩:=h;exact⟨q,G,_,E,I,J,h,λx v F Z rx y Y h1=>f x v F Z Q rx y h1 (O.fr Y),lx⟩

def wM    (I:X.N[i]?=la x)(y:gq X.env.scope x)(hd:(x==("__debug__" : Str))=ua)(f:(x==("__classdict__" : Str))=ua):PE X (.Name x pos) (lE X λq G Q _=>slot q i λu=>Q u G):=by
 refine(VO I y hd f).imp λR H O h=>?_;obtain⟨q,G,Q,E,j,F,h,J,_⟩:=h;unfold slot at h;split at h
 ·rename_i u e;obtain⟨v,z,r⟩:=j.2 i u e;exact⟨v,z,J.here r F h⟩
 lia
def gm     (h:PE X e (tC v))(r:∀H,RU X.K H u v):PE X e (lE X λ_ G Q _=>Q u G):=
 h.imp λ_ _ _ ⟨_,_,_,_,_,j,q,f,_⟩=>f.here (r _) j q
def Nj  (X:Cx)(f:Da->Da->Sem Da)(b:U->U->Gp->K1->Prop):Prop:=
 ∃r:R2,Cc X f r/\∀x y v j G H Q q,RU X.K H x v->RU X.K H y j->HR X.K H G->b x y G Q->LV X H G Q q->r v j H q

def eM    (Y:Nj X (Oe o) k)(O:PE X a (lE X ta))(I:PE X b (lE X tb)) :
  PE X (.BinOp a o b pos) (lE X λf G Q E=>ta f G (λx G1=>tb f G1 (λy j=>k x y j Q) E) E):=by
 obtain⟨r,h1,h2⟩:=Y;exact(QK h1 O I).imp λσ H z h=>lE.two h λx y v J G F Q rx ry R q Z=>h2 x y v J G F Q z rx ry R q Z
def VM  : Nj X (Oe .Add) addU:=by
 refine⟨_,JM.or (FT.or ((pP (X:=X)).or (KM.or oP))),?_⟩;intro x y v v' G H Q Q0 F I f h j;cases x<;>try exact h.elim
 ·cases y<;>try exact h.elim
  cases F;cases I;exact .inr (.inr (.inr (.inr ⟨_,_,rfl,rfl,j.int f h⟩)))
 ·cases y<;>try exact h.elim
  cases F;cases I;exact .inl ⟨_,_,rfl,rfl,j.int f h⟩
 ·cases y<;>try exact h.elim
  cases F;cases I;exact .inr (.inl ⟨_,_,rfl,rfl,h.1,j.str f h.2⟩)
 ·cases y<;>try exact h.elim
  rename_i Z ys;obtain⟨a,O,rfl,s1,r1⟩:=F;obtain⟨b,J,rfl,s2,r2⟩:=I;obtain⟨Y,q⟩:=h;refine .inr (.inr (.inl ⟨a,b,O,J,rfl,rfl,.of s1,.of s2,by rw[<- r1.length,<- r2.length];exact Y,λz=>?_,λ_ z=>?_,λ_ _ p R=>?_⟩))
  ·have:Z=[]:=by have:=r1.length;simp_all
   subst this;exact j.here (w:=.tup ys) ⟨b,J,rfl,s2,r2⟩ f q
  ·have:ys=[]:=by have:=r2.length;simp_all
   subst this;rw[vh]at q;exact j.here (w:=.tup Z) ⟨a,O,rfl,s1,r1⟩ f q
  ·exact j.tup R (r1.append r2) f q
 ·cases y<;>try exact h.elim
  cases F;cases I;obtain⟨Z,ys,g1,g2,Y,q⟩:=h;obtain⟨O,e1,r1⟩:=f.lst g1;obtain⟨J,e2,r2⟩:=f.lst g2;exact .inr (.inr (.inr (.inl ⟨_,_,O,J,rfl,rfl,e1,e2,by rw[<- r1.length,<- r2.length];exact Y,λp R=>j.lst R (r1.append r2) f q⟩)))
def aN  : Nj X (Oe .Sub) subU:=by
 refine⟨_,UM.or (uP (X:=X)),?_⟩;intro x y v I G H Q F z q f h j;cases x<;>try exact h.elim
 all_goals cases y<;>try exact h.elim
 all_goals cases z;cases q
 ·exact .inr (.inl ⟨_,_,rfl,rfl,j.int f h⟩)
 ·exact .inr (.inr ⟨_,_,rfl,rfl,j.int f h⟩)
 ·exact .inl ⟨_,_,rfl,rfl,j.int f h⟩
def YM  : Nj X (Oe .Mult) mulU:=by
 refine⟨_,QM.or (TM.or ((tP (X:=X)).or sP)),?_⟩;intro x y v v' G H Q Q0 I J f h j;cases x<;>try exact h.elim
 all_goals cases y<;>try exact h.elim
 ·cases I;cases J;exact .inl ⟨_,_,rfl,rfl,h.1,j.int f h.2⟩
 ·cases I;cases J;exact .inr (.inr (.inr ⟨_,_,rfl,rfl,h.1,h.2.1,h.2.2.1,j.str f h.2.2.2⟩))
 ·rename_i F k;obtain⟨a,O,rfl,s1,r1⟩:=I;cases J;obtain⟨h0,h1,Z,Y,q⟩:=h;refine .inr (.inr (.inl ⟨a,k,O,rfl,rfl,.of s1,?_,h1,Z,by rw[<- r1.length];exact Y,λz=>?_,λ_ p R=>j.tup R (r1.rep _) f q⟩))
  ·intro z;subst z;exact h0 (by have:=r1.length;simp_all)
  ·subst z;have e:(Kb (Uj 1) F).flatten=F:=by simp
   rw[e]at q;exact j.here (w:=.tup F) ⟨a,O,rfl,s1,r1⟩ f q
 ·cases I;cases J;obtain⟨F,g1,h1,Z,Y,q⟩:=h;obtain⟨O,e1,r1⟩:=f.lst g1;exact .inr (.inl ⟨_,_,O,rfl,rfl,e1,h1,Z,by rw[<- r1.length];exact Y,λp R=>j.lst R (r1.rep _) f q⟩)
def vP  : Nj X (Oe .FloorDiv) MA:=by
 refine⟨_,rP,?_⟩;intro x y v I G H Q F z q f h j;cases x<;>try exact h.elim
 cases y<;>try exact h.elim
 ·cases z;cases q;exact⟨_,_,rfl,rfl,⟨h.1,h.2.1⟩,j.int f h.2.2⟩
def XM  : Nj X (Oe .Mod) modU:=by
 refine⟨_,PM,?_⟩;intro x y v I G H Q F z q f h j;cases x<;>try exact h.elim
 cases y<;>try exact h.elim
 ·cases z;cases q;exact⟨_,_,rfl,rfl,h.1,j.int f h.2⟩
def ZM  : Nj X (Oe .Pow) powU:=by
 refine⟨_,SM,?_⟩;intro x y v I G H Q F z q f h j;cases x<;>try exact h.elim
 cases y<;>try exact h.elim
 ·cases z;cases q;exact⟨_,_,rfl,rfl,h.1,j.int f h.2⟩
def WM   o:Nj X (Oe o) (binU o):=by
 cases o with
 |Add=>exact VM
 |Sub=>exact aN
 |Mult=>exact YM
 |FloorDiv=>exact vP
 |Mod=>exact XM
 |Pow=>exact ZM
 |_=>exact⟨λ_ _ _ _=>False,λ_ _ _ _ _ _ _ _ _ _ _ _ h=>h.elim,λ_ _ _ _ _ _ _ _ _ _ _ h _=>h⟩
def oM  (j:PE X a (lE X ta)):PE X (.UnaryOp .USub a pos) (lE X λf G Q E=>ta f G (λx F=>negU x F Q) E):=by
 refine(RK eO j).imp λR H J h=>lE.one h λx v G O Q I y q z=>?_;cases x<;>try exact q.elim
 cases I;exact⟨_,rfl,z.int y q⟩
def Ol  (X:Cx)(o:oq):Prop:=
 ∃r:R2,Cc X (ee o) r/\∀x y v v' G H (k:Bool->Prop) (Q0:VK),RU X.K H x v->RU X.K H y v'->HR X.K H G->cmpU o x y G k->(∀c,k c->Q0 (.bl c) H)->r v v' H Q0

def qA  (f:Bool):R2:=λx y H Q=>((x=.non\/∃b,x=.bl b)\/(y=.non\/∃b,y=.bl b))/\Q (.bl (if f then !decide (x=y) else decide (x=y))) H
def fD    (j:RelV x v)(f:RelV y u)(h:(x=.non\/∃b,x=.bl b)\/(y=.non\/∃b,y=.bl b)):plainIs v u=ma/\(v==u)=decide (x=y):=by
 rcases h with(rfl|⟨b,rfl⟩)|(rfl|⟨b,rfl⟩)
 ·cases j;cases y with
  |non=>cases f;exact⟨rfl,by simp⟩
  |bl c=>cases f;exact⟨rfl,by simp⟩
  |int _=>obtain⟨t,rfl⟩:=f;exact⟨rfl,by simp⟩
  |str _=>obtain⟨t,rfl⟩:=f;exact⟨rfl,by simp⟩
  |byt _=>obtain⟨t,rfl⟩:=f;exact⟨rfl,by simp⟩
  |flt _=>obtain⟨t,rfl⟩:=f;exact⟨rfl,by simp⟩
  |ref _=>cases f;exact⟨rfl,by simp⟩
  |ty _=>cases f;exact⟨rfl,by simp⟩
 ·cases j;cases y with
  |non=>cases f;exact⟨rfl,by simp⟩
  |bl c=>cases f;exact⟨rfl,by lia⟩
  |int _=>obtain⟨t,rfl⟩:=f;exact⟨rfl,by simp⟩
  |str _=>obtain⟨t,rfl⟩:=f;exact⟨rfl,by simp⟩
  |byt _=>obtain⟨t,rfl⟩:=f;exact⟨rfl,by simp⟩
  |flt _=>obtain⟨t,rfl⟩:=f;exact⟨rfl,by simp⟩
  |ref _=>cases f;exact⟨rfl,by simp⟩
  |ty _=>cases f;exact⟨rfl,by simp⟩
 ·cases f;cases x with
  |non=>cases j;exact⟨rfl,by simp⟩
  |bl c=>cases j;exact⟨rfl,by simp⟩
  |int _=>obtain⟨t,rfl⟩:=j;exact⟨rfl,by simp⟩
  |str _=>obtain⟨t,rfl⟩:=j;exact⟨rfl,by simp⟩
  |byt _=>obtain⟨t,rfl⟩:=j;exact⟨rfl,by simp⟩
  |flt _=>obtain⟨t,rfl⟩:=j;exact⟨rfl,by simp⟩
  |ref _=>cases j;exact⟨rfl,by simp⟩
  |ty _=>cases j;exact⟨rfl,by simp⟩
 ·cases f;cases x with
  |non=>cases j;exact⟨rfl,by simp⟩
  |bl c=>cases j;exact⟨rfl,by lia⟩
  |int _=>obtain⟨t,rfl⟩:=j;exact⟨rfl,by simp⟩
  |str _=>obtain⟨t,rfl⟩:=j;exact⟨rfl,by simp⟩
  |byt _=>obtain⟨t,rfl⟩:=j;exact⟨rfl,by simp⟩
  |flt _=>obtain⟨t,rfl⟩:=j;exact⟨rfl,by simp⟩
  |ref _=>cases j;exact⟨rfl,by simp⟩
  |ty _=>cases j;exact⟨rfl,by simp⟩
def OM  : Cc X (ee .Is) (qA ua):=by
 intro f s O H x y v u Q I F z h;obtain⟨c,q⟩:=h;obtain⟨J,j⟩:=fD F z c;refine wpAny_is_plain J ⟨.bl _,H,I,?_,q⟩;rw[j];rfl
def iT  : Cc X (ee .IsNot) (qA ma):=by
 intro f s O H x y v u Q I F z h;obtain⟨c,q⟩:=h;obtain⟨J,j⟩:=fD F z c;refine wpAny_isNot_plain J ⟨.bl _,H,I,?_,q⟩;rw[j];rfl
def FB       (j:RU K H x v)(f:RU K H y F)(h:Wh x y k):((v=.non\/∃b,v=.bl b)\/(F=.non\/∃b,F=.bl b))/\k (decide (v=F)):=by
 have e:∀{a b:V},a≠b->k ua->k (decide (a=b)):=λn q=>by lia
 cases x<;>try exact h.elim
 ·cases y
  case non=>have J:k ma:=h;cases j;cases f;lia
  all_goals first
   |exact h.elim
   |(cases j;obtain⟨a,I,rfl,_⟩:=f;exact⟨.inl (.inl rfl),e (λz=>nomatch z) h⟩)
   |(cases j;cases f;exact⟨.inl (.inl rfl),e (λz=>nomatch z) h⟩)
 ·cases y<;>first
   |exact h.elim
   |(cases j;cases f;exact⟨.inr (.inl rfl),e (λz=>nomatch z) h⟩)
   |(cases j;cases f;rename_i b c;exact⟨.inl (.inr ⟨_,rfl⟩),by rw[decide_eq_decide.mpr (⟨λz=>V.bl.inj z,λz=>z ▸ rfl⟩:V.bl b=.bl c↔b=c)];exact h⟩)
 ·cases y<;>first
   |exact h.elim
   |(cases j;cases f;exact⟨.inr (.inl rfl),e (λz=>nomatch z) h⟩)
   |(cases j;cases f;exact⟨.inr (.inr ⟨_,rfl⟩),e (λz=>nomatch z) h⟩)
 ·cases y<;>first
   |exact h.elim
   |(cases j;cases f;exact⟨.inr (.inl rfl),e (λz=>nomatch z) h⟩)
   |(cases j;cases f;exact⟨.inr (.inr ⟨_,rfl⟩),e (λz=>nomatch z) h⟩)
 ·cases y<;>first
   |exact h.elim
   |(cases f;obtain⟨a,I,rfl,_⟩:=j;exact⟨.inr (.inl rfl),e (λz=>nomatch z) h⟩)
   |(cases f;obtain⟨a,I,rfl,_⟩:=j;exact⟨.inr (.inr ⟨_,rfl⟩),e (λz=>nomatch z) h⟩)
 ·cases y<;>first
   |exact h.elim
   |(cases j;cases f;exact⟨.inr (.inl rfl),e (λz=>nomatch z) h⟩)
   |(cases j;cases f;exact⟨.inr (.inr ⟨_,rfl⟩),e (λz=>nomatch z) h⟩)
def vB  {X: Cx}(F:RU X.K H x v)(j:RU X.K H y f)(I:HR X.K H G)(h:eqU x y G k) :
  (scal v f=ma/\k (decide (v=f)))\/∃d e,DV X.K H v d/\DV X.K H f e/\d.canLay0=ma/\e.canLay0=ma/\d.depth<=100/\k (Ud d e):=by
 have g:(∃d e,DU G x d/\DU G y e/\Small d/\Small e/\k (Ud d e))->(scal v f=ma/\k (decide (v=f)))\/∃d e,DV X.K H v d/\DV X.K H f e/\d.canLay0=ma/\e.canLay0=ma/\d.depth<=100/\k (Ud d e):=
  λ⟨d,e,R,O,⟨s1,s2⟩,⟨J,_⟩,q⟩=>.inr ⟨d,e,R.dv I F,O.dv I j,s1,J,s2,q⟩
 have e:∀{p:Prop} [Decidable p],¬p->k ua->k (decide p):=λn q=>by lia
 cases x<;>try exact g h
 all_goals
  cases y<;>first
   |exact g h
   |(cases F;cases j;exact .inl ⟨rfl,e (λz=>V.noConfusion z) h⟩)
   |(cases F;cases j;exact .inl ⟨rfl,by simp only[V.bl.injEq,V.int.injEq,V.str.injEq];exact h⟩)
def FS      (r:Mb K H us vs):vs.isEmpty=us.isEmpty:=by
 have:=r.length;cases us<;>cases vs<;>simp_all
def jQ  {X: Cx}(j:RU X.K H x v)(F:RU X.K H y I)(J:HR X.K H G)(h:JH x y G k):eqU x y G k\/(∃a z kvs,v=.ref a/\I=.str z/\H a=la (.dK kvs)/\k ua)\/(∃a b xs,v=.ref a/\I=.ref b/\td X.K H a xs/\td X.K H b []/\k xs.isEmpty)\/∃a z xs,v=.ref a/\I=.str z/\(td X.K H a xs\/Nd X.K H a xs)/\k ua:=by
 cases x<;>try exact .inl h
 all_goals cases y<;>try exact .inl h
 ·obtain⟨a,f,rfl,s1,r1⟩:=j;cases F;exact .inr (.inr (.inr ⟨a,_,f,rfl,rfl,.inl (.of s1),h⟩))
 ·rename_i O;cases O<;>try exact .inl h
  obtain⟨a,f,rfl,s1,r1⟩:=j;obtain⟨b,Y,rfl,s2,r2⟩:=F;cases r2;refine .inr (.inr (.inl ⟨a,b,f,rfl,rfl,.of s1,.of s2,?_⟩));rw[FS r1];exact h
 ·rcases h with⟨kvs,g,q⟩|⟨xs,g,q⟩|h
  ·cases j;cases F;obtain⟨l,e,R⟩:=J _ _ g;exact .inr (.inl ⟨_,_,l,rfl,rfl,e,q⟩)
  ·cases j;cases F;obtain⟨f,e,R⟩:=J.lst g;exact .inr (.inr (.inr ⟨_,_,f,rfl,rfl,.inr (.of e),q⟩))
  ·exact .inl h
def lj       (r:RU K H x v)(e:kU x=la k):v=kV k:=by
 cases x with
 |int i=>cases r;cases e;rfl
 |str i=>cases r;cases e;rfl
 |_=>cases e
theorem Os    : ∀{xs } {vs } {ks },Mb K H xs vs->Kk xs=la ks->vs=ks.map kV
 |[],_,_,r,e=>by cases r;cases e;rfl
 |x::xs,_,ks,r,e=>by
  obtain⟨v,y,rfl,r1,q⟩:=r;rw[Kk]at e;cases f:kU x with
  |none=>lia
  |some k=>
   cases j:Kk xs with
   |none=>lia
   |some l=>
    rw[f,j]at e;cases e;rw[lj r1 f,Os q j];rfl
def qt      (r:RU K H x v)(e:flat x=ma):jh v=ma:=by
 cases x<;>first|(cases r;rfl)|exact absurd (show ua=ma from e) (by decide)
theorem yt    : ∀{xs } {vs },Mb K H xs vs->xs.all flat=ma->vs.all jh=ma
 |[],_,r,_=>by cases r;rfl
 |x::xs,_,r,e=>by
  obtain⟨v,j,rfl,r1,f⟩:=r;rw[Op,Hf]at e;rw[Op,qt r1 e.1,yt f e.2];rfl
def TL      (r:RU K H x v)(j:RU K H y f)(e:flat x=ma)(q:flat y=ma):Ei v f=nh x y:=by
 cases x<;>first|(exact absurd (show ua=ma from e) (by decide))|(cases y<;>first|(exact absurd (show ua=ma from q) (by decide))|(cases r;cases j;rfl))
theorem Ts      (r:RU K H x v)(e:flat x=ma):∀{xs } {vs },Mb K H xs vs->xs.all flat=ma->ap v vs=xs.any λy=>nh y x
 |[],_,f,_=>by cases f;rfl
 |y::xs,_,f,e'=>by
  obtain⟨q,z,rfl,r1,f⟩:=f;rw[Op,Hf]at e';have j:=Ts r e f e'.2;unfold ap at j ⊢;rw[oh,oh,TL r1 r e'.1 e,j]
theorem im {κ:Type}[DecidableEq κ]{K:Lb}{H:Hp}(k:κ):∀{kvs:List (κ×U)} {l:List (κ×V)},Kd K H kvs l->match dGet kvs k with|some u=>∃v,valV l k=la v/\RU K H u v|none=>valV l k=Aa
 |[],_,r=>by cases r;exact rfl
 |(k',u)::kvs,_,r=>by
  obtain⟨v,j,rfl,r1,f⟩:=r;by_cases e:k'=k
  ·subst e;have:dGet ((k',u)::kvs) k'=la u:=by simp[dGet,Bj]
   rw[this];exact⟨v,Ct rfl,r1⟩
  ·have:dGet ((k',u)::kvs) k=dGet kvs k:=by simp[dGet,Bj,e]
   rw[this,Bt (p:=(k',v)) e];exact im k f
def jx   [DecidableEq κ](k:κ)(r:Kd K H kvs l):(valV l k).isSome=(dGet kvs k).isSome:=by
 have:=im k r
 grind
def rDIn  (f:Bool):R2:=λx y H Q=>∃a o,y=.ref a/\DGet H a x o/\Q (.bl (if f then !o.isSome else o.isSome)) H
def LM  (hu:X.A.units+1<Xb):Cc X (ee .In) (rDIn ua):=by
 intro f s J H x y v u Q I F z h;obtain⟨a,o,rfl,g,q⟩:=h;cases z;exact d_in hu I g F λO j=>⟨.bl o.isSome,H,j,rfl,q⟩
def eT  (hu:X.A.units+1<Xb):Cc X (ee .NotIn) (rDIn ma):=by
 intro f s J H x y v u Q I F z h;obtain⟨a,o,rfl,g,q⟩:=h;cases z;exact hQ hu I g F λO j=>⟨.bl (!o.isSome),H,j,rfl,q⟩
theorem Ww    : ∀{ns:List Int} {vs },Mb K H (ns.map .int) vs->vs=ns.map V.int
 |[],_,h=>h
 |n::ns,_,h=>by
  obtain⟨v,q,rfl,f,j⟩:=h;rw[Ww j];have f:v=.int n:=f;rw[f];rfl
def CB  {X: Cx}(z:RU X.K H x v)(ry:RU X.K H y v')(F:HR X.K H G)(h:ig x y G k) :
  (∃i j,v=.str i/\v'=.str j/\k (!(Xu j i 0 j.length 1).isEmpty))\/(∃p xs,v'=.ref p/\(Nd X.K H p xs\/td X.K H p xs)/\jh v=ma/\xs.all jh=ma/\k (ap v xs))\/
   (∃a o,v'=.ref a/\DGet H a v o/\k o.isSome)\/∃(p:Ca) (vs:List V) (d:Va) (Y:List Va),v'=.ref p/\(Nd X.K H p vs\/td X.K H p vs)/\DV X.K H v d/\cg X.K H vs Y/\d.canLay0=ma/\d.depth<=100/\(∀e∈Y,e.canLay0=ma)/\k (Y.any λe=>Ud e d):=by
 unfold ig at h;split at h
 ·cases z;cases ry;exact .inl ⟨_,_,rfl,rfl,h⟩
 ·obtain⟨a,vs,rfl,e,f⟩:=ry;obtain⟨d,Y,hd,O,sd,R,q⟩:=h;exact .inr (.inr (.inr ⟨a,vs,d,Y,rfl,.inr (.of e),hd.dv F z,O.dv F f,sd.1,sd.2,λe he=>(R e he).1,q⟩))
 ·obtain⟨a,vs,rfl,e,f⟩:=ry;obtain⟨J,I,q⟩:=h;exact .inr (.inl ⟨a,vs,rfl,.inr (.of e),qt z J,yt f I,by rw[Ts z J f I];exact q⟩)
 ·cases ry;rename_i a;split at h
  ·rename_i ys g;obtain⟨vs,e,f⟩:=F.lst g;rcases h with⟨J,I,q⟩|⟨d,Y,hd,O,sd,R,q⟩
   ·exact .inr (.inl ⟨a,vs,rfl,.inl (.of e),qt z J,yt f I,by rw[Ts z J f I];exact q⟩)
   ·exact .inr (.inr (.inr ⟨a,vs,d,Y,rfl,.inl (.of e),hd.dv F z,O.dv F f,sd.1,sd.2,λe he=>(R e he).1,q⟩))
  ·rename_i ys g;obtain⟨ob,vs,e,f⟩:=F a _ g;obtain⟨J,I,q⟩:=h;exact .inr (.inl ⟨a,vs,rfl,.inl (.inl (.inr ⟨ob,e⟩)),qt z J,yt f I,by rw[Ts z J f I];exact q⟩)
  ·rename_i Z g;obtain⟨l,e,f⟩:=F a _ g;split at h
   ·rename_i y ek;have:=lj z ek;subst this;exact .inr (.inr (.inl ⟨a,_,rfl,DGet.k e,by rw[jx y f];exact h⟩))
   lia
  ·rename_i Z g;obtain⟨l,e,f⟩:=F a _ g;split at h
   ·rename_i xs;obtain⟨b,vs,rfl,eb,rb⟩:=z;split at h
    ·rename_i y ek;have:=Os rb ek;subst this;exact .inr (.inr (.inl ⟨a,_,rfl,DGet.t e eb,by rw[jx y f];exact h⟩))
    lia
   lia
  ·rename_i o Z g;obtain⟨l,e,f⟩:=F a _ g;split at h
   ·rename_i y ek;have:=lj z ek;subst this;exact .inr (.inr (.inl ⟨a,_,rfl,.inl ⟨l,y,.inr ⟨o,e⟩,rfl,rfl⟩,by rw[jx y f];exact h⟩))
   lia
  lia
 lia
def uw     (h:ordU o x y k):(∃i j,x=.int i/\y=.int j)\/(o=.LtE/\∃i j,x=.str i/\y=.str j):=by
 cases o<;>try exact h.elim
 all_goals cases x<;>try exact h.elim
 all_goals cases y<;>try exact h.elim
 all_goals lia
def Zl   (hr:Room k X.A) o:Ol X o:=by
 have hu:X.A.units+1<Xb:=by have:=hr.un;lia
 cases o with
 |Eq=>
  refine⟨_,HK.or ((MM hr).or ((zU hr).or ((GT hr).or (EU hr)))),λx y v Z G H k Y J O R h q=>?_⟩;rcases jQ J O R h with h|⟨a,z,kvs,F,f,I,h4⟩|⟨a,b,xs,F,f,I,h4,h5⟩|⟨a,z,xs,F,f,I,h4⟩
  ·rcases vB J O R h with⟨F,f⟩|⟨d,e,F,f,I,h4,h5,h6⟩
   ·exact .inl ⟨F,q _ f⟩
   ·exact .inr (.inl ⟨d,e,F,f,I,h4,h5,q _ h6⟩)
  ·exact .inr (.inr (.inl ⟨a,z,kvs,F,f,I,q _ h4⟩))
  ·exact .inr (.inr (.inr (.inl ⟨a,b,xs,F,f,I,h4,q _ h5⟩)))
  ·exact .inr (.inr (.inr (.inr ⟨a,z,xs,F,f,I,q _ h4⟩)))
 |NotEq=>
  refine⟨_,MK.or (RM hr),λx y v Z G H k Y J O R h q=>?_⟩;rcases vB J O R h with⟨F,f⟩|⟨d,e,F,f,I,h4,h5,h6⟩
  ·exact .inl ⟨F,q _ f⟩
  ·exact .inr ⟨d,e,F,f,I,h4,h5,q _ h6⟩
 |Is=>
  refine⟨_,OM,λx y v Z G H k Y J O R h q=>?_⟩;obtain⟨F,f⟩:=FB J O h;exact⟨F,q _ f⟩
 |IsNot=>
  refine⟨_,iT,λx y v Z G H k Y J O R h q=>?_⟩;obtain⟨F,f⟩:=FB J O h;exact⟨F,q _ f⟩
 |In=>
  refine⟨_,gT.or ((fT (X:=X)).or ((LM hu).or (NM hr))),λx y v Z G H k Y J O R h q=>?_⟩;rcases CB J O R h with⟨i,j,F,f,I⟩|⟨p,xs,F,f,I,h4,h5⟩|⟨a,o,F,f,I⟩|⟨p,vs,d,ds,F,f,I,h4,h5,h6,h7,h8⟩
  ·grind
  ·exact .inr (.inl ⟨p,xs,F,f,I,h4,q _ h5⟩)
  ·exact .inr (.inr (.inl ⟨a,o,F,f,q _ I⟩))
  ·exact .inr (.inr (.inr ⟨p,vs,d,ds,F,f,I,h4,h5,h6,h7,q _ h8⟩))
 |NotIn=>
  refine⟨_,GU.or ((FU (X:=X)).or ((eT hu).or (kT hr))),λx y v Z G H k Y J O R h q=>?_⟩;rcases CB J O R h with⟨i,j,F,f,I⟩|⟨p,xs,F,f,I,h4,h5⟩|⟨a,o,F,f,I⟩|⟨p,vs,d,ds,F,f,I,h4,h5,h6,h7,h8⟩
  ·grind
  ·exact .inr (.inl ⟨p,xs,F,f,I,h4,q _ h5⟩)
  ·exact .inr (.inr (.inl ⟨a,o,F,f,q _ I⟩))
  ·exact .inr (.inr (.inr ⟨p,vs,d,ds,F,f,I,h4,h5,h6,h7,q _ h8⟩))
 |Lt=>
  refine⟨_,LK,λx y v Z G H k Y J O R h q=>?_⟩;obtain⟨i,j,rfl,rfl⟩|⟨z,_⟩:=uw h
  rotate_left
  ·cases z
  cases J;cases O;exact⟨_,_,rfl,rfl,q _ h⟩
 |LtE=>
  refine⟨_,JK.or jT,λx y v Z G H k Y J O R h q=>?_⟩;obtain⟨i,j,rfl,rfl⟩|⟨_,i,j,rfl,rfl⟩:=uw h
  ·cases J;cases O;exact .inl ⟨_,_,rfl,rfl,q _ h⟩
  ·cases J;cases O;exact .inr ⟨_,_,rfl,rfl,q _ h⟩
 |Gt=>
  refine⟨_,IK,λx y v Z G H k Y J O R h q=>?_⟩;obtain⟨i,j,rfl,rfl⟩|⟨z,_⟩:=uw h
  rotate_left
  ·cases z
  cases J;cases O;exact⟨_,_,rfl,rfl,q _ h⟩
 |GtE=>exact⟨λ_ _ _ _=>False,λ_ _ _ _ _ _ _ _ _ _ _ _ h=>h.elim,λ_ _ _ _ _ _ _ _ _ _ _ h _=>h.elim⟩

def gM   (Z:Ol X o)(Y:PE X a (lE X ta))(O:PE X b (lE X tb))(J:zu o b=ua) :
  PE X (.Compare a [o] [b] pos) (lE X λj G Q E=>ta j G (λx G1=>tb j G1 (λy f=>cmpU o x y f λc=>Q (.bl c) f) E) E):=by
 obtain⟨r,h1,h2⟩:=Z;exact(zP h1 Y O J).imp λσ H F h=>lE.two h λx y v R G I Q rx ry z q lv=>h2 x y v R G I _ F rx ry z q λc q=>lv.bl z q
def UN   (ho:Ol X o)(ja:Ol X o')(ha:PE X a (lE X ta))(hb:PE X b (lE X tb))(hc:PE X c (lE X tc))(hm:Ut [o,o'] [b,c]=ua) :
  PE X (.Compare a [o,o'] [b,c] pos) (lE X λj G Q E=>ta j G (λx G1=>tb j G1 (λy J=>cmpU o x y J λt=>if t=ma then tc j J (λz Z=>cmpU o' y z Z λt'=>Q (.bl t') Z) E else Q (.bl ua) J) E) E):=by
 obtain⟨r,h1,h2⟩:=ho;obtain⟨r',za,xa⟩:=ja;refine(yR h1 za ha hb hc hm).imp λσ H Q0 h=>?_;obtain⟨j,G,Q,E,F,hG,h,lv,lx⟩:=h;refine⟨j,G,_,E,F,hG,h,λx v G1 H1 rx I O h1=>?_,lx⟩;refine⟨j,G1,_,E,F.ts (O.ts hG),I,h1,λy v' J H2 ry f R h3=>?_,lx.fr O⟩;refine h2 x y v v' J H2 _ _ (rx.ts (R.ts I)) ry f h3 λt q=>⟨t,rfl,?_⟩;cases t with
 |false=>
  rw[if_neg Md]at q ⊢;exact(lv.fr (O.trans R)).bl f q
 |true=>
  rw[if_pos rfl]at q ⊢;refine⟨j,J,_,E,(F.ts (O.ts hG)).ts (R.ts I),f,q,λz v3 Z H3 rz Y f3 h4=>?_,lx.fr (O.trans R)⟩;exact xa y z v' v3 Z H3 _ Q0 (ry.ts (f3.ts f)) rz Y h4 λc q=>(lv.fr ((O.trans R).trans f3)).bl Y q
def vt  {X: Cx}(j:RU X.K H x v)(z:HR X.K H G)(h:truU x G k):∃b,TruV X.K v H b/\k b:=by
 cases x<;>try exact h.elim
 ·cases j;exact⟨_,rfl,h⟩
 ·cases j;exact⟨_,rfl,h⟩
 ·cases j;exact⟨_,rfl,h⟩
 ·cases j;exact⟨_,⟨h.1,rfl⟩,h.2⟩
 ·obtain⟨a,q,rfl,e,f⟩:=j;exact⟨_,.inr (.inl ⟨q,.of e,rfl⟩),by rw[<- f.isEmpty];exact h⟩
 ·cases j;unfold truU at h;dsimp only at h;split at h
  ·rename_i g;obtain⟨q,e,f⟩:=z.lst g;exact⟨_,.inl ⟨q,.of e,rfl⟩,by rw[<- f.isEmpty];exact h⟩
  ·rename_i g;obtain⟨F,q,e,f⟩:=z _ _ g;exact⟨_,.inl ⟨q,.inl (.inr ⟨F,e⟩),rfl⟩,by rw[<- f.isEmpty];exact h⟩
  ·rename_i y g;obtain⟨l,e,f⟩:=z _ _ g;refine⟨_,.inr (.inr ⟨l,e,rfl⟩),?_⟩;cases y with
   |nil=>cases f;exact h
   |cons p r=>obtain⟨v,I,rfl,_⟩:=f;exact h
  lia
def sM  (F:PE X a (lE X ta))(I:∀f,yf a X.env f=(do let v <- f;Lf a.pos;Uc [v] (truthy v))):PT X a (lT X λj G Q E=>ta j G (λx y=>truU x y λb=>Q b y) E):=by
 refine(DS F I).imp λZ H Y h=>?_;obtain⟨j,G,Q,E,z,J,h,lv,lx⟩:=h;refine⟨j,G,_,E,z,J,h,λx v y H1 O q f1 R=>?_,lx⟩;obtain⟨b,h2,h3⟩:=vt O q R
 grind
def VN   (ho:Ol X o)(ha:PE X a (lE X ta))(hb:PE X b (lE X tb))(hm:zu o b=ua) :
  PT X (.Compare a [o] [b] pos) (lT X λj G Q E=>ta j G (λx O=>tb j O (λy f=>cmpU o x y f λc=>truU (.bl c) f λc=>Q c f) E) E):=by
 obtain⟨r,J,h2⟩:=ho;refine(wQ J ha hb hm).imp λσ H Q0 h=>?_;obtain⟨j,G,Q,E,z,hG,h,lv,lx⟩:=h;refine⟨j,G,_,E,z,hG,h,λx v O H1 rx F R J=>?_,lx⟩;refine⟨j,O,_,E,z.ts (R.ts hG),F,J,λy v' f Z ry I Y h3=>?_,lx.fr R⟩;exact h2 x y v v' f Z _ _ (rx.ts (Y.ts F)) ry I h3 λt q=>⟨t,rfl,lv t f Z I (R.trans Y) q⟩
def UQ   (ho:Ol X o)(ja:Ol X o')(ha:PE X a (lE X ta))(hb:PE X b (lE X tb))(hc:PE X c (lE X tc))(hm:Ut [o,o'] [b,c]=ua) :
  PT X (.Compare a [o,o'] [b,c] pos) (lT X λF G Q E=>ta F G (λx G1=>tb F G1 (λy j=>cmpU o x y j λt=>if t=ma then tc F j (λz R=>cmpU o' y z R λt'=>truU (.bl t') R λc=>Q c R) E else truU (.bl ua) j λc=>Q c j) E) E):=by
 obtain⟨r,h1,h2⟩:=ho;obtain⟨r',za,xa⟩:=ja;refine(CS h1 za ha hb hc hm).imp λσ H Q0 h=>?_;obtain⟨F,G,Q,E,I,hG,h,lv,lx⟩:=h;refine⟨F,G,_,E,I,hG,h,λx v G1 H1 rx J O h1=>?_,lx⟩;refine⟨F,G1,_,E,I.ts (O.ts hG),J,h1,λy v' j H2 ry f Y h3=>?_,lx.fr O⟩;refine h2 x y v v' j H2 _ _ (rx.ts (Y.ts J)) ry f h3 λt q=>⟨t,rfl,?_⟩;cases t with
 |false=>
  rw[if_neg Md]at q ⊢;exact⟨ua,rfl,lv ua j H2 f (O.trans Y) q⟩
 |true=>
  rw[if_pos rfl]at q ⊢;refine⟨F,j,_,E,(I.ts (O.ts hG)).ts (Y.ts J),f,q,λz v3 R H3 rz Z f3 h4=>?_,lx.fr (O.trans Y)⟩;exact xa y z v' v3 R H3 _ _ (ry.ts (f3.ts f)) rz Z h4 λc q=>⟨c,rfl,lv c R H3 Z ((O.trans Y).trans f3) q⟩
def xP  {rest:List La}(O:PE X a sa)(J:PE X (.BoolOp .And (b::rest) pos) R):PE X (.BoolOp .And (a::b::rest) pos) (λj H Q=>sa j H λx q=>∃k,TruV X.K x q k/\if k=ma then R j q Q else Q x q):=by
 intro f s j H Q I h;refine PyProof.Rows.BoolOp_and (Pb (O f s j H _ I h) λv s1 ⟨x,q,Y,r1,k,hk,q1⟩=>?_);refine Pb (Ys f s1 j q x v (λc y=>c=k/\y=q) Y r1 ⟨k,hk,rfl,rfl⟩) λc s2 ⟨y,z,F,Z⟩=>?_;subst F Z;cases c with
 |true=>exact J f s2 j y Q z q1
 |false=>exact⟨x,y,z,r1,q1⟩
def kN  {rest:List La}(O:PE X a sa)(J:PE X (.BoolOp .Or (b::rest) pos) R):PE X (.BoolOp .Or (a::b::rest) pos) (λj H Q=>sa j H λx q=>∃k,TruV X.K x q k/\if k=ma then Q x q else R j q Q):=by
 intro f s j H Q I h;refine PyProof.Rows.BoolOp_or (Pb (O f s j H _ I h) λv s1 ⟨x,q,Y,r1,k,hk,q1⟩=>?_);refine Pb (Ys f s1 j q x v (λc y=>c=k/\y=q) Y r1 ⟨k,hk,rfl,rfl⟩) λc s2 ⟨y,z,F,Z⟩=>?_;subst F Z;cases c with
 |true=>exact⟨x,y,z,r1,q1⟩
 |false=>exact J f s2 j y Q z q1
def dM  {rest:List La}(Y:PE X a (lE X ta))(R:PE X (.BoolOp .And (b::rest) pos) (lE X tb)):PE X (.BoolOp .And (a::b::rest) pos) (lE X λj G Q E=>ta j G (λx q=>truU x q λc=>if c=ma then tb j q Q E else Q x q) E):=by
 refine(xP Y R).imp λσ H Q0 h=>?_;obtain⟨j,G,Q,E,y,I,h,J,lx⟩:=h;refine⟨j,G,_,E,y,I,h,λx v q H1 O f z h1=>?_,lx⟩;obtain⟨k,Z,F⟩:=vt O f h1;refine⟨k,Z,?_⟩;cases k with
 |true=>rw[if_pos rfl]at F ⊢;exact⟨j,q,Q,E,y.ts (z.ts I),f,F,J.fr z,lx.fr z⟩
 |false=>rw[if_neg Md]at F ⊢;exact(J.fr z).here O f F
def u_or  {rest:List La}(Y:PE X a (lE X ta))(R:PE X (.BoolOp .Or (b::rest) pos) (lE X tb)):PE X (.BoolOp .Or (a::b::rest) pos) (lE X λj G Q E=>ta j G (λx q=>truU x q λc=>if c=ma then Q x q else tb j q Q E) E):=by
 refine(kN Y R).imp λσ H Q0 h=>?_;obtain⟨j,G,Q,E,y,I,h,J,lx⟩:=h;refine⟨j,G,_,E,y,I,h,λx v q H1 O f z h1=>?_,lx⟩;obtain⟨k,Z,F⟩:=vt O f h1;refine⟨k,Z,?_⟩;cases k with
 |true=>rw[if_pos rfl]at F ⊢;exact(J.fr z).here O f F
 |false=>rw[if_neg Md]at F ⊢;exact⟨j,q,Q,E,y.ts (z.ts I),f,F,J.fr z,lx.fr z⟩
def pM  (ha:PE X a (lE X ta)):PE X (.UnaryOp .Not a pos) (lE X λy G Q E=>ta y G (λx F=>truU x F λb=>Q (.bl (!b)) F) E):=by
 intro f s O H Q0 I h;obtain⟨y,G,Q,E,z,hG,h,lv,lx⟩:=h;refine PyProof.Rows.UnaryOp_ (Pb (ha f s O H (λv j=>∃k,TruV X.K v j k/\Q0 (.bl (!k)) j) I ⟨y,G,_,E,z,hG,h,λx v F j rx q f1 h1=>?_,lx⟩) λv s1 ⟨x,j,Y,r1,k,hk,q1⟩=>?_)
 ·obtain⟨k,h2,Z⟩:=vt rx q h1;exact⟨k,h2,(lv.fr f1).bl q Z⟩
 ·refine PyProof.Rows.not_of (Pb (Ys f s1 O j x v (λc J=>c=k/\J=j) Y r1 ⟨k,hk,rfl,rfl⟩) λc s2 ⟨J,R,e1,e2⟩=>?_);subst e1 e2;exact⟨.bl (!c),J,R,rfl,q1⟩
def YN  {tB: UT}(hc:PT X c (lT X tA)){tC:UT}(ha:PT X a (lT X tB))(hb:PT X b (lT X tC)):PT X (.IfExp c a b pos) (lT X λq G Q E=>tA q G (λt f=>if t=ma then tB q f Q E else tC q f Q E) E):=by
 intro j s σ H Q0 I h;obtain⟨q,G,Q,E,F,hG,h,lv,lx⟩:=h;show wpAny _ _ (do if <- yf c X.env (Ib c X.env) then yf a X.env (Ib a X.env) else yf b X.env (Ib b X.env)) _ _ s
 refine Ab (Pb (hc j s σ H (λt O=>∃f,HR X.K O f/\Fr H G O f/\if t=ma then tB q f Q E else tC q f Q E) I ⟨q,G,_,E,F,hG,h,λt f O y z R=>⟨f,y,z,R⟩,lx⟩) λt s1 ⟨O,I1,f,y,z,R⟩=>?_)
 cases t with
 |true=>exact ha j s1 σ O Q0 I1 ⟨q,f,Q,E,F.ts (z.ts hG),y,R,λb Z H2 J Y h2=>lv b Z H2 J (z.trans Y) h2,lx.fr z⟩
 |false=>exact hb j s1 σ O Q0 I1 ⟨q,f,Q,E,F.ts (z.ts hG),y,R,λb Z H2 J Y h2=>lv b Z H2 J (z.trans Y) h2,lx.fr z⟩
def aO  (F:PT X a (lT X z)):PT X (.UnaryOp .Not a pos) (lT X λf G Q E=>z f G (λb q=>Q (!b) q) E):=by
 refine(xO F).imp λσ H Z h=>?_;obtain⟨f,G,Q,E,y,I,h,J,lx⟩:=h;exact⟨f,G,_,E,y,I,h,λb q R j O Y=>J (!b) q R j O Y,lx⟩
def SN  {tB: UT}{rest:List La}(Z:PT X a (lT X O))(hb:PW X (.BoolOp .And (b::rest) pos) (lT X tB)):PW X (.BoolOp .And (a::b::rest) pos) (lT X λf G Q E=>O f G (λc q=>if c=ma then tB f q Q E else Q ua q) E):=by
 refine(pw_and Z hb).imp λσ H Q0 h=>?_;obtain⟨f,G,Q,E,j,J,h,lv,lx⟩:=h;refine⟨f,G,_,E,j,J,h,λc q H1 y z I=>?_,lx⟩;cases c with
 |false=>grind
 |true=>rw[if_pos rfl]at I ⊢;exact⟨f,q,Q,E,j.ts (z.ts J),y,I,λb Y H2 F R h2=>lv b Y H2 F (z.trans R) h2,lx.fr z⟩
def qM  {tB: UT}{rest:List La}(Z:PT X a (lT X O))(hb:PW X (.BoolOp .Or (b::rest) pos) (lT X tB)):PW X (.BoolOp .Or (a::b::rest) pos) (lT X λf G Q E=>O f G (λc q=>if c=ma then Q ma q else tB f q Q E) E):=by
 refine(pw_or Z hb).imp λσ H Q0 h=>?_;obtain⟨f,G,Q,E,j,J,h,lv,lx⟩:=h;refine⟨f,G,_,E,j,J,h,λc q H1 y z I=>?_,lx⟩;cases c with
 |true=>grind
 |false=>rw[if_neg Md]at I ⊢;exact⟨f,q,Q,E,j.ts (z.ts J),y,I,λb Y H2 F R h2=>lv b Y H2 F (z.trans R) h2,lx.fr z⟩
def jM  (O:PT X c (lT X R))(Z:PE X a (lE X ta))(Y:PE X b (lE X tb)):PE X (.IfExp c a b pos) (lE X λf G Q E=>R f G (λt z=>if t=ma then ta f z Q E else tb f z Q E) E):=by
 refine(AR O Z Y).imp λσ H Q0 h=>?_;obtain⟨f,G,Q,E,j,I,h,J,lx⟩:=h;refine⟨f,G,_,E,j,I,h,λc z H1 y q F=>?_,lx⟩;cases c with
 |true=>rw[if_pos rfl]at F ⊢;exact⟨f,z,Q,E,j.ts (q.ts I),y,F,J.fr q,lx.fr q⟩
 |false=>rw[if_neg Md]at F ⊢;exact⟨f,z,Q,E,j.ts (q.ts I),y,F,J.fr q,lx.fr q⟩
end Z

namespace L2
open PySem PySem.Spec PyProof.Rows

def cM  (K:Lb)(F q:TE):TE:=λz H Q=>F z H λx I=>q z I λy f=>(∃a j,x=.ref a/\Nd K f a j/\
 ((y=.int 1/\∀p,f p=Aa->Q (.ref p) (upd f p (.lst j)))\/(y=.int (-1)/\∀p,f p=Aa->Q (.ref p) (upd f p (.lst j.reverse)))))\/
 ∃a j,x=.ref a/\td K f a j/\y=.int (-1)/\∀p,f p=Aa->Q (.ref p) (upd f p (.tup j.reverse))
def VQ  {st: La}(he:PE X e te)(hs:PE X st Z):PE X (.Subscript e (.Slice Aa Aa (la st) p2) pos) (cM X.K te Z):=by
 intro f s O H Q I h;refine mn (Pb (he f s O H _ I h) λv s1 ⟨x,H1,I1,r1,q1⟩=>?_);refine wpAny_Slice ?_;rw[Fy,evalPart_some];refine fc (fc ?_);refine Pb (hs f s1 O H1 _ I1 q1) λu j ⟨y,H3,I3,r3,q3⟩=>?_;have z:Oa X f O H3 { j with heap:=j.heap.push { cls:=.type "slice",data:=.fields #[.none,.none,u] } }:=I3.kept (t':=j.toks) λb ob q=>Fc _ q
 rcases q3 with⟨a,R,rfl,Y,q3⟩|⟨a,R,rfl,Y,rfl,q⟩
 ·cases r1;obtain⟨xa,r,F,hz⟩:=z.list Y;have J:=r.length;show wpAny (Ja X.prog X.w) X.A (qu e (.Slice Aa Aa (la st) p2) (.ref a) (.ref j.heap.objs.size)) (EP X f O Q) X.xe { j with heap:=j.heap.push { cls:=.type "slice",data:=.fields #[.none,.none,u] } }
  refine Pj (ops:=[.ref a,.ref j.heap.objs.size]) F.isList.typeIs Mf.lookup ?_ (by with_unfolding_all rfl)
  rcases q3 with⟨rfl,q⟩|⟨rfl,q⟩
  ·obtain⟨t,rfl⟩:=r3;refine Sz F.isList (fe.new ..) .none .none (.int 1 t) (by decide) ?_ (by simp_all)
   rw[ER];refine⟨.ref _,_,z.laid (t':=j.toks) (o:=.lst R) (λb ob q=>Fc _ q) (Db _) ?_,rfl,q _ (z.hok.fresh (Db _))⟩;exact⟨hz,_,0,r,Fe _ rfl⟩
  ·obtain⟨t,rfl⟩:=r3;refine Sz F.isList (fe.new ..) .none .none (.int (-1) t) (by decide) ?_ (by simp_all)
   rw[ZR];refine⟨.ref _,_,z.laid (t':=j.toks) (o:=.lst R.reverse) (λb ob q=>Fc _ q) (Db _) ?_,rfl,q _ (z.hok.fresh (Db _))⟩;exact⟨by simp_all,_,0,r.rev,Fe _ rfl⟩
 ·cases r1;obtain⟨t,rfl⟩:=r3;obtain⟨xa,r,F,hz⟩:=z.tuple Y;have J:=r.length;show wpAny (Ja X.prog X.w) X.A (qu e (.Slice Aa Aa (la st) p2) (.ref a) (.ref j.heap.objs.size)) (EP X f O Q) X.xe { j with heap:=j.heap.push { cls:=.type "slice",data:=.fields #[.none,.none,.int (-1) t] } }
  refine Pj (ops:=[.ref a,.ref j.heap.objs.size]) F.typeIs Qi.lookup ?_ (by with_unfolding_all rfl)
  refine HT.getItem_tuple_rev F (fe.new ..) ?_ (by lia)
  refine⟨.ref _,_,z.laid (t':=j.toks) (o:=.tup R.reverse) (λb ob q=>Fc _ q) (Db _) ?_,rfl,q _ (z.hok.fresh (Db _))⟩;exact⟨by simp_all,_,r.rev,TupD.new _ _⟩
end L2
namespace Z
open PySem L2
section
variable {X:Cx}{pos:Pos}{a b e:La}{es:List La}{ta tb te:UE}{ts:UA}
def Lk  : PA X [] (lA X λ_ G Q _=>Q [] G):=by
 refine eN.imp λF H y h=>?_;obtain⟨z,G,Q,E,q,f,h,j,lx⟩:=h;exact j [] [] G H rfl f (Fr.refl _ _) h
def Vk  (ha:PE X e (lE X te))(Z:PA X es (lA X ts))(hs:md (e::es) X.env=(ua,Ib e X.env)::md es X.env):PA X (e::es) (lA X λf G Q E=>te f G (λx z=>ts f z (λxs y=>Q (x::xs) y) E) E):=by
 refine(wP ha Z hs).imp λσ H Q0 h=>?_;obtain⟨f,G,Q,E,j,Y,h,lv,lx⟩:=h;refine⟨f,G,_,E,j,Y,h,λx v z H1 rx q F h1=>?_,lx⟩;refine⟨f,z,_,E,j.ts (F.ts Y),q,h1,λxs R y H2 J I O h2=>?_,lx.fr F⟩;exact lv (x::xs) (v::R) y H2 ⟨v,R,rfl,rx.ts (O.ts q),J⟩ I (F.trans O) h2
def vM   (h:PA X es (lA X ts)):PE X (.Tuple es k pos) (lE X λj G Q E=>ts j G (λus F=>us.length<=Za/\Q (.tup us) F) E):=
 (UO h).imp λO H I h=>lE.many h λus R G J Q r y q z=>⟨by rw[<- r.length];exact q.1,λp f=>z.tup f r y q.2⟩
def kM  (h:PA X es (lA X ts)):PE X (.List es pos) (lE X λj G Q E=>ts j G (λus F=>us.length<=Za/\newO F (.lst us) Q) E):=
 (iN h).imp λO H I h=>lE.many h λus R G J Q r y q z=>⟨by rw[<- r.length];exact q.1,λp f=>z.lst f r y q.2⟩
def rDix  : R2:=λx y H Q=>∃a v,x=.ref a/\DGet H a y (la v)/\Q v H
def NP  (hu:X.A.units+1<Xb):ii X rDix:=by
 intro z j F s σ H x y v u Q I R Y h O;obtain⟨a,w,rfl,g,q⟩:=h;cases R;exact PyProof.Rows.tail_any (qU I g) PySem.F.slot_dict_getitem.lookup (QR hu I g Y λw' Z J f=>⟨w,H,J,f,q⟩) O
def GB {H:Hp}{G:Gp}{y:U}{j:V}{Q:K1}{f:VK}{a:Ca}{xs:List U}{vs:List V}(h:match y with|.int i=>(match atI xs i with|some u=>Q u G|none=>False)|_=>False)
  (F:RU X.K H y j) (q:HR X.K H G) (z:LV X H G Q f) (J:Nd X.K H a vs) (rs:Mb X.K H xs vs):vv X.K (.ref a) j H f:=by
 cases y with
 |int i=>
  cases F;dsimp only at h;split at h
  ·rename_i u e;obtain⟨w,I,r⟩:=rs.atI e;exact .inl ⟨_,vs,_,w,rfl,rfl,J,I,z.here r q h⟩
  lia
 |_=>lia
def NN        (R:RU X.K H x v)(z:RU X.K H y Z)(f:HR X.K H G)(h:af x y G Q)(q:LV X H G Q Q0):vv X.K v Z H Q0\/rDix v Z H Q0:=by
 cases x<;>try exact h.elim
 ·cases y<;>try exact h.elim
  cases R;cases z;obtain⟨h1,h⟩:=h;split at h
  ·rename_i c O;exact .inl (.inr (.inr ⟨_,_,c,rfl,rfl,h1,O,q.str f h⟩))
  lia
 ·cases y<;>try exact h.elim
  obtain⟨a,Y,rfl,e,j⟩:=R;cases z;unfold af at h;dsimp only at h;split at h
  ·rename_i u O;obtain⟨w,F,r⟩:=j.atI O;exact .inl (.inr (.inl ⟨a,Y,_,w,rfl,rfl,.of e,F,q.here r f h⟩))
  lia
 ·cases R;unfold af at h;dsimp only at h;split at h
  ·rename_i g;obtain⟨Y,e,j⟩:=f.lst g;exact .inl (GB h z f q (.of e) j)
  ·rename_i g;obtain⟨ob,Y,e,j⟩:=f _ _ g;exact .inl (GB h z f q (.inl (.inr ⟨ob,e⟩)) j)
  ·rename_i I g;obtain⟨l,e,j⟩:=f _ _ g;split at h
   ·rename_i k J;have:=lj z J;subst this;split at h
    ·rename_i u eu;have:=im k j;rw[eu]at this;obtain⟨w,F,r⟩:=this;exact .inr ⟨_,w,rfl,by rw[<- F];exact DGet.k e,q.here r f h⟩
    lia
   lia
  ·rename_i I g;obtain⟨l,e,j⟩:=f _ _ g;split at h
   ·rename_i ys;obtain⟨b,bs,rfl,eb,rb⟩:=z;split at h
    ·rename_i k J;have:=Os rb J;subst this;split at h
     ·rename_i u eu;have:=im k j;rw[eu]at this;obtain⟨w,F,r⟩:=this;exact .inr ⟨_,w,rfl,by rw[<- F];exact DGet.t e eb,q.here r f h⟩
     lia
    lia
   lia
  ·rename_i o I g;obtain⟨l,e,j⟩:=f _ _ g;split at h
   ·rename_i k J;have:=lj z J;subst this;split at h
    ·rename_i u eu;have:=im k j;rw[eu]at this;obtain⟨w,F,r⟩:=this;exact .inr ⟨_,w,rfl,by rw[<- F];exact .inl ⟨l,k,.inr ⟨o,e⟩,rfl,rfl⟩,q.here r f h⟩
    lia
   lia
  lia
def u_ix  (hu:X.A.units+1<Xb)(F:PE X a (lE X ta))(z:PE X b (lE X tb))(hs:Bw b):PE X (.Subscript a b pos) (lE X λf G Q E=>ta f G (λx O=>tb f O (λy j=>af x y j Q) E) E):=
 (OK ((ON (X:=X)).or (NP hu)) F z hs).imp λσ H Z h=>lE.two h λx y v v' G H' Q Y R I q J=>NN Y R I q J
def u_no  : PO X Aa (lO X λ_ G Q _=>Q Aa G):=aR.imp λF H y h=>by
 obtain⟨z,G,Q,E,q,f,h,j,lx⟩:=h;exact j Aa G H f (Fr.refl _ _) h
def u_so (z:PE X e (lE X te)):PO X (la e) (lO X λf G Q E=>te f G (λx q=>match x with|.int i=>Q (la i) q|_=>False) E):=(bR z).imp λR H O h=>by
 obtain⟨f,G,Q,E,j,F,h,Y,lx⟩:=h;refine⟨f,G,_,E,j,F,h,λx v q H1 J I Z y=>?_,lx⟩;dsimp only at y;split at y
 ·cases J
  grind
 lia
def u_sl     (ha:PE X e (lE X te))(hl:PO X lo (lO X tl))(hh:PO X hi (lO X th)) :
  PE X (.Subscript e (.Slice lo hi Aa p2) pos) (lE X λF G Q E=>te F G (λx G1=>tl F G1 (λl G2=>th F G2 (λh G3=>Vi x l h G3 Q) E) E) E):=by
 refine(BR (dh.or (HQ (X:=X)) (dh.or GQ LO)) ha hl hh).imp λσ H Q0 h=>?_;obtain⟨F,G,Q,E,I,hG,h,lv,lx⟩:=h;refine⟨F,G,_,E,I,hG,h,λx v G1 H1 rx J R h1=>?_,lx⟩;refine⟨F,G1,_,E,I.ts (R.ts hG),J,h1,λl G2 H2 Y Z h2=>?_,lx.fr R⟩;refine⟨F,G2,_,E,(I.ts (R.ts hG)).ts (Z.ts J),Y,h2,λu G3 H3 j f3 q=>?_,lx.fr (R.trans Z)⟩;have y:=lv.fr ((R.trans Z).trans f3);have O:=rx.ts ((Z.ts J).trans (f3.ts Y));cases x<;>try exact q.elim
 ·cases O;exact .inr (.inr ⟨_,rfl,q.1,y.str j q.2⟩)
 ·obtain⟨a,f,rfl,ea,rs⟩:=O;by_cases z:HT.sIx f.length 0 l=0/\HT.sIx f.length f.length u=f.length
  ·refine .inl (.inr ⟨a,f,rfl,.of ea,z,?_⟩);refine y.here (w:=.tup _) ⟨a,f,rfl,ea,?_⟩ j q;have e2:cutV f l u=f:=by unfold cutV;simp_all
   have:=rs.cut l u
   lia
  ·exact .inl (.inl ⟨a,f,rfl,.of ea,z,λp hp=>y.tup hp (rs.cut l u) j q⟩)
 ·cases O;unfold Vi at q;dsimp only at q;split at q
  ·rename_i us eu;obtain⟨f,sq,rs⟩:=j.ls eu;exact .inr (.inl ⟨_,f,rfl,sq,λp hp=>y.lst hp (rs.cut l u) j q⟩)
  lia
def rM    (ha:PE X a (lE X ta))(hb:PE X st (lE X tb)):PE X (.Subscript a (.Slice Aa Aa (la st) p2) pos) (lE X λJ G Q E=>ta J G (λx G1=>tb J G1 (λy Z=>revU x y Z Q) E) E):=by
 refine(VQ ha hb).imp λσ H Q0 h=>lE.two h λx y v v' G H' Q Y R z q I=>?_;cases x<;>try exact q.elim
 all_goals cases y<;>try exact q.elim
 ·obtain⟨a,j,rfl,ea,F⟩:=Y;cases R;obtain⟨rfl,q⟩:=q;exact .inr ⟨a,j,rfl,.of ea,rfl,λp f=>I.tup f F.reverse z q⟩
 ·cases Y;cases R;unfold revU at q;dsimp only at q;split at q
  ·rename_i us eu;obtain⟨j,O,F⟩:=z.ls eu;obtain⟨hi,q⟩:=q;rcases hi with rfl|rfl
   ·exact .inl ⟨_,j,rfl,O,.inl ⟨rfl,λp f=>I.lst f F z q⟩⟩
   ·exact .inl ⟨_,j,rfl,O,.inr ⟨rfl,λp f=>I.lst f F.reverse z q⟩⟩
  lia
end
end Z

namespace L2
open PySem PySem.Spec PyProof.Rows

end L2
namespace Z
open PySem L2
noncomputable def bltN  : Blt->Str
 |.len => "len" |.repr => "repr" |.min => "min" |.max => "max" |.sum => "sum" |.all => "all" |.any => "any" |.sorted => "sorted" |.int => "int" |.str => "str" |.isi => "isinstance"
noncomputable def bltV  : Blt->Da
 |.len=>.builtin "len" |.repr=>.builtin "repr" |.min=>.builtin "min" |.max=>.builtin "max" |.sum=>.builtin "sum" |.all=>.builtin "all" |.any=>.builtin "any" |.sorted=>.builtin "sorted" |.int=>.type "int" |.str=>.type "str" |.isi=>.builtin "isinstance"
theorem Xw    : ∀ns:List Int,Mb K H (ns.map .int) (ns.map V.int)
 |[]=>rfl
 |_::r=>⟨_,_,rfl,rfl,Xw r⟩
theorem zw     : ∀{kvs:List (κ×U)} {l },Kd K H kvs l->kvs.map (·.1)=l.map (·.1)
 |[],_,h=>by cases h;rfl
 |(k,u)::r,_,h=>by
  obtain⟨v,j,rfl,_,f⟩:=h;rw[Le,Le,zw f]

def Mb.one      (r:Mb K H [u] vs):∃v,vs=[v]/\RU K H u v:=by
 obtain⟨v,q,rfl,r1,j⟩:=r;cases j
 lia
def Mb.two      (r:Mb K H [u,w] vs):∃v j,vs=[v,j]/\RU K H u v/\RU K H w j:=by
 obtain⟨v,y,rfl,r1,q⟩:=r;obtain⟨j,rfl,r2⟩:=q.one
 lia
def RP   K:∀t∈["NoneType", "bool", "int", "str", "list", "tuple", "dict"],∀c∈["bool", "int", "str", "list", "tuple", "dict"],Ou K (.type t) (.type c)=la (t==c||(t == "bool" && c == "int")):=by
 simp only[List.forall_mem_cons,Je,false_implies,implies_true,and_true];refine⟨?_,?_,?_,?_,?_,?_,?_⟩<;>refine⟨?_,?_,?_,?_,?_,?_⟩<;>rfl
def SQ     (h:pq x G=la n):n∈["NoneType", "bool", "int", "str", "list", "tuple", "dict"]:=by
 unfold pq at h;split at h<;>first|(cases h;decide)|(split at h<;>first|(cases h;decide)|cases h)|cases h
def LP  {X: Cx}(r:RU X.K H x v)(f:HR X.K H G)(h:isiU x G t=la b):∃q,TyOf X.K H v q/\Ou X.K q (.type t)=la b:=by
 unfold isiU at h;split at h
 ·rename_i n en;split at h
  ·rename_i y;cases h;refine⟨.type n,?_,RP X.K n (SQ en) t y⟩;unfold pq at en;split at en
   ·cases en;cases r;exact .non
   ·cases en;cases r;exact .bl _
   ·cases en;cases r;exact .int _
   ·cases en;cases r;exact .str _
   ·cases en;obtain⟨a,j,rfl,e,_⟩:=r;exact .tup e
   ·cases r;split at en
    ·rename_i g;cases en;obtain⟨j,e,_⟩:=f.lst g;exact .lst e
    ·rename_i g;cases en;obtain⟨j,e,_⟩:=f _ _ g;exact .dK e
    ·rename_i g;cases en;obtain⟨j,e,_⟩:=f _ _ g;exact .dT e
    lia
   lia
  lia
 lia
def LJ  (X:Cx)(b:Blt):Prop:=∃r,Ye X (bltV b) r/\∀f j G H Q q,Mb X.K H f j->HR X.K H G->bltU b f G Q->LV X H G Q q->r j H q
def NL   (hr:Room k X.A)(hc:X.calm=ma) b:LJ X b:=by
 cases b with
 |len=>
  refine⟨_,Ye.or (GR (X:=X)) qS,λF vs G H Q Q0 r f h I=>?_⟩
  change lenU F G Q at h
  obtain _|⟨x,t⟩:=F<;>try exact h.elim
  cases x<;>try exact h.elim
  all_goals obtain _|⟨_,_⟩:=t<;>try exact h.elim
  all_goals obtain⟨v,rfl,r1⟩:=r.one
  ·cases r1;exact .inl ⟨_,_,rfl,⟨h.1,rfl⟩,I.int f h.2⟩
  ·obtain⟨a,R,rfl,e,J⟩:=r1;exact .inl ⟨_,_,rfl,.inr ⟨R,.of e,rfl⟩,by rw[<- J.length];exact I.int f h⟩
  ·cases r1;unfold lenU at h;dsimp only at h;split at h
   ·rename_i g;obtain⟨R,e,J⟩:=f.lst g;exact .inl ⟨_,_,rfl,.inl ⟨R,.of e,rfl⟩,by rw[<- J.length];exact I.int f h⟩
   ·rename_i g;obtain⟨ob,R,e,J⟩:=f _ _ g;exact .inl ⟨_,_,rfl,.inl ⟨R,.inl (.inr ⟨ob,e⟩),rfl⟩,by rw[<- J.length];exact I.int f h⟩
   ·rename_i O g;obtain⟨l,e,J⟩:=f _ _ g;refine .inr ⟨_,l,rfl,e,?_⟩;have:∀{O:List (Ub×U)} {l:List (Ub×V)},Kd X.K H O l->O.length=l.length:=by
     intro O
     induction O with
     |nil=>intro l r;cases r;rfl
     |cons p q ih=>intro l r;obtain⟨v,l',rfl,_,J⟩:=r;simp[ih J]
    rw[<- this J];exact I.int f h
   ·exact h.elim
 |repr=>
  refine⟨_,RS hr,λF vs G H Q Q0 r f h I=>?_⟩
  change Xl F G Q at h
  obtain _|⟨x,_|⟨_,_⟩⟩:=F<;>try exact h.elim
  obtain⟨v,rfl,r1⟩:=r.one;obtain⟨d,h1,h2,h3⟩:=h;exact⟨v,d,rfl,h1.dv f r1,h2,I.str f h3⟩
 |min=>
  refine⟨_,uS hc,λF vs G H Q Q0 r f h I=>?_⟩
  change minU F G Q at h
  obtain _|⟨x,t⟩:=F<;>try exact h.elim
  cases x<;>try exact h.elim
  obtain _|⟨y,t⟩:=t<;>try exact h.elim
  cases y<;>try exact h.elim
  obtain _|⟨_,_⟩:=t<;>try exact h.elim
  obtain⟨v,v',rfl,r1,r2⟩:=r.two;cases r1;cases r2;exact⟨_,_,rfl,I.int f h⟩
 |max=>
  refine⟨_,(tS hc).or (rS hc),λF vs G H Q Q0 r f h I=>?_⟩
  change maxU F G Q at h
  unfold maxU at h;split at h<;>first|exact h.elim|skip
  ·obtain⟨v,v',rfl,r1,r2⟩:=r.two;cases r1;cases r2;exact .inl ⟨_,_,rfl,I.int f h⟩
  ·obtain⟨v,rfl,r1⟩:=r.one;cases r1;split at h
   ·rename_i g;obtain⟨R,e,J⟩:=f.lst g;unfold Wr at h;split at h
    ·rename_i ns en;have:=J.ints en;subst this;exact .inr ⟨_,ns,rfl,.inl (.of e),h.1,λz hz hy=>I.int f (h.2 z hz hy)⟩
    ·exact h.elim
   ·exact h.elim
  ·obtain⟨v,rfl,r1⟩:=r.one;obtain⟨a,R,rfl,e,J⟩:=r1;unfold Wr at h;split at h
   ·rename_i ns en;have:=J.ints en;subst this;exact .inr ⟨_,ns,rfl,.inr (.of e),h.1,λz hz hy=>I.int f (h.2 z hz hy)⟩
   ·exact h.elim
 |sum=>
  refine⟨_,IR hc,λF vs G H Q Q0 r f h I=>?_⟩
  change sumU F G Q at h
  obtain _|⟨x,t⟩:=F<;>try exact h.elim
  cases x<;>try exact h.elim
  all_goals obtain _|⟨_,_⟩:=t<;>try exact h.elim
  obtain⟨v,rfl,r1⟩:=r.one;cases r1;unfold sumU at h;dsimp only at h;split at h
  ·rename_i g;obtain⟨R,e,J⟩:=f.lst g;split at h
   ·rename_i ns en;have:=J.ints en;subst this;exact⟨_,ns,rfl,.of e,I.int f h⟩
   ·exact h.elim
  ·exact h.elim
 |any=>exact⟨λ_ _ _=>False,λ_ _ _ _ _ _ _ _ _ h=>h.elim,λ_ _ _ _ _ _ _ _ h _=>h.elim⟩
 |all=>exact⟨λ_ _ _=>False,λ_ _ _ _ _ _ _ _ _ h=>h.elim,λ_ _ _ _ _ _ _ _ h _=>h.elim⟩
 |sorted=>
  refine⟨_,(nU hc (by have:=hr.un;lia)).or (wU hc),λF vs G H Q Q0 r f h I=>?_⟩
  change uj F G Q at h
  unfold uj at h;split at h<;>first|exact h.elim|skip
  obtain⟨v,rfl,r1⟩:=r.one;cases r1;split at h<;>first|exact h.elim|skip
  ·rename_i F g;obtain⟨R,e,J⟩:=f.lst g;obtain⟨ks,ja,xa,hl,hk,q⟩:=h;refine .inl ⟨_,R,ks,rfl,.inl (.of e),by rw[<- J.length];exact hl,ja,by rw[<- J.length];exact xa,?_,λl π hn hp hs=>?_⟩
   ·rcases hk with⟨ns,rfl,rfl⟩|⟨as,rfl,hk⟩|⟨rfl,hk⟩
    ·refine .inl λi v k e1 Z=>?_;rw[Lc]at Z;cases en:ns[i]? with
     |none=>rw[en]at Z;cases Z
     |some n=>
      rw[en]at Z;cases Z;obtain⟨v',Y,r3⟩:=J.get (i:=i) (u:=.int n) (by rw[Lc,en];rfl)
      rw[e1]at Y;cases Y;exact⟨n,r3,rfl⟩
    ·refine .inr (.inl λi v k e1 Z=>?_);have hi:i<as.length:=by
      have:=(Ba.mp e1).1;rw[<- J.length,Ua]at this;exact this
     obtain⟨v',Y,r3⟩:=J.get (i:=i) (u:=.loc as[i]) (by rw[Lc,ac hi];rfl)
     rw[e1]at Y;cases Y;obtain⟨va,e4,r4⟩:=f.lst (hk i _ k (ac hi) Z);rw[Ww r4]at e4;exact⟨as[i],r3,.inl (.of e4)⟩
    ·refine .inr (.inr λi v k e1 Z=>⟨?_,hk k (Cd Z)⟩);obtain⟨v',Y,r3⟩:=J.get (i:=i) (u:=.tup (k.map .int)) (by rw[Lc,Z];rfl)
     rw[e1]at Y;cases Y;obtain⟨t,va,rfl,et,rt⟩:=r3;rw[Ww rt]at et;exact⟨t,rfl,.of et⟩
   ·rw[<- J.length]at hp hs;refine I.lst hn ?_ f (q π hp hs);have:∀l:List Nat,(∀i∈l,i<F.length)->Mb X.K H (l.map λi=>F.getD i .non) (l.map λi=>R.getD i .non):=λl=>by
     induction l with
     |nil=>intro _;rfl
     |cons i l ih=>
      intro za;have hi:=za i (by simp)
      obtain⟨v',Y,r3⟩:=J.get (ac hi);refine⟨_,_,rfl,?_,ih λj hj=>za j (Pd _ hj)⟩;refine(?_:RU X.K H (F.getD i .non) (R.getD i .non));rw[Ij,ac hi,Ij,Y];exact r3
    exact this π λi hi=>Ra.mp (hp.mem_iff.mp hi)
  ·rename_i O g;obtain⟨ns,hk,xa,q⟩:=h;obtain⟨l,e,rk⟩:=f _ _ g;exact .inr ⟨_,l,ns,rfl,e,by rw[<- zw rk];exact hk,xa,λp ms hp pm pw=>I.lst hp (Xw _) f (q ms pm pw)⟩
 |int=>
  refine⟨_,pS.or vU,λF vs G H Q Q0 r f h I=>?_⟩
  change intU F G Q at h
  obtain _|⟨x,t⟩:=F<;>try exact h.elim
  cases x<;>try exact h.elim
  all_goals obtain _|⟨_,_⟩:=t<;>try exact h.elim
  all_goals obtain⟨v,rfl,r1⟩:=r.one
  all_goals cases r1
  ·exact .inl (.inr ⟨_,rfl,I.int f h⟩)
  ·exact .inl (.inl ⟨_,rfl,I.int f h⟩)
  ·obtain⟨n,h1,h2,h⟩:=h;exact .inr ⟨_,n,rfl,h1,h2,I.int f h⟩
 |str=>exact⟨λ_ _ _=>False,λ_ _ _ _ _ _ _ _ _ h=>h.elim,λ_ _ _ _ _ _ _ _ h _=>h.elim⟩
 |isi=>
  refine⟨_,pU,λF vs G H Q Q0 r f h I=>?_⟩
  change kj F G Q at h
  obtain _|⟨x,_|⟨y,t⟩⟩:=F<;>try exact h.elim
  cases y<;>try exact h.elim
  obtain _|⟨_,_⟩:=t<;>try exact h.elim
  rename_i t;obtain⟨v,v',rfl,r1,r2⟩:=r.two;cases r2;unfold kj at h;dsimp only at h;split at h
  ·rename_i b eb;obtain⟨tv,h1,h2⟩:=LP r1 f eb;exact⟨v,t,tv,b,rfl,h1,h2,I.bl f h⟩
  ·exact h.elim
def FR   b:Pi (bltN b)=la (bltV b):=by
 cases b with
 |len=>exact PySem.boot_len
 |repr=>exact(by with_unfolding_all rfl)
 |min=>exact PyProof.Rows.boot_min
 |max=>exact PyProof.Rows.boot_max
 |sum=>exact PyProof.Rows.boot_sum
 |any=>exact PyProof.Rows.boot_any
 |all=>exact PyProof.Rows.boot_all
 |sorted=>exact PyProof.Rows.boot_sorted
 |int=>exact PyProof.Rows.boot_int
 |str=>exact PyProof.Rows.boot_str
 |isi=>exact PyProof.Rows.boot_isinstance
def LL   b:bltN b ≠ "__name__" /\ (bltN b==("__debug__" : Str))=ua:=by cases b<;>decide
def fM       (hb:LJ X b)(O:Gl X (bltN b))(Z:X.mg (bltN b)=Aa)(ha:PA X (e::es) (lA X ts))
  (he:md (e::es) X.env=(ua,Ib e X.env)::md es X.env) (f:(Sc pos (md es X.env)).any (·.1)=ua) :
  PE X (.Call (.Name (bltN b) p) (e::es) [] pos) (lE X λz G Q E=>ts z G (λus F=>bltU b us F Q) E):=by
 obtain⟨r,R,h2⟩:=hb;have j:∀I H y,lE X (λz G Q E=>ts z G (λus F=>bltU b us F Q) E) I H y->sv r (lA X ts) I H y:=λI H y h=>lE.many h λus vs G H' Q rs hG q lv=>h2 us vs G H' Q y rs hG q lv;have Y:=FR b;obtain⟨J,n2⟩:=LL b;cases b
 all_goals first
  |exact(xR R O Z Y ha J n2 he f).imp j
  |exact(Kt R O Z Y ha J n2 he f).imp j
noncomputable def mthN  : Mth->Str
 |.append => "append" |.extend => "extend" |.insert => "insert" |.pop => "pop" |.reverse => "reverse" |.index => "index" |.join => "join" |.get => "get" |.split => "split" |.setd => "setdefault" |.clear => "clear" |.count => "count" |.upper => "upper"
section
variable {X:Cx}
def Mb.mk        (r:RU K H u v)(rs:Mb K H us vs):Mb K H (u::us) (v::vs):=⟨v,vs,rfl,r,rs⟩
structure eV (X:Cx)(m:Mth)(T id:String):Prop where
 pa:PlainAttrs T
 sl:Slot T (mthN m) id
 ty:typeOf (.builtin id)=pure (.type "method_descriptor")
def Oj  (X:Cx)(m:Mth):Prop:=∀x y T f,Se m x y=la (T,f)->eV X m T f/\(∀v j,RU X.K j x v->HR X.K j y->mv X.K T v j)/\
 ∃r,Ml X f r/\∀z v F G H Q q,RU X.K H x v->Mb X.K H z F->HR X.K H G->ze m x z G Q->LV X H G Q q->r v F H q
def Zs     (g:G a=la (.lst us)):∀v f,RU X.K f (.loc a) v->HR X.K f G->mv X.K "list" v f:=λv f r q=>by
 cases r;obtain⟨j,e,_⟩:=q.lst g;exact .inl ⟨rfl,j,.of e⟩
def CT  : Oj X .append:=by
 intro x R T Y h;dsimp only[Se]at h;cases x<;>try (cases h;done)
 dsimp only at h;split at h
 ·rename_i g;cases h;refine⟨⟨Nu,PySem.F.slot_list_append,PySem.F.type_list_append⟩,Zs g,_,rE,λus v vs G H Q O z F j h I=>?_⟩;cases z;dsimp only[ze]at h;obtain _|⟨_,_|⟨_,_⟩⟩:=us<;>try exact h.elim
  unfold Cw at h;dsimp only at h;split at h
  ·rename_i f;obtain⟨q,e,r⟩:=j.lst f;obtain⟨y,rfl,J⟩:=F.one;refine⟨_,q,y,rfl,rfl,e,by rw[<- r.length];exact h.1,?_⟩
   exact I.wl f (r.append (Mb.mk (us:=[]) (vs:=[]) J rfl)) j (w:=.non) rfl h.2
  ·exact h.elim
 ·cases h
def VS  : Oj X .extend:=by
 intro x G1 T id h;dsimp only[Se]at h;cases x<;>try (cases h;done)
 dsimp only at h;split at h
 ·rename_i g;cases h;refine⟨⟨Nu,PySem.F.slot_list_extend,PySem.F.type_list_extend⟩,Zs g,_,zT,λF v vs G H Q Q0 I O f h R=>?_⟩;cases I;dsimp only[ze]at h;obtain _|⟨y0,t⟩:=F<;>try exact h.elim
  cases y0<;>try exact h.elim
  obtain _|⟨_,_⟩:=t<;>try exact h.elim
  unfold Jw at h;dsimp only at h;split at h
  ·rename_i j Z;obtain⟨z,e,r⟩:=f.lst j;obtain⟨zs,J,q⟩:=f.lst Z;obtain⟨y,rfl,Y⟩:=O.one;cases Y;refine⟨_,_,z,zs,rfl,rfl,e,J,by rw[<- r.length,<- q.length];exact h.1,?_⟩
   exact R.wl j (r.append q) f (w:=.non) rfl h.2
  ·exact h.elim
 ·cases h
def WS  : Oj X .insert:=by
 intro x G1 T id h;dsimp only[Se]at h;split at h<;>first|contradiction|skip
 split at h
 ·rename_i g;cases h;refine⟨⟨Nu,PySem.F.slot_list_insert,PySem.F.type_list_insert⟩,Zs g,_,AT,λus v vs G H Q Q0 I J j h O=>?_⟩;cases I;dsimp only[ze]at h;unfold Nw at h;split at h<;>first|exact h.elim|skip
  rename_i e2;cases e2;split at h
  ·rename_i f;obtain⟨F,e,r⟩:=j.lst f;obtain⟨y,z,rfl,ry,Y⟩:=J.two;cases ry;obtain⟨h1,Z,R,q⟩:=h;refine⟨_,F,_,z,rfl,rfl,e,h1,by rw[<- r.length];exact Z,by rw[<- r.length];exact R,?_⟩
   exact O.wl f ((r.take _).append (Mb.mk Y (r.drop _))) j (w:=.non) rfl q
  ·exact h.elim
 ·cases h
def CN  : Oj X .pop:=by
 intro x G1 T id h;dsimp only[Se]at h;cases x<;>try (cases h;done)
 dsimp only at h;split at h
 ·rename_i g;cases h;refine⟨⟨Nu,PySem.F.slot_list_pop,PySem.F.type_list_pop⟩,Zs g,_,Ml.or (mt_pop (X:=X)) fR,λZ v vs G H Q Q0 O I z h J=>?_⟩;cases O;dsimp only[ze]at h;obtain _|⟨y0,t⟩:=Z
  ·unfold popU at h;dsimp only at h;split at h
   ·rename_i f;obtain⟨F,e,r⟩:=z.lst f;cases I;split at h
    ·rename_i u eu;obtain⟨y,q,j⟩:=r.get eu;rw[r.length]at q;exact .inl ⟨_,F,y,rfl,rfl,e,q,J.wl f r.dropLast z j h⟩
    ·exact h.elim
   ·exact h.elim
  ·cases y0<;>try exact h.elim
   obtain _|⟨_,_⟩:=t<;>try exact h.elim
   unfold popU at h;dsimp only at h;split at h
   ·rename_i f;obtain⟨F,e,r⟩:=z.lst f;obtain⟨y,rfl,j⟩:=I.one;cases j;obtain⟨h1,Y,h⟩:=h;split at h
    ·rename_i k R;split at h
     ·rename_i u eu;obtain⟨y,q,j⟩:=r.get eu;exact .inr ⟨_,F,_,k,y,rfl,rfl,e,h1,Y,by rw[<- r.length];exact R,q,J.wl f (r.erase k) z j h⟩
     ·exact h.elim
    ·exact h.elim
   ·exact h.elim
 ·cases h
def Kd.put   [DecidableEq κ](r:RU K H u v):∀{kvs } {l:List (κ×V)},Kd K H kvs l->Kd K H (dPut kvs k u) (putK l k v):=by
 intro kvs l h;have any:∀{kvs:List (κ×U)} {l:List (κ×V)},Kd K H kvs l->(kvs.any λj=>decide (j.1=k))=l.any λj=>decide (j.1=k):=by
  intro kvs
  induction kvs with
  |nil=>intro l h;cases h;rfl
  |cons p q F=>intro l h;obtain⟨w,J,rfl,_,I⟩:=h;grind
 have repl:∀{kvs:List (κ×U)} {l:List (κ×V)},Kd K H kvs l->Kd K H (kvs.map λj=>if j.1=k then (j.1,u) else j) (l.map λj=>if j.1=k then (j.1,v) else j):=by
  intro kvs
  induction kvs with
  |nil=>intro l h;cases h;rfl
  |cons p q F=>
   intro l h;obtain⟨O,R⟩:=p;obtain⟨w,J,rfl,y,I⟩:=h;simp only[Le];by_cases e:O=k
   ·rw[if_pos e,if_pos e];exact⟨v,_,rfl,r,F I⟩
   ·rw[if_neg e,if_neg e];exact⟨w,_,rfl,y,F I⟩
 have snoc:∀{kvs:List (κ×U)} {l:List (κ×V)},Kd K H kvs l->Kd K H (kvs++[(k,u)]) (l++[(k,v)]):=by
  intro kvs
  induction kvs with
  |nil=>intro l h;cases h;exact⟨v,[],rfl,r,rfl⟩
  |cons p q F=>intro l h;obtain⟨O,R⟩:=p;obtain⟨w,J,rfl,y,I⟩:=h;exact⟨w,_,rfl,y,F I⟩
 unfold dPut putK
 grind
theorem Kd.length     : ∀{kvs:List (κ×U)} {l },Kd K H kvs l->kvs.length=l.length
 |[],_,h=>by cases h;rfl
 |(_,_)::_,_,h=>by obtain⟨v,q,rfl,_,j⟩:=h;simp[j.length]
theorem Rw    : ∀{k:List Ub} {bs },Mb K H (k.map Ku) bs->bs=k.map kV
 |[],_,h=>h
 |.inl z::k,_,h=>by
  obtain⟨v,j,rfl,r,f⟩:=h;rw[show v=.int z from r,Rw f];rfl
 |.inr x::k,_,h=>by
  obtain⟨v,j,rfl,r,f⟩:=h;rw[show v=.str x from r,Rw f];rfl
def rGet  : V->List V->Hp->VK->Prop:=λx f H Q=>∃a y d o,x=.ref a/\f=[y,d]/\DGet H a y o/\Q (o.getD d) H
def UB  (hu:X.A.units+1<Xb):Ml X "dict.get" rGet:=by
 intro f s Y H x vs J us Q I F O h;obtain⟨a,y,d,o,rfl,rfl,g,q⟩:=h;cases(show J=sg a from F);obtain⟨u,r,rfl,j,rr⟩:=Vals.two O;exact OL hu I g j rr λZ s' z R=>⟨_,_,z,R,q⟩
def NC   [DecidableEq κ](k:κ)(q:Kd K H kvs l)(rd:RU K H d w):RU K H ((dGet kvs k).getD d) ((valV l k).getD w):=by
 have f:=im k q;cases e:dGet kvs k with
 |none=>rw[e]at f;rw[show valV l k=Aa from f];exact rd
 |some u=>rw[e]at f;obtain⟨v,y,j⟩:=f;rw[y];exact j
def BN  (hu:X.A.units+1<Xb):Oj X .get:=by
 intro x G1 T id h;dsimp only[Se]at h;split at h<;>first|contradiction|skip
 have R:∀(j:List U) (v:V) (z:List V) (G:Gp) (H:Hp) (Q:K1) (q:VK) (a:Ca),RU X.K H (.loc a) v->Mb X.K H j z->HR X.K H G->getU (.loc a) j G Q->LV X H G Q q->rGet v z H q:=λj v z G H Q q a O J f h F=>by
  cases O;obtain _|⟨y,_|⟨w,_|⟨_,_⟩⟩⟩:=j<;>try exact h.elim
  unfold getU at h;dsimp only at h;obtain⟨y',za,rfl,ry,Z⟩:=J;obtain⟨w',rfl,I⟩:=Z.one;split at h<;>first|exact h.elim|skip
  ·rename_i xa Y;split at h<;>first|exact h.elim|skip
   rename_i k ek;obtain⟨l,e,rk⟩:=f _ _ Y;have:=lj ry ek;subst this;exact⟨_,_,_,_,rfl,rfl,.k e,F.here (NC k rk I) f h⟩
  ·rename_i xa Y;obtain⟨k,rfl,h⟩:=h;obtain⟨l,e,rk⟩:=f _ _ Y;obtain⟨b,bs,rfl,eb,rb⟩:=ry;rw[Rw rb]at eb;exact⟨_,_,_,_,rfl,rfl,.t e eb,F.here (NC k rk I) f h⟩
 split at h<;>first|contradiction|skip
 ·rename_i g;cases h;refine⟨⟨Mu,Hu,eJ⟩,λv H1 r f=>?_,_,UB hu,λj v z G H Q q O J f h F=>R j v z G H Q q _ O J f h F⟩;cases r;obtain⟨l,e,_⟩:=f _ _ g;exact .inr (.inr (.inl ⟨rfl,.inl ⟨l,e⟩⟩))
 ·rename_i g;cases h;refine⟨⟨Mu,Hu,eJ⟩,λv H1 r f=>?_,_,UB hu,λj v z G H Q q O J f h F=>R j v z G H Q q _ O J f h F⟩;cases r;obtain⟨l,e,_⟩:=f _ _ g;exact .inr (.inr (.inl ⟨rfl,.inr ⟨l,e⟩⟩))
def VB  (hu:X.A.units+1<Xb) m:Oj X m:=by
 cases m with
 |append=>exact CT
 |extend=>exact VS
 |insert=>exact WS
 |pop=>exact CN
 |reverse=>intro x f T j h;cases h
 |index=>intro x f T j h;cases h
 |join=>intro x f T j h;cases h
 |split=>intro x f T j h;cases h
 |setd=>intro x f T j h;cases h
 |clear=>intro x f T j h;cases h
 |count=>intro x f T j h;cases h
 |upper=>intro x f T j h;cases h
 |get=>exact BN hu
variable {m:Mth}{o e:La}{es:List La}{to:UE}{ts:UA}{apos cpos:Pos}
def ZN (hm:Oj X m)(ho:PE X o (lE X to))(ha:PA X (e::es) (lA X ts))(F:Fj o (mthN m) X.env (Ib o X.env)=Ib o X.env)
  (za:((Sc cpos (md (e::es) X.env)).all (λx=>!x.1)&&(backToKw cpos (keywordEach [] X.env)).all (λx=>x.1.isSome)
   && decide ((e::es).length+([]:List Keyword).length+(if ([]:List Keyword).isEmpty then 0 else 1)<30))=ma)
  (R:(apos.endLine==cpos.line)=ma) (hs:md (e::es) X.env=(ua,Ib e X.env)::md es X.env) (ja:(Sc cpos (md es X.env)).any (·.1)=ua) :
  PE X (.Call (.Attribute o (mthN m) apos) (e::es) [] cpos) (lE X λY G Q E=>to Y G (λx f=>match Se m x f with|some _=>ts Y f (λus j=>ze m x us j Q) E|none=>False) E):=by
 intro y s σ H Q0 I h;obtain⟨Y,G,Q,E,xa,hG,h,lv,lx⟩:=h;refine PySem.wpAny_Call_method_late F za R rfl (Pb (ho y s σ H (λv z=>∃x f T id,RU X.K z x v/\HR X.K z f/\Fr H G z f/\Se m x f=la (T,id)/\ts Y f (λus j=>ze m x us j Q) E) I
  ⟨Y,G,_,E,xa,hG,h,λx v f z rx q f1 Z=>?_,lx⟩) λv s1 ⟨xv,z,I1,r1,x,f,T,id,rx,q,f1,em,Z⟩=>?_)
 ·dsimp only at Z;split at Z
  ·rename_i p ep;exact⟨x,f,p.1,p.2,rx,q,f1,ep,Z⟩
  ·exact Z.elim
 ·obtain⟨k,va,r,ya,wa⟩:=hm x f T id em;obtain⟨t1,t2⟩:=OB I1 r1 (va xv z rx q);refine⟨T,id,k.pa,k.sl,k.ty,t1,t2,?_⟩;have hA:=ha cpos y s1 σ z (λvs O=>∃us j,Mb X.K O us vs/\HR X.K O j/\Fr z f O j/\ze m x us j Q) I1 ⟨Y,f,_,E,xa.ts (f1.ts hG),q,Z,λus vs j O rs J f2 h2=>⟨us,j,rs,J,f2,h2⟩,lx.fr f1⟩;rw[hs]at hA ⊢;refine Iu (by simp_all) (Calls.evalArgs_plain ?_)
  exact Pb hA λus s2 ⟨vs,O,I2,r2,ws,j,rs,J,f2,h2⟩=>ya y s2 σ O xv vs v us Q0 I2 r1 r2 (wa ws xv vs j O Q Q0 (rx.ts (f2.ts q)) rs J h2 (lv.fr (f1.trans f2)))
def pQ (hm:Oj X m)(ho:PE X o (lE X to))(z:Fj o (mthN m) X.env (Ib o X.env)=Ib o X.env)(F:(apos.endLine==cpos.line)=ma) :
  PE X (.Call (.Attribute o (mthN m) apos) [] [] cpos) (lE X λZ G Q E=>to Z G (λx f=>match Se m x f with|some _=>ze m x [] f Q|none=>False) E):=by
 intro q s σ H Q0 I h;obtain⟨Z,G,Q,E,za,hG,h,lv,lx⟩:=h;refine PySem.wpAny_Call_method0_late z F (Pb (ho q s σ H (λv y=>∃x f T O,RU X.K y x v/\HR X.K y f/\Fr H G y f/\Se m x f=la (T,O)/\ze m x [] f Q) I
  ⟨Z,G,_,E,za,hG,h,λx v f y R j f1 J=>?_,lx⟩) λv s1 ⟨xv,y,I1,r1,x,f,T,O,R,j,f1,em,J⟩=>?_)
 ·dsimp only at J;split at J
  ·rename_i p ep;exact⟨x,f,p.1,p.2,R,j,f1,ep,J⟩
  ·exact J.elim
 ·obtain⟨k,Y,r,xa,ja⟩:=hm x f T O em;obtain⟨t1,t2⟩:=OB I1 r1 (Y xv y R j);exact⟨T,O,k.pa,k.sl,k.ty,t1,t2,Iu rfl (nz (xa q s1 σ y xv [] v [] Q0 I1 r1 .nil (ja [] xv [] f y Q Q0 R rfl j J (lv.fr f1))))⟩
end
end Z

namespace L2
open PySem PySem.Spec PyProof.Rows

def iSeq  (K:Lb)(q:TE):TI:=λy H R=>q y H λx f=>∃a,x=.ref a/\(((∃j,Nd K f a j)/\R (HJ K a) f)\/((∃j,td K f a j)/\R (GJ K a) f))
def YO    (J:PE X l tl):PI X tg l (iSeq X.K tl):=by
 intro j s Z H R I h;refine Pb (J j s Z H _ I h) λv s1 ⟨x,F,f,r1,q1⟩=>?_;obtain⟨a,e,⟨⟨Y,z⟩,q⟩|⟨⟨Y,z⟩,q⟩⟩:=q1
 ·subst e;cases r1;obtain⟨y,rv,p,hz⟩:=f.list z;refine Ly p.isList ?_;refine⟨s1.heap.objs.size,[s1.heap.objs.size],_,_,F,rfl,f.kept (t':=s1.toks) λb o e=>Fc _ e,NS a _,⟨_,Fe _ rfl,rfl,rfl⟩,λb O=>?_,q⟩;have e:b=s1.heap.objs.size:=by simp_all
  subst e;exact f.fpOk (Db _) (f.hok.fresh (Db _))
 ·subst e;cases r1;obtain⟨y,rv,p,hz⟩:=f.tuple z;refine wz (show s1.heap.IsTuple a y.toArray from p) ?_;refine⟨s1.heap.objs.size,[s1.heap.objs.size],_,_,F,rfl,f.kept (t':=s1.toks) λb o e=>Fc _ e,WT a _,⟨_,Fe _ rfl,rfl,rfl⟩,λb O=>?_,q⟩;have e:b=s1.heap.objs.size:=by simp_all
  subst e;exact f.fpOk (Db _) (f.hok.fresh (Db _))
def PI.imp    (h:PI X tg iter t)(i:∀j H R,t' j H R->t j H R):PI X tg iter t':=λy s j H R I q=>h y s j H R I (i j H R q)
def PG.imp    (h:PG X j t)(i:∀v y H Q,t' v y H Q->t v y H Q):PG X j t':=λF s y H v u Q I r q=>h F s y H v u Q I r (i v y H Q q)
def yh.imp    (h:yh X ts t)(i:∀v j H Q,t' v j H Q->t v j H Q):yh X ts t':=λy s j H v u Q I r q=>h y s j H v u Q I r (i v j H Q q)
def PIfs.imp    (h:PIfs X ifs t)(i:∀j H Q,t' j H Q->t j H Q):PIfs X ifs t':=λy s j H Q I q=>h y s j H Q I (i j H Q q)
end L2
namespace Z
open PySem L2
abbrev UI:=Sg->Gp->(List U->(Gp->Prop)->Gp->Prop)->KX->Prop
def Mk  (K:Lb)(J:L2.It)(H:Hp)(G:Gp)(xs:List U)(ok:Gp->Prop):Prop:=∀i j q,TS H j->HR K j q->ok q->
 (∀u,xs[i]?=la u->J.go i j/\∀v f,J.yld i j v f->RU K f u v/\HR K f q/\Fr j q f q)/\(i=xs.length->J.stop i j)
def Mk.mono        (h:Mk K J H G xs ok)(t:TS H H2):Mk K J H2 G2 xs ok:=λi y q j=>h i y q (t.trans j)
section
variable (X:Cx)
def lI (t:UI):TI:=λz H R=>∃y G Q E,SR X.K H y z/\HR X.K H G/\t y G Q E/\(∀q ok j f J,HR X.K f j->Fr H G f j->Mk X.K J f j q ok->Q q ok j->R J f)/\LX X z H G E
def lG  (K:Lb)(t:U->Sg->(Sg->Prop)->Prop):TG:=λv z H y=>∃u q k,RU K H u v/\SR K H q z/\t u q k/\∀f j,SR K H f j->k f->y j H
def Ao  (K:Lb)(t:List U->Sg->(Sg->Prop)->Prop):Kj:=λI F H z=>∃q y k,Mb K H q I/\SR K H y F/\t q y k/\∀f j,SR K H f j->k f->z j H
end
section
variable {X:Cx}{tg:La}{pos:Pos}{te ta tb:UE}
def u_ie   (hl:PE X l (lE X te)):PI X tg l (lI X λς G Q E=>te ς G (λx G1=>Pf x G1 λxs ok=>Q xs ok G1) E):=by
 refine(YO hl).imp λσ H R h=>?_;obtain⟨ς,G,Q,E,xa,hG,h,lv,lx⟩:=h;refine⟨ς,G,_,E,xa,hG,h,λx v G1 H1 rx q f1 J=>?_,lx⟩;dsimp only at J;unfold Pf at J;split at J
 ·obtain⟨a,I,rfl,ea,rs⟩:=rx;refine⟨a,rfl,.inr ⟨⟨I,.of ea⟩,lv _ _ _ H1 _ q f1 (λi H' G' f Z _=>?_) J⟩⟩;have e':H' a=la (.tup I):=f a _ ea;refine⟨λu eu=>?_,λe=>⟨I,.of e',by rw[e,rs.length];lia⟩⟩
  obtain⟨w,O,F⟩:=rs.get eu;refine⟨⟨I,w,.of e',O⟩,λv za y=>?_⟩;obtain⟨rfl,y⟩:=y;have:=y I (.of e');rw[O]at this;cases this;exact⟨F.ts f,Z,Fr.refl _ _⟩
 ·cases rx;rename_i a;split at J
  ·rename_i us eu;obtain⟨I,sq,rs⟩:=q.ls eu;refine⟨_,rfl,.inl ⟨⟨I,sq⟩,lv _ _ _ H1 _ q f1 (λi H' G' f Z ok=>?_) J⟩⟩;obtain⟨j,z,Y⟩:=Z.ls ok;refine⟨λu eu=>?_,λe=>⟨j,z,by rw[e,Y.length];lia⟩⟩
   obtain⟨w,O,F⟩:=Y.get eu;refine⟨⟨j,w,z,O⟩,λv za y=>?_⟩;obtain⟨rfl,y⟩:=y;have:=y j z;rw[O]at this;cases this;exact⟨F,Z,Fr.refl _ _⟩
  lia
 lia
def bS      lo n:Mk K (Zu lo n) H G (rngU lo n) λ_=>True:=by
 intro i I J f F _;have q:(rngU lo n).length=n:=by simp[rngU]
 refine⟨λu eu=>?_,λe=>by rw[q]at e;exact Yp e.symm⟩
 have j:i<n:=by grind
 refine⟨j,λv z y=>?_⟩;obtain⟨rfl,rfl⟩:=y;have:(rngU lo n)[i]?=la (.int (lo+i)):=by simp[rngU,Lc,mz j]
 rw[this]at eu;cases eu;exact⟨rfl,F,Fr.refl _ _⟩
def u_r1 {a:La}{p:Pos}(hg:Gl X "range")(J:X.mg "range" = Aa)(O:PE X a (lE X ta))(hs:md [a] X.env=[(ua,Ib a X.env)]):PI X tg (.Call (.Name "range" p) [a] [] pos) (lI X λy G Q E=>ta y G (λx q=>match x with
   |.int j=>-(2 ^ 62)<=j/\j<2 ^ 62/\Q (rngU 0 j.toNat) (λ_=>True) q
   |_=>False) E):=by
 refine(mT hg J (Vk O Lk hs) hs).imp λσ H R h=>?_;obtain⟨y,G,Q,E,F,Y,h,lv,lx⟩:=h;refine⟨y,G,λI q=>match I with|[x]=>(match x with|.int j=>-(2 ^ 62)<=j/\j<2 ^ 62/\Q (rngU 0 j.toNat) (λ_=>True) q|_=>False)|_=>False,E,F,Y,h,λI vs q H1 Z z f1 f=>?_,lx⟩
 dsimp only at f;split at f
 ·obtain⟨v,rfl,r⟩:=Z.one;split at f
  ·cases r;exact⟨_,rfl,f.1,f.2.1,lv _ _ q H1 _ z f1 (bS 0 _) f.2.2⟩
  lia
 lia
theorem Po  : ∀{n i } {xs } {u:U},(si n xs)[i]?=la u->∃x,xs[i]?=la x/\u=.tup [.int ((n+i:Nat):Int),x]
 |_,_,[],_,h=>by simp[si]at h
 |n,0,x::xs,_,h=>by
  simp[si]at h
  simp_all
 |n,i+1,_::xs,_,h=>by
  obtain⟨x,j,f⟩:=Po (n:=n+1) (i:=i) (xs:=xs) (by simpa[si]using h)
  grind
theorem So  : ∀n (xs:List U),(si n xs).length=xs.length
 |_,[]=>rfl
 |n,_::xs=>by simp[si,So (n+1) xs]
def XN      (hg:Gl X "enumerate")(hm:X.mg "enumerate" = Aa)(ha:PE X l (lE X ta))(hs:md [l] X.env=[(ua,Ib l X.env)]) :
  PI X (.Tuple va x1 ja) (.Call (.Name "enumerate" p) [l] [] pos) (lI X λς G Q E=>ta ς G (λx G1=>pp x G1 λxs ok=>Q xs ok G1) E):=by
 refine(vS hg hm (Vk ha Lk hs) hs).imp λσ H R h=>?_;obtain⟨ς,G,Q,E,xa,hG,h,lv,lx⟩:=h;refine⟨ς,G,λus G1=>match us with|[x]=>pp x G1 λxs ok=>Q xs ok G1|_=>False,E,xa,hG,h,λus vs G1 H1 rs J f1 I=>?_,lx⟩
 dsimp only at I;split at I
 ·obtain⟨v,rfl,r⟩:=rs.one;unfold pp at I;split at I
  ·obtain⟨a,ws,rfl,ea,rr⟩:=r;refine⟨a,rfl,.inl ⟨⟨ws,ea⟩,lv _ _ _ H1 _ J f1 (λi H' G' f hr _=>?_) I⟩⟩;have e':H' a=la (.tup ws):=f a _ ea;refine⟨λu eu=>?_,λe=>⟨ws,e',by rw[e,So,rr.length]⟩⟩
   obtain⟨x,ex,rfl⟩:=Po eu;obtain⟨w,ew,Z⟩:=rr.get ex;refine⟨⟨ws,w,e',ew⟩,λv za y=>?_⟩;obtain⟨ys,z,q,hq,j,rfl,Y,rfl⟩:=y;rw[e']at hq;cases hq;rw[ew]at j;cases j;refine⟨⟨q,_,rfl,fg,⟨_,_,rfl,by rw[Zp];rfl,⟨_,_,rfl,(Z.ts f).ts (TS.new Y),rfl⟩⟩⟩,hr.newT Y,Fr.new Y⟩
  ·cases r;split at I
   ·rename_i us eu;obtain⟨vs,sq,rs⟩:=J.ls eu;refine⟨_,rfl,.inr ⟨⟨vs,sq⟩,lv _ _ _ H1 _ J f1 (λi H' G' f hr ok=>?_) I⟩⟩;obtain⟨F,O,rr⟩:=hr.ls ok;refine⟨λu eu=>?_,λe=>⟨F,O,by rw[e,So,rr.length]⟩⟩
    obtain⟨x,ex,rfl⟩:=Po eu;obtain⟨w,ew,Z⟩:=rr.get ex;refine⟨⟨F,w,O,ew⟩,λv za y=>?_⟩;obtain⟨z,q,j,rfl,Y,rfl⟩:=y;have j:=j F O;rw[ew]at j;cases j;refine⟨⟨q,_,rfl,fg,⟨_,_,rfl,by rw[Zp];rfl,⟨_,_,rfl,Z.ts (TS.new Y),rfl⟩⟩⟩,hr.newT Y,Fr.new Y⟩
   lia
  lia
 lia
theorem Kd.len     : ∀{kvs:List (κ×U)} {l },Kd K H kvs l->kvs.length=l.length
 |[],_,h=>by cases h;rfl
 |(_,_)::_,_,h=>by
  obtain⟨v,q,rfl,_,j⟩:=h;simp[Kd.len j]
theorem Kd.val     : ∀{kvs } {l } {i:Nat} {p:κ×V},Kd K H kvs l->l[i]?=la p->∃u,kvs[i]?=la (p.1,u)/\RU K H u p.2
 |[],_,_,_,h,e=>by cases h;simp at e
 |(_,_)::_,_,0,_,h,e=>by
  obtain⟨v,q,rfl,r,_⟩:=h
  grind
 |(_,_)::_,_,i+1,_,h,e=>by
  obtain⟨v,q,rfl,_,j⟩:=h;simp at e;simpa using Kd.val j e
def PB {f:List (Ub×U)->List U}{J:Ca->Obj->L2.It}{l:La}{ti:TI}(hl:PI X tg l ti)(xa:ti=λσ H R=>lE X te σ H λx I=>∃a kvs,x=.ref a/\Held I a kvs λo O=>R (J a o) O)
  (hw:∀{a o kvs} {O:Hp} {z:Gp},HR X.K O z->z a=la (.frk o kvs)->Mk X.K (J a o) O z (f kvs) λz=>z a=la (.frk o kvs)):PI X tg l (lI X λY G Q E=>te Y G (λx G1=>kh f x G1 Q) E):=by
 subst xa;refine hl.imp λσ H R h=>?_;obtain⟨Y,G,Q,E,Z,hG,h,lv,lx⟩:=h;refine⟨Y,G,_,E,Z,hG,h,λx v G1 I rx j f1 q=>?_,lx⟩;dsimp only at q;unfold kh at q;split at q
 ·cases rx;rename_i a;split at q
  ·rename_i kvs g;obtain⟨l,e,rk⟩:=j _ _ g;refine⟨a,l,rfl,.inl e,λo _=>?_⟩;have F:HR X.K (upd I a (.frz o (.dK l))) (Wc G1 a (.frk o kvs)):=j.write g ⟨l,fg,rk.ts (TS.write j g)⟩;exact lv _ _ _ _ _ F (f1.trans (Fr.write g)) (hw F wf) (q o _ ⟨rfl⟩)
  ·rename_i o kvs g;obtain⟨l,e,rk⟩:=j _ _ g;refine⟨a,l,rfl,.inr ⟨o,e⟩,λo' ho=>?_⟩;cases ho o e;have y:upd I a (.frz o (.dK l))=I:=by
    funext b;unfold upd
    lia
   rw[y];exact lv _ _ _ _ _ j f1 (hw j g) q
  lia
 lia
def u_dv    (hd:PE X d (lE X te))(hb:Fj d "values" X.env (Ib d X.env)=Ib d X.env)(hl:(apos.endLine==pos.line)=ma):PI X tg (.Call (.Attribute d "values" apos) [] [] pos) (lI X λY G Q E=>te Y G (λx Z=>kh Dh x Z Q) E):=by
 refine PB (J:=fA) (TK hd hb hl) rfl λ{a o xa H' G'} _ _=>λi H2 G2 f O ok=>?_;obtain⟨q,F,j⟩:=O _ _ ok;refine⟨λu eu=>?_,λz=>⟨q,F,by rw[z,Dh,Ua,j.len];lia⟩⟩
 have hi:i<q.length:=by
  have:=(Ba.mp eu).1;rw[Dh,Ua,j.len]at this
  lia
 refine⟨⟨q,F,hi⟩,λv za y=>?_⟩;obtain⟨rfl,l2,k,R,ek⟩:=y;rw[F]at R;cases R;obtain⟨u2,I,ru⟩:=j.val ek;rw[Dh,Lc,I]at eu;cases eu;exact⟨ru,O,Fr.refl _ _⟩
def u_di      (hd:PE X d (lE X te))(hb:Fj d "items" X.env (Ib d X.env)=Ib d X.env)(hl:(apos.endLine==pos.line)=ma):PI X (.Tuple xa x1 Y) (.Call (.Attribute d "items" apos) [] [] pos) (lI X λς G Q E=>te ς G (λx G1=>kh pj x G1 Q) E):=by
 refine PB (J:=gA) (SK hd hb hl) rfl λ{a o za H' G'} _ _=>λi H2 G2 f R ok=>?_;obtain⟨q,F,j⟩:=R _ _ ok;refine⟨λu eu=>?_,λz=>⟨q,F,by rw[z,pj,Ua,j.len];lia⟩⟩
 have hi:i<q.length:=by
  have:=(Ba.mp eu).1;rw[pj,Ua,j.len]at this
  lia
 refine⟨⟨q,F,hi⟩,λv ja y=>?_⟩;obtain⟨l2,k,x,p,Z,ek,rfl,I,rfl⟩:=y;rw[F]at Z;cases Z;obtain⟨u2,O,ru⟩:=j.val ek;rw[pj,Lc,O]at eu;cases eu;exact⟨⟨p,_,rfl,fg,⟨_,_,rfl,by cases k<;>rfl,⟨_,_,rfl,ru.ts (TS.new I),rfl⟩⟩⟩,R.newT I,Fr.new I⟩
def SR.set        (h:SR K H F σ)(r:RU K H u v) i:SR K H (F.set i (la u)) (σ.set i (la v)):=by
 refine⟨by simp[h.1],λj w e=>?_⟩
 by_cases q:j=i
 ·subst q;by_cases y:j<F.length
  ·rw[Dl y]at e;cases e;exact⟨v,Dl (by rw[<- h.1];exact y),r⟩
  simp_all
 ·rw[Cj (Qa q)]at e ⊢;exact h.2 j w e
def u_tn    (z:X.N.Nodup)(hi:X.N[i]?=la x)(j:Nl X.env.scope x)(y:X.fn x=ma\/X.env.scope.names.lookup x=la .local):PG X (.Name x pos) (lG X.K (Yc (.n i))):=by
 refine(WQ z hi j y).imp λv I H Q h=>?_;obtain⟨u,F,k,r,f,h,q⟩:=h;exact q _ _ (f.set r i) h
def u_tt {f:List La}{k n:Nat}{ts:bh}(I:X.calm=ma)(h:yh X f (Ao X.K (tgsU ts)))(O:(lg f X.env).length=n)(y:(lg f X.env).findIdx? (·.1)=Aa)(Y:∀us j k,tgsU ts us j k->us.length=n) :
  PG X (.Tuple f k pos) (lG X.K (Yc (.t ts))):=by
 refine(XO I h O y).imp λv Z H Q h=>?_;obtain⟨u,j,k,r,z,h,q⟩:=h;cases u with
 |tup us=>
  obtain⟨a,R,rfl,e,F⟩:=r;have J:tgsU ts us j k:=h;exact⟨a,R,rfl,.of e,by rw[<- F.length];grind,us,j,k,F,z,J,q⟩
 |_=>exact h.elim
def uM  : yh X [] (Ao X.K (tgsU .nil)):=by
 refine XQ.imp λF y H Q h=>?_;obtain⟨z,j,k,r,f,h,q⟩:=h;obtain⟨rfl,h⟩:=h;cases r;exact⟨rfl,q _ _ f h⟩
def tM {e:La}{f:List La}{t:Tg}{ts:bh}(h1:PG X e (lG X.K (Yc t)))(R:yh X f (Ao X.K (tgsU ts)))(hs:(lg (e::f) X.env).map (·.2)=Gc e X.env::(lg f X.env).map (·.2)) :
  yh X (e::f) (Ao X.K (tgsU (.cons t ts))):=by
 refine(DR h1 R hs).imp λvs σ H Q h=>?_;obtain⟨j,I,k,r,z,h,q⟩:=h;cases j with
 |nil=>exact h.elim
 |cons u j=>
  obtain⟨v,Z,rfl,r1,O⟩:=r;exact⟨v,Z,rfl,u,I,_,r1,z,h,λy Y F J=>⟨j,y,k,O,F,J,q⟩⟩
end
def Zi  (K:Lb)(t:UE):TE:=λz H y=>∃q G Q,SR K H q z/\HR K H G/\t q G Q (λ_ _=>False)/\∀w v j f,RU K f w v->HR K f j->Fr H G f j->Q w j->y v f
def Uh  (K:Lb)(t:Sg->Gp->(Bool->Gp->Prop)->Prop):TT:=λz H y=>∃q G Q,SR K H q z/\HR K H G/\t q G Q/\∀b j f,HR K f j->Fr H G f j->Q b j->y b f
def LX.no      : LX X σ H G λ_ _=>False:=λ_ _ _ _ _ _ _ _ _ _ h=>h.elim
def Zi.of     (h:PE X e (lE X t)):PE X e (Zi X.K t):=h.imp λO H J ⟨q,G,Q,I,y,F,j⟩=>⟨q,G,Q,_,I,y,F,j,LX.no⟩
def Uh.of     (h:PT X e (lT X t)):PT X e (Uh X.K λj G Q=>t j G Q λ_ _=>False):=h.imp λO H J ⟨j,G,Q,I,y,F,q⟩=>⟨j,G,Q,_,I,y,F,q,LX.no⟩
mutual
noncomputable def Ui:Tg->List Nat
 |.n i=>[i]
 |.t ts=>tgsS ts
noncomputable def tgsS:bh->List Nat
 |.nil=>[]
 |.cons t ts=>Ui t++tgsS ts
end
def lq  (f q:Sg):Prop:=f.length=q.length/\∀(j:Nat) (w:U),f[j]?=la (la w)->q[j]?=la (la w)
mutual
theorem MB {f:Sg}:∀{t:Tg} {u:U} {q:Sg} {k:Sg->Prop},(∀i∈Ui t,∀w,f[i]?≠la (la w))->lq f q->Yc t u q k->Yc t u q λy=>k y/\lq f y
 |.n i,u,q,k,hf,he,h=>by
  refine⟨h,by simp[he.1],λj w e=>?_⟩
  have I:j≠i:=λz=>hf i (by simp[Ui]) w (z ▸ e)
  rw[Cj (Qa I)]
  exact he.2 j w e
 |.t ts,u,q,k,hf,he,h=>by
  cases u with
  |tup us=>exact CC (ts:=ts) (us:=us) (λi F=>hf i F) he h
  |_=>exact h
theorem CC {j:Sg}:∀{ts:bh} {us:List U} {q:Sg} {k:Sg->Prop},(∀i∈tgsS ts,∀w,j[i]?≠la (la w))->lq j q->tgsU ts us q k->tgsU ts us q λf=>k f/\lq j f
 |.nil,us,q,k,_,he,h=>⟨h.1,h.2,he⟩
 |.cons t ts,us,q,k,hf,he,h=>by
  cases us with
  |nil=>exact h
  |cons u r=>
   have:=MB (t:=t) (u:=u) (λi y=>hf i (by simp[tgsS,y])) he h
   refine ut this λf ⟨F,z⟩=>CC (λi y=>hf i (by simp[tgsS,y])) z F
theorem ut:∀{t:Tg} {u:U} {f:Sg} {k k':Sg->Prop},Yc t u f k->(∀f,k f->k' f)->Yc t u f k'
 |.n _,_,_,_,_,h,i=>i _ h
 |.t ts,u,f,_,_,h,i=>by
  cases u with
  |tup us=>exact UD (ts:=ts) (us:=us) h i
  |_=>exact h
theorem UD:∀{ts:bh} {us:List U} {f:Sg} {k k':Sg->Prop},tgsU ts us f k->(∀f,k f->k' f)->tgsU ts us f k'
 |.nil,_,_,_,_,h,i=>⟨h.1,i _ h.2⟩
 |.cons t ts,us,f,_,_,h,i=>by
  cases us with
  |nil=>exact h
  |cons u r=>exact ut (t:=t) h λj q=>UD q i
end
def SR.ext      (h:SR K H y σ)(e:lq j y):SR K H j σ:=⟨e.1.trans h.1,λi u q=>h.2 i u (e.2 i u q)⟩
theorem SR.pick      (h:SR K H y σ)(pick:List (Option Nat)):SR K H (Wg pick y) (pick.map λo=>o.bind λj=>(σ[j]?).join):=by
 refine⟨by simp[Wg],λi u e=>?_⟩
 unfold Wg at e;rw[Lc]at e ⊢;cases q:pick[i]? with
 |none=>simp_all
 |some o=>
  rw[q]at e;cases o with
  |none=>simp at e
  |some j=>
   simp only[pI,Option.bind_some,Option.some.injEq]at e ⊢;have F:y[j]?=la (la u):=by
    grind
   obtain⟨v,I,r⟩:=h.2 j u F
   simp_all
section
variable {K:Lb}{H:Hp}{G:Gp}
def HR.newH  (h:HR K H G)(e:H p=Aa):HR K (upd H p o) G:=⟨λa y q=>by
 have m:=h a y q;obtain⟨F,j⟩:=m.there;exact m.keep (Pc (zg j e)) (TS.new e),h.tab.new e⟩
def TS.hid     (e:H p=la (.lst ys)):TS H (upd H p o):=⟨λa j h=>by
 have:a≠p:=λz=>by lia
 rw[Pc this];exact h,λa q h=>by
 have:a≠p:=λz=>by lia
 rw[Pc this];exact h⟩
def HR.hid  (h:HR K H G)(e:H p=la (.lst ys))(g:G p=Aa):HR K (upd H p o) G:=⟨λa j q=>by
 have:a≠p:=λz=>by lia
 exact(h a j q).keep (Pc this) (TS.hid e),h.tab.upd (λy z=>by lia) λj z=>by lia⟩
def HR.know  (h:HR K H G)(e:H p=la (.lst ys))(r:Mb K H us ys):HR K H (Wc G p (.lst us)):=⟨λa j q=>by
 by_cases z:a=p
 ·subst z;rw[wf]at q;cases q;exact⟨ys,e,r⟩
 ·rw[mh z]at q;exact h a j q,h.tab⟩
end
section
variable {X:Cx}{pick:List (Option Nat)}{ti:UI}{t:Tg}{tc:Sg->Gp->(Bool->Gp->Prop)->Prop}{te:UE}{σ:St}{H:Hp}{Q0:VK}
abbrev Sv  (pick:List (Option Nat))(F:UI)(t:Tg)(O:Sg->Gp->(Bool->Gp->Prop)->Prop)(Y:UE):UE:=λf G Q E=>F f G (λj ok I=>j.length<=Za/\cj ok (λx z k=>Yc t x (Wg pick f) λy=>O y z (λb q=>if b=ma then Y y q (λu R=>k (la u) R) (λ_ _=>False) else k Aa q)) j [] I
   λZ J=>newO J (.lst Z) Q) E
structure kq (D:Ca)(H:Hp)(G:Gp)(H':Hp)(G':Gp):Prop where
 go:∀a o,a≠D->H a=la o->G a=Aa->(nt:noTb o=ma:=by rfl)->H' a=la o/\G' a=Aa
instance {D:Ca} {H H':Hp} {G G':Gp}:CoeFun (kq D H G H' G') λ_=>∀a o,a≠D->H a=la o->G a=Aa->(nt:noTb o=ma:=by rfl)->H' a=la o/\G' a=Aa:=⟨@kq.go D H G H' G'⟩
def wN            {kk:List U->Gp->Prop}{QQ:St->List V->Hp->Prop}
  (free:∀i∈Ui t,∀w,F[i]?≠la (la w)) (wk:Mk X.K J H1 G1 xs ok) (ya:HR X.K H1 G1) (yc:H1 D=la (.lst zc)) (qe:G1 D=Aa) (vd:Mb X.K H1 acc0 zc) (zd:SR X.K H1 F yd) (hl:acc0.length+xs.length<=Za)
  (h1:cj ok (λx G2 k=>Yc t x F λτ=>tc τ G2 (λb Z=>if b=ma then te τ Z (λu G4=>k (la u) G4) (λ_ _=>False) else k Aa Z)) xs acc0 G1 kk)
  (wd:∀kb za ka O j,SR X.K j F kb->HR X.K j O->kq D H1 G1 j O->j D=la (.lst ka)->O D=Aa->Mb X.K j za ka->kk za O->QQ kb ka j) :
  dw J (lG X.K (Yc t)) (Uh X.K tc) (ky (Zi X.K te) D) QQ yd zc H1:=by
 refine⟨λi m τ ys j=>m=xs.length-i/\i<=xs.length/\∃I O,SR X.K j F τ/\HR X.K j O/\kq D H1 G1 j O/\j D=la (.lst ys)/\O D=Aa/\Mb X.K j I ys/\I.length<=acc0.length+i/\
  cj ok (λx G2 k=>Yc t x F λτ=>tc τ G2 (λb Z=>if b=ma then te τ Z (λu G4=>k (la u) G4) (λ_ _=>False) else k Aa Z)) (xs.drop i) I O kk,⟨xs.length,by simp,og _,acc0,G1,zd,ya,⟨λ_ _ _ a b _=>⟨a,b⟩⟩,yc,qe,vd,by lia,by simp_all⟩,?_⟩
 rintro i m τ ys j ⟨rfl,hi,I,O,sr,hr,f,eD,gD',ra,hal,hc⟩;have ts:TS H1 j:=⟨λa zs e=>(f a _ (λz=>by lia) e (ya.tupNone e)).1,λa zs e=>(f a _ (λz=>by lia) e (ya.codNone e)).1⟩
 by_cases xa:i<xs.length
 ·rw[Kl xa]at hc;obtain⟨ja,hb⟩:=hc;obtain⟨w1,_⟩:=wk i j O ts hr ja;obtain⟨go,yl⟩:=w1 xs[i] (by simp[xa])
  refine .inr ⟨go,λv qd y=>?_⟩;obtain⟨rx,R,f2⟩:=yl v qd y;have kc:=sr.ts (f2.ts hr);refine⟨xs[i],F,_,rx,kc,MB free ⟨rfl,λ_ _ e=>e⟩ hb,λqc jd va ⟨hk,he⟩=>?_⟩;refine⟨qc,O,_,va,R,hk,λb Z H3 Y f3 h3=>?_⟩;have xb:kq D H1 G1 H3 Z:=⟨λa o n h g nt=>let ⟨a1,a2⟩:=f a o n h g nt;let ⟨b1,b2⟩:=f2 a o a1 a2 nt;f3 a o b1 b2 nt⟩
  have vb:SR X.K H3 F jd:=(va.ext he).ts (f3.ts R);obtain⟨jc,xd⟩:=f2 D _ eD gD';obtain⟨jb,zb⟩:=f3 D _ jc xd;have yb:=(ra.ts (f2.ts hr)).ts (f3.ts R);cases b with
  |false=>
   rw[if_neg Md]at h3;dsimp only;rw[if_neg Md];exact⟨xs.length-(i+1),by lia,rfl,xa,I,Z,vb,Y,xb,jb,zb,yb,by lia,h3⟩
  |true=>
   rw[if_pos rfl]at h3;dsimp only;rw[if_pos rfl];refine⟨qc,Z,_,va.ts (f3.ts R),Y,h3,λu v G4 H4 ru vc f4 h4=>?_⟩;obtain⟨wa,wb⟩:=f4 D _ jb zb;have wc:=yb.ts (f4.ts Y);have xc:=TS.hid (o:=.lst (ys++[v])) wa;refine⟨wa,by rw[<- ra.length];lia,xs.length-(i+1),by lia,rfl,xa,I++[u],G4,(vb.ts (f4.ts Y)).ts xc,vc.hid wa wb,?_,fg,wb,(wc.append (Mb.mk (us:=[]) (vs:=[]) ru rfl)).ts xc,by grind,h4⟩
   refine⟨λa o n ha ga nt=>?_⟩;obtain⟨x1,x2⟩:=xb a o n ha ga nt;obtain⟨y1,y2⟩:=f4 a o x1 x2 nt;exact⟨by rw[Pc n];exact y1,y2⟩
 ·have e:i=xs.length:=by lia
  subst e;rw[NH]at hc;obtain⟨ja,q⟩:=hc;obtain⟨_,w2⟩:=wk xs.length j O ts hr ja;exact .inl ⟨w2 rfl,wd τ I ys O j sr hr f eD gD' ra q⟩
def qT  {is:List Nat}(f:is.all (λi=>(pick[i]?).join.isNone)=ma) ς:∀i∈is,∀w,(Wg pick ς)[i]?≠la (la w):=λi j w e=>by
 have:=jl.mp f i j;unfold Wg at e;rw[Lc]at e;cases q:pick[i]? with
 |none=>simp_all
 |some o=>
  simp_all
def SB  (hp:(Ui t).all (λi=>(pick[i]?).join.isNone)=ma)(h:lE X (Sv pick ti t tc te) σ H Q0):qv pick (lI X ti) (lG X.K (Yc t)) (Uh X.K tc) (Zi X.K te) σ H Q0:=by
 obtain⟨Y,G,Q,E,y,hG,h,lv,lx⟩:=h;refine⟨Y,G,_,E,y,hG,h,λxs ok G1 H1 J z Z wk I=>?_,lx⟩;obtain⟨hl,I⟩:=I;intro D j;refine wN (acc0:=[]) (qT hp Y) (wk.mono (TS.new j)) (z.newH j) fg (z.nope j) rfl (((y.ts (Z.ts hG)).ts (TS.new j)).pick pick) (by simp_all) I λxa R za G' H' sr hr f eD O ra q=>?_
 refine lv (.loc D) (.ref D) _ H' rfl (hr.know eD ra) ?_ (q.at D O);refine⟨λa o ha ga nt=>?_⟩;obtain⟨F,x2⟩:=Z a o ha ga nt;obtain⟨y1,y2⟩:=f a o (zg F j) (by rw[Pc (zg F j)];exact F) x2 nt
 exact⟨y1,by rw[mh (zg F j)];exact y2⟩

def u_lc  (q:X.calm=ma)(S:CScope X N pick scope)(z:PI X tg iter (lI X ti))(j:(Ui t).all (λi=>(pick[i]?).join.isNone)=ma)
  (F:∀cl C s₀ H₀ f,PG (ie X N scope cl C s₀ H₀ f) tg (lG X.K (Yc t))) (hi:∀cl C s₀ H₀ f,PIfs (ie X N scope cl C s₀ H₀ f) ifs (Uh X.K tc)) (y:∀cl C s₀ H₀ f,PE (ie X N scope cl C s₀ H₀ f) elt (Zi X.K te))
  (hs:∀x,Oh iter X.env x=pure x):PE X (.ListComp elt [⟨tg,iter,ifs,0⟩] scope pos) (lE X (Sv pick ti t tc te)):=
 (PK q S z F hi y hs).imp λ_ _ _ h=>SB j h
end
section
variable {X:Cx}{e:La}{te ta tb:UE}{p pos:Pos}
def lM  (hc:X.calm=ma)(R:Gl X "list")(Y:X.mg "list" = Aa)(ha:PE X e (lE X te))(J:md [e] X.env=[(ua,Ib e X.env)]) :
  PE X (.Call (.Name "list" p) [e] [] pos) (lE X λz G Q E=>te z G (λx y=>mkDU x y Q) E):=by
 refine(Kt (QS hc) R Y zJ (Vk ha Lk J) (by decide) (by decide) J rfl).imp λσ H Q0 h=>?_
 obtain⟨z,G,Q,E,F,hG,h,lv,lx⟩:=h;refine⟨z,G,λI y=>match I with|[x]=>mkDU x y Q|_=>False,E,F,hG,h,λI vs y H1 rs j f1 f=>?_,lx⟩
 dsimp only at f;split at f
 ·obtain⟨v,rfl,r⟩:=rs.one;unfold mkDU at f;split at f
  ·cases r;split at f
   ·rename_i xa g;obtain⟨O,hk,q⟩:=f;obtain⟨l,e,Z⟩:=j _ _ g;refine⟨_,l,O,rfl,e,?_,λp hp=>(lv.fr f1).lst hp (Xw _) j q⟩;rw[<- zw Z];exact hk
   lia
  lia
 lia
def mM  (Z:Gl X "list")(hm:X.mg "list" = Aa)(ha:PE X e (lE X te))(R:md [e] X.env=[(ua,Ib e X.env)]) :
  PE X (.Call (.Name "list" p) [e] [] pos) (lE X λy G Q E=>te y G (λx q=>Pf x q λxs _=>newO q (.lst xs) Q) E):=by
 refine(Kt (mU (X:=X)) Z hm zJ (Vk ha Lk R) (by decide) (by decide) R rfl).imp λσ H Q0 h=>?_
 obtain⟨y,G,Q,E,z,hG,h,Y,lx⟩:=h;refine⟨y,G,λI q=>match I with|[x]=>(Pf x q λxs _=>newO q (.lst xs) Q)|_=>False,E,z,hG,h,λI vs q H1 rs j O f=>?_,lx⟩
 dsimp only at f;split at f
 ·obtain⟨v,rfl,r⟩:=rs.one;unfold Pf at f;split at f
  ·obtain⟨a,F,rfl,ea,rr⟩:=r;exact⟨a,F,rfl,.inr (.of ea),λl J=>(Y.fr O).lst J rr j f⟩
  ·cases r;split at f
   ·rename_i I eu;obtain⟨F,sq,rr⟩:=j.ls eu;exact⟨_,F,rfl,.inl sq,λl J=>(Y.fr O).lst J rr j f⟩
   lia
  lia
 lia
def nM  (Z:Gl X "tuple")(hm:X.mg "tuple" = Aa)(ha:PE X e (lE X te))(R:md [e] X.env=[(ua,Ib e X.env)]) :
  PE X (.Call (.Name "tuple" p) [e] [] pos) (lE X λz G Q E=>te z G (λx q=>Pf x q λxs _=>Q (.tup xs) q) E):=by
 refine(Kt (xU (X:=X)) Z hm PyProof.Rows.boot_tuple (Vk ha Lk R) (by decide) (by decide) R rfl).imp λσ H Q0 h=>?_
 obtain⟨z,G,Q,E,F,hG,h,Y,lx⟩:=h;refine⟨z,G,λI q=>match I with|[x]=>(Pf x q λxs _=>Q (.tup xs) q)|_=>False,E,F,hG,h,λI vs q H1 rs j J f=>?_,lx⟩
 dsimp only at f;split at f
 ·obtain⟨v,rfl,r⟩:=rs.one;unfold Pf at f;split at f
  ·obtain⟨a,y,rfl,O,rr⟩:=r;exact⟨a,y,rfl,.inr ⟨.of O,(Y.fr J).here (w:=.tup _) ⟨a,y,rfl,O,rr⟩ j f⟩⟩
  ·cases r;split at f
   ·rename_i I eu;obtain⟨y,sq,rr⟩:=j.ls eu;exact⟨_,y,rfl,.inl ⟨sq,λl hl=>(Y.fr J).tup hl rr j f⟩⟩
   lia
  lia
 lia
def CQ     i n:Mb K H (rngU i n) ((Qc n).map λk:Nat=>V.int (i+(k:Int))):=by
 unfold rngU
 induction (Qc n)with
 |nil=>rfl
 |cons a r f=>exact⟨_,_,rfl,rfl,f⟩
def bO {F f:Pos}{a:La}(hc:X.calm=ma)(xa:Gl X "list")(Z:X.mg "list" = Aa)(Y:Gl X "range")(J:X.mg "range" = Aa)(ha:PE X a (lE X ta))(hs:md [a] X.env=[(ua,Ib a X.env)])
  (R:md [.Call (.Name "range" F) [a] [] f] X.env=[(ua,Ib (.Call (.Name "range" F) [a] [] f) X.env)]) :
  PE X (.Call (.Name "list" p) [.Call (.Name "range" F) [a] [] f] [] pos) (lE X λz G Q E=>ta z G (λx y=>match x with
   |.int j=>0<=j/\j<=1000000/\newO y (.lst (rngU 0 j.toNat)) Q
   |_=>False) E):=by
 refine(HU hc xa Z Y J (Vk ha Lk hs) hs R).imp λσ H Q0 h=>?_;obtain⟨z,G,Q,E,I,hG,h,lv,lx⟩:=h;refine⟨z,G,λus y=>match us with|[x]=>(match x with|.int j=>0<=j/\j<=1000000/\newO y (.lst (rngU 0 j.toNat)) Q|_=>False)|_=>False,E,I,hG,h,λus vs y H1 rs O f1 q=>?_,lx⟩
 dsimp only at q;split at q
 ·obtain⟨v,rfl,r⟩:=rs.one;split at q
  ·rename_i j;cases r;refine⟨_,rfl,q.1,q.2.1,λl hl=>?_⟩;have:=CQ (K:=X.K) (H:=H1) 0 j.toNat;simp only[Int.zero_add]at this;exact(lv.fr f1).lst hl this O q.2.2
  lia
 lia
def u_ty    (q:Gl X x)(y:X.mg x=Aa)(f:Pi x=la (.type n))(j:x ≠ "__name__")(hd:(x==("__debug__" : Str))=ua):PE X (.Name x pos) (lE X λ_ G Q _=>Q (.ty n) G):=
 gm (u:=.ty n) (yP (v:=.ty n) q y f rfl j hd) λ_=>rfl
def u_gl      (q:Gl X x)(f:X.mg x=la w)(r:RelV v w)(j:∀H,RU X.K H u v)(hd:(x==("__debug__" : Str))=ua):PE X (.Name x pos) (lE X λ_ G Q _=>Q u G):=
 gm (CP q f r hd) j
def WN  : PE X (.Dict [] [] pos) (lE X λ_ G Q _=>newO G (.dK []) Q):=by
 refine zR.imp λI H z h p f=>?_;obtain⟨F,G,Q,E,y,j,h,q,lx⟩:=h;exact q (.loc p) (.ref p) _ _ rfl (j.newO (mo:=.dK []) f ⟨[],fg,rfl⟩) (Fr.newO f) (h.at p (j.nope f))
theorem Kd.merge    : ∀{j } {m },Kd K H j m->∀{kvs } {l },Kd K H kvs l->Kd K H (j.foldl (λacc q=>dPut acc q.1 q.2) kvs) (Uk l m)
 |[],_,h,_,_,h'=>by cases h;exact h'
 |(k,u)::j,_,h,_,_,h'=>by
  obtain⟨v,F,rfl,r,y⟩:=h;exact Kd.merge y (h'.put r)
def lD  (X:Cx)(t:Sg->Gp->(List (Ub×U)->Gp->Prop)->KX->Prop)(f:List (TE×TE)):Prop:=
 ∀σ H ς G Q E (Q0:List (V×V)->Hp->Prop),SR X.K H ς σ->HR X.K H G->t ς G Q E->LX X σ H G E->
  (∀kvs (l:List (Ub×V)) G' H',Kd X.K H' kvs l->HR X.K H' G'->Fr H G H' G'->Q kvs G'->Q0 (l.map λj=>(kV j.1,j.2)) H')->Xs f σ H Q0
def iM      (F:Ll X pos j y xa)(hd:lD X t xa)(O:j.all (·.isSome)=ma)(hl:j.length=y.length)(h0:j≠[])
  (Z:j.length<=15):PE X (.Dict j y pos) (lE X λR G Q E=>t R G (λkvs G1=>kvs.length<=15/\newO G1 (.dK (Ai kvs)) Q) E):=by
 refine(BP F O hl h0 Z).imp λσ H Q0 h p F=>?_;obtain⟨R,G,Q,E,Y,hG,h,lv,lx⟩:=h;have gp:=hG.nope F;refine hd σ _ R G _ E _ (Y.ts (TS.new F)) (hG.newH F) h (lx.fr (Fr.new F)) λkvs l G' H' r J f q=>?_;obtain⟨e,g⟩:=f p _ fg gp;refine⟨e,l,rfl,by rw[<- r.length];exact q.1,?_⟩
 have ts:TS H' (upd H' p (.dK (Uk [] l))):=⟨λa xs h=>by
  have:a≠p:=λz=>by lia
  rw[Pc this];exact h,λa xs h=>by
  have:a≠p:=λz=>by lia
  rw[Pc this];exact h⟩
 refine lv (.loc p) (.ref p) (Wc G' p (.dK (Ai kvs))) _ rfl ⟨λa ob z=>?_,J.tab.upd (λps z=>by lia) λob z=>by lia⟩ ⟨λa o ha ga nt=>?_⟩ (q.2.at p g)
 ·by_cases I:a=p
  ·subst I;rw[wf]at z;cases z;exact⟨_,fg,(Kd.merge r (kvs:=[]) (l:=[]) rfl).ts ts⟩
  ·rw[mh I]at z;exact(J a ob z).keep (Pc I) ts
 ·have I:a≠p:=zg ha F;obtain⟨x1,x2⟩:=f a o (by rw[Pc I];exact ha) ga nt
  exact⟨by rw[Pc I];exact x1,by rw[mh I];exact x2⟩
def tN  : lD X (λ_ G Q _=>Q [] G) []:=λF H z G Q E y j f h lx q=>q [] [] G H rfl f (Fr.refl _ _) h
def VP {tk tv:UE}{t:Sg->Gp->(List (Ub×U)->Gp->Prop)->KX->Prop}{J:List (TE×TE)}(hr:lD X t J):lD X (λf G Q E=>tk f G (λx Y=>tv f Y (λy R=>match kU x with
   |some k=>t f R (λkvs G3=>Q ((k,y)::kvs) G3) E
   |none=>False) E) E) ((lE X tk,lE X tv)::J):=by
 intro σ H f G Q E Q0 j hG h lx q;refine⟨f,G,_,E,j,hG,h,λx v Y H1 rx z F h1=>?_,lx⟩;refine⟨f,Y,_,E,j.ts (F.ts hG),z,h1,λy v' R H2 ry I O h2=>?_,lx.fr F⟩;dsimp only at h2;split at h2
 ·rename_i k ek;have:=lj rx ek;subst this;refine hr σ H2 f R _ E _ ((j.ts (F.ts hG)).ts (O.ts z)) I h2 (lx.fr (F.trans O)) λkvs l G3 H3 r Z f3 h3=>?_;exact q ((k,y)::kvs) ((k,v')::l) G3 H3 ⟨v',l,rfl,ry.ts (f3.ts I),r⟩ Z ((F.trans O).trans f3) h3
 lia
end
end Z

namespace L2
open PySem
end L2
namespace Z
open PySem L2
structure LD (X:Cx)(H:Hp)(G:Gp)(De:En)(D:Ends):Prop where
 nx:∀ς' σ' G' H',SR X.K H' ς' σ'->HR X.K H' G'->Fr H G H' G'->De.nx ς' G'->D.nx σ' H'
 rt:∀w v G' H',RU X.K H' w v->HR X.K H' G'->Fr H G H' G'->De.rt w G'->D.rt v H'
 ex:∀(pins:List (Ca×Obj)) (e:Da) (s':Ia) (x:XV) ς' σ' G' H',Oa X pins σ' H' s'->SR X.K H' ς' σ'->CJ X H' s' e x->HR X.K H' G'->Fr H G H' G'->De.ex x ς' G'->X.xe e s'
abbrev US:=En->Sg->Gp->Prop
def lS  (X:Cx)(t:US):L2.TS:=λD q H=>∃j f G,SR X.K H f q/\HR X.K H G/\t j f G/\LD X H G j D

def LD.fr  (h:LD X H G J D)(f:Fr H G H1 G1):LD X H1 G1 J D:=
 ⟨λj q I y a b c=>h.nx j q I y a b (f.trans c),λw v I y a b c=>h.rt w v I y a b (f.trans c),λF e O x j q I y i a b c d=>h.ex F e O x j q I y i a b c (f.trans d)⟩
def LD.lx  (h:LD X H G J D)(y:SR X.K H F σ)(R:HR X.K H G):LX X σ H G λx Y=>J.ex x F Y:=λj e s' x Z O I a hr f q=>h.ex j e s' x F σ Z O I (y.ts (f.ts R)) a hr f q
def LD.here  (h:LD X H G I D)(j:SR X.K H y σ)(F:HR X.K H G)(q:I.nx y G):D.nx σ H:=h.nx y σ G H j F (Fr.refl _ _) q
def LD.with    (h:LD X H G J D)(O:∀q F y j,SR X.K j q F->HR X.K j y->Fr H G j y->k q y->I.nx F j)(R:I.rt=D.rt):LD X H G { J with nx:=k } I:=
 ⟨O,λw v y j a b c d=>by rw[R];exact h.rt w v y j a b c d,h.ex⟩
section
variable {X:Cx}{st:Pa}{rest:List Pa}{pos:Pos}{e:La}{te:UE}{t u:US}
def s_nil  : xf X [] (lS X λD j G=>D.nx j G):=vQ.imp λD F H ⟨z,j,G,f,q,h,y⟩=>y.here f q h
def s_cons  (R:PS X st (lS X t))(J:xf X rest (lS X u)):xf X (st::rest) (lS X λD j G=>t { D with nx:=λf y=>u D f y } j G):=by
 refine(BS R J).imp λD Z H ⟨F,j,G,q,I,h,z⟩=>?_;exact⟨_,j,G,q,I,h,z.with (λf O y Y a b c d=>⟨F,f,y,a,b,d,z.fr c⟩) rfl⟩
def s_expr  (O:PE X e (lE X te))(hs:yj e Aa pos.line X.env=pure ua):PS X (.Expr e pos) (lS X λD y G=>te y G (λ_ F=>D.nx y F) λx F=>D.ex x y F):=
 (eR O hs).imp λD R H ⟨De,y,G,j,z,h,I⟩=>⟨y,G,_,_,j,z,h,λw v Y J _ Z f q=>I.nx y R Y J (j.ts (f.ts z)) Z f q,I.lx j z⟩
def s_ret  (J:PE X e (lE X te)):PS X (.Return (la e) pos) (lS X λD y G=>te y G D.rt λx O=>D.ex x y O):=
 (vO J).imp λD σ H ⟨Z,y,G,j,F,h,z⟩=>⟨y,G,_,_,j,F,h,λw v R I r Y f q=>z.rt w v R I r Y f q,z.lx j F⟩
def s_if     (Y:PT X c (lT X tc))(ha:xf X a (lS X t))(Z:xf X b (lS X u)):PS X (.If c a b pos) (lS X λD y G=>tc y G (λx F=>if x=ma then t D y F else u D y F) λx F=>D.ex x y F):=by
 refine(WK Y ha Z).imp λD σ H ⟨J,y,G,j,z,h,I⟩=>⟨y,G,_,_,j,z,h,λb O H' R f q=>?_,I.lx j z⟩;cases b with
 |true=>rw[if_pos rfl]at q ⊢;exact⟨J,y,O,j.ts (f.ts z),R,q,I.fr f⟩
 |false=>rw[if_neg Md]at q ⊢;exact⟨J,y,O,j.ts (f.ts z),R,q,I.fr f⟩
def mO      (h:lS X (λD z G=>te z G (λu I=>Yc g u z λj=>D.nx j I) λx I=>D.ex x z I) D σ H) :
  lE X te σ H λx H1=>lG X.K (Yc g) x σ H1 D.nx:=by
 obtain⟨De,z,G,y,F,h,O⟩:=h;exact⟨z,G,_,_,y,F,h,λw v Z R r hr f q=>⟨w,z,_,r,y.ts (f.ts F),q,λj J Y hk=>O.nx j J Z R Y hr f hk⟩,O.lx y F⟩
def s_asg {f:La}{g:Tg}(z:PE X e (lE X te))(I:PG X f (lG X.K (Yc g)))(hs:Ni [f] e pos.line X.env=pure ua)(F:Gh [f] e X.env=pure Aa)
  (J:(lg [f] X.env).map (·.2)=[Gc f X.env]):PS X (.Assign [f] e pos) (lS X λD j G=>te j G (λu y=>Yc g u j λq=>D.nx q y) λx y=>D.ex x j y):=
 (aC z I hs F J).imp λ_ _ _ h=>mO h
def s_lc            
  (hN:X.N.Nodup) (J:X.N[i]?=la y) (hy:X.env.scope.names.lookup y=la .local) (hc:X.calm=ma) (S:CScope X N pick scope) (hw:PI X tg iter (lI X ti)) (hp:(Ui g).all (λi=>(pick[i]?).join.isNone)=ma)
  (hg:∀cl C s₀ H₀ I,PG (ie X N scope cl C s₀ H₀ I) tg (lG X.K (Yc g))) (hi:∀cl C s₀ H₀ I,PIfs (ie X N scope cl C s₀ H₀ I) ifs (Uh X.K tc)) (he:∀cl C s₀ H₀ I,PE (ie X N scope cl C s₀ H₀ I) elt (Zi X.K te))
  (R:yj (.ListComp elt [⟨tg,iter,ifs,0⟩] scope pos) (la (.Name y py)) F.line X.env=pure ma) (hs:∀x,Oh iter X.env x=pure x) :
  PS X (.Assign [.Name y py] (.ListComp elt [⟨tg,iter,ifs,0⟩] scope pos) F) (lS X λD z G=>Sv pick ti g tc te z G (λu Y=>Yc (.n i) u z λO=>D.nx O Y) λx Y=>D.ex x z Y):=by
 refine(YK hN J hy hc S hw hg hi he R hs).imp λD σ H h=>?_;obtain⟨De,z,G,j,Z,h,ld⟩:=h;exact SB hp ⟨z,G,_,_,j,Z,h,λw v G' H' r hr f q=>ld.nx _ _ G' H' ((j.ts (f.ts Z)).set r i) hr f q,ld.lx j Z⟩
def dB  : TSet:=λo i v H Q=>∃a f,o=.ref a/\DPut H a i v f/\Q f
def dS  (hu:X.A.units+1<Xb):PSet X dB:=by
 intro f s O H o i v Y R u Q I F j J h;obtain⟨a,y,rfl,g,q⟩:=h;cases F;exact TR hu I g j J λZ z=>⟨y,z,q⟩
def _root_.L2.PSet.or {t t':TSet}(h:PSet X t)(h':PSet X t'):PSet X λo i v H Q=>t o i v H Q\/t' o i v H Q:=by
 intro j s F H o i v O J u Q I Y y R q;rcases q with q|q
 ·exact h j s F H o i v O J u Q I Y y R q
 ·exact h' j s F H o i v O J u Q I Y y R q
def FQ       {Y:Hp->Prop}(rx:RU X.K H x v)(ry:RU X.K H y v')(I:RU X.K H w J)(f:HR X.K H G)(h:setU x y w G k)
  (q:∀R O,HR X.K O R->Fr H G O R->k R->Y O):eB v v' J H Y\/dB v v' J H Y:=by
 cases x with
 |loc a=>
  cases rx;unfold setU at h;dsimp only at h;split at h
  ·rename_i xs g;obtain⟨vs,e,z⟩:=f.lst g;cases y with
   |int i=>
    cases ry;dsimp only at h;split at h
    ·rename_i j ej;refine .inl ⟨a,vs,i,j,rfl,rfl,e,by rw[<- z.length];exact ej,?_⟩
     exact q _ _ (f.write (mo':=.lst (xs.set j w)) g ⟨_,fg,(z.set I j).ts (TS.write f g)⟩) (Fr.write g) h.at
    lia
   |_=>lia
  ·rename_i F g;obtain⟨l,e,z⟩:=f a _ g;split at h
   ·rename_i k' Z;have:=lj ry Z;subst this;refine .inr ⟨a,_,rfl,DPut.k e (by rw[<- z.length];exact h.1),?_⟩
    exact q _ _ (f.write (mo':=.dK (dPut F k' w)) g ⟨_,fg,(z.put I).ts (TS.write f g)⟩) (Fr.write g) h.2.at
   lia
  ·rename_i F g;obtain⟨l,e,z⟩:=f a _ g;cases y with
   |tup ys=>
    obtain⟨b,ws,rfl,eb,rb⟩:=ry;dsimp only at h;split at h
    ·rename_i k' Z;have:=Os rb Z;subst this;refine .inr ⟨a,_,rfl,DPut.t e eb (by rw[<- z.length];exact h.1),?_⟩
     exact q _ _ (f.write (mo':=.dT (dPut F k' w)) g ⟨_,fg,(z.put I).ts (TS.write f g)⟩) (Fr.write g) h.2.at
    lia
   |_=>lia
  lia
 |_=>exact h.elim
def s_set {o i:La}{to ti:UE}{j:Pos}(hu:X.A.units+1<Xb)(he:PE X e (lE X te))(ho:PE X o (lE X to))(hi:PE X i (lE X ti))(hs:Ni [.Subscript o i j] e pos.line X.env=pure ua)(hw:Gh [.Subscript o i j] e X.env=pure Aa)
  (h1:(lg [.Subscript o i j] X.env).map (·.2)=[Gc (.Subscript o i j) X.env]) (ha:∀v,Gc (.Subscript o i j) X.env v=(do
   let ov <- Uc [v] (Ib o X.env)
   let iv <- Uc [v,ov] (Ib i X.env)
   Lf j
   Uc [v,ov,iv] (ki ov iv v)
   release [v,ov,iv] [])):PS X (.Assign [.Subscript o i j] e pos) (lS X λD z G=>te z G (λv R=>to z R (λx G2=>ti z G2 (λy G3=>setU x y v G3 λG4=>D.nx z G4) λx R=>D.ex x z R) λx R=>D.ex x z R) λx R=>D.ex x z R):=by
 refine(aC he (WO ho hi (PSet.or fS (dS hu)) ha) hs hw h1).imp λD σ H ⟨De,z,G,Y,hG,h,ld⟩=>?_;refine⟨z,G,_,_,Y,hG,h,λw v R H1 za O f1 h1=>?_,ld.lx Y hG⟩;have F:=Y.ts (f1.ts hG);refine⟨z,R,_,_,F,O,h1,λx vx G2 H2 rx J f2 h2=>?_,(ld.fr f1).lx F O⟩;have I:=F.ts (f2.ts O);refine⟨z,G2,_,_,I,J,h2,λy vy G3 H3 ry xa f3 h3=>?_,(ld.fr (f1.trans f2)).lx I J⟩;have Z:=I.ts (f3.ts J);exact FQ (rx.ts (f3.ts J)) ry ((za.ts (f2.ts O)).ts (f3.ts J)) xa h3 λG' H' hr f q=>ld.nx z σ G' H' (Z.ts (f.ts xa)) hr (((f1.trans f2).trans f3).trans f) q
def gV  (X:Cx)(o:ml):Prop:=∃r:Yu,EJ X o r/\∀x y v f G H Q j,RU X.K H x v->RU X.K H y f->HR X.K H G->Gs o x y G Q->LV X H G Q j->r v f H j
def KN   o:gV X o:=by
 cases o with
 |Add=>
  refine⟨_,(Cc.or (IP (X:=X)) sU),λx y v I G H Q F z q f h j=>?_⟩;cases x<;>try exact h.elim
  ·cases y<;>try exact h.elim
   cases z;cases q;exact .inl ⟨_,_,rfl,rfl,j.int f h⟩
  ·cases y<;>try exact h.elim
   cases z;cases q;exact .inr ⟨_,_,rfl,rfl,h.1,j.str f h.2⟩
 |Sub=>
  refine⟨_,KP (X:=X),λx y v I G H Q F z q f h j=>?_⟩;cases x<;>try exact h.elim
  cases y<;>try exact h.elim
  cases z;cases q;exact⟨_,_,rfl,rfl,j.int f h⟩
 |Mult=>
  refine⟨_,JP (X:=X),λx y v I G H Q F z q f h j=>?_⟩;cases x<;>try exact h.elim
  cases y<;>try exact h.elim
  cases z;cases q;exact⟨_,_,rfl,rfl,h.1,j.int f h.2⟩
 |_=>exact⟨λ_ _ _ _=>False,λ_ _ _ _ _ _ _ _ _ _ _ _ h=>h.elim,λ_ _ _ _ _ _ _ _ _ _ _ h _=>h.elim⟩
def s_aug      (hN:X.N.Nodup)(hi:X.N[i]?=la x)(hx:Nl X.env.scope x)(hf:X.fn x=ma\/X.env.scope.names.lookup x=la .local)(he:PE X e (lE X te)) :
  PS X (.AugAssign (.Name x za) o e pos) (lS X λD j G=>slot j i λx=>te j G (λy I=>Gs o x y I λz R=>D.nx (j.set i (la z)) R) λx I=>D.ex x j I):=by
 obtain⟨r,O,h2⟩:=KN (X:=X) o;refine(ZO hN hi hx he O hf).imp λD σ H ⟨De,j,G,f,J,h,ld⟩=>?_;dsimp only at h;unfold slot at h;split at h
 ·rename_i u eu;obtain⟨v,ev,ru⟩:=f.2 i u eu;refine⟨v,ev,j,G,_,_,f,J,h,λy vy I H1 ry F Y O=>?_,ld.lx f J⟩;exact h2 u y v vy I H1 _ _ (ru.ts (Y.ts J)) ry F O λw vw R H2 xa Z f2 q=>ld.nx _ _ R H2 (((f.ts (Y.ts J)).ts (f2.ts F)).set xa i) Z (Y.trans f2) q
 lia
def _root_.L2.PGet.or {t t':V->V->Hp->VK->Prop}(h:PGet X t)(h':PGet X t'):PGet X λo i H Q=>t o i H Q\/t' o i H Q:=by
 intro j s F H o i O J Q I R y q;rcases q with q|q
 ·exact h j s F H o i O J Q I R y q
 ·exact h' j s F H o i O J Q I R y q
def s_par2        (hc:X.calm=ma)(hN:X.N.Nodup)(hi:X.N[i]?=la x)(hj:X.N[j]?=la y)(I:i≠j)
  (hx:X.env.scope.names.lookup x=la .local) (hy:X.env.scope.names.lookup y=la .local) (ha:PA X [a,b] (lA X ts))
  (hw:Gh [.Tuple [.Name x px,.Name y py] kt pt] (.Tuple [a,b] k2 F) X.env=pure (la [x,y])) (hs:Ni [.Tuple [.Name x px,.Name y py] kt pt] (.Tuple [a,b] k2 F) pos.line X.env=pure ua) :
  PS X (.Assign [.Tuple [.Name x px,.Name y py] kt pt] (.Tuple [a,b] k2 F) pos) (lS X λD q G=>ts q G (λus z=>us.length=[i,j].length/\D.nx (([i,j].zip us).foldl (λs p=>s.set p.1 (la p.2)) q) z) λx z=>D.ex x q z):=by
 refine(uO hc hN hi hj I hx hy ha hw hs).imp λD σ H ⟨De,q,G,f,R,h,ld⟩=>?_;refine⟨q,G,_,_,f,R,h,λus vs z H1 Y O f1 J=>?_,ld.lx f R⟩;obtain⟨J,Z⟩:=J
 match us,J,Z,Y with
 |[u,w],_,Z,Y=>
  obtain⟨v,v',rfl,r1,r2⟩:=Y.two;exact⟨v,v',rfl,ld.nx _ _ z H1 (((f.ts (f1.ts R)).set r1 i).set r2 j) O f1 Z⟩
def s_for       (hp:wj (Ja X.prog X.w) X.A X.env X.xe)(hc:X.calm=ma)(hi:PI X tg iter (lI X ti))(hg:PG X tg (lG X.K (Yc g)))(hb:xf X body (lS X tb))
  (hs:∀x,Oh iter X.env x=pure x):PS X (.For tg iter body [] pos) (lS X λD ς G=>ti ς G (λxs ok G1=>forL ok (λx F I k=>Yc g x F λj=>tb { D with nx:=k } j I) xs ς G1 D.nx) λx G1=>D.ex x ς G1):=by
 refine(aP hp hc hi hg hb hs).imp λD σ H ⟨De,ς,G,xa,hG,h,ld⟩=>?_;refine⟨ς,G,_,_,xa,hG,h,λxs ok G1 H1 J za f1 wk h1=>?_,ld.lx xa hG⟩;refine⟨λi m ja R=>m=xs.length-i/\i<=xs.length/\∃z O,SR X.K R z ja/\HR X.K R O/\Fr H1 G1 R O/\forL ok (λx F I k=>Yc g x F λj=>tb { De with nx:=k } j I) (xs.drop i) z O De.nx,⟨xs.length,by simp,og _,ς,G1,xa.ts (f1.ts hG),za,Fr.refl _ _,by simp_all⟩,?_⟩
 rintro i m ja R ⟨rfl,hi',z,O,sr,hr,f,hc'⟩;by_cases va:i<xs.length
 ·rw[Kl va]at hc';obtain⟨Z,ya⟩:=hc';obtain⟨w1,_⟩:=wk i R O (f.ts za) hr Z;obtain⟨go,yl⟩:=w1 xs[i] (by simp[va])
  refine .inr ⟨go,λY H2=>∃j I,SR X.K H2 j Y/\HR X.K H2 I/\Fr H1 G1 H2 I/\forL ok (λx F I k=>Yc g x F λj=>tb { De with nx:=k } j I) (xs.drop (i+1)) j I De.nx,λY H2 q=>⟨xs.length-(i+1),by lia,rfl,va,q⟩,λv xb y=>?_⟩
  obtain⟨rx,wa,f2⟩:=yl v xb y;refine⟨xs[i],z,_,rx,sr.ts (f2.ts hr),ya,λj Y ha hk=>?_⟩;have f3:=(f1.trans f).trans f2;refine⟨_,j,O,ha,wa,hk,(ld.fr f3).with (λka zb G3 H3 a b c d=>⟨ka,G3,a,b,(f.trans f2).trans c,d⟩) rfl⟩
 ·have e:i=xs.length:=by lia
  subst e;rw[NH]at hc';obtain⟨Z,q⟩:=hc';exact .inl ⟨(wk xs.length R O (f.ts za) hr Z).2 rfl,ld.nx z ja O R sr hr (f1.trans f) q⟩
def s_wh      (hp:wj (Ja X.prog X.w) X.A X.env X.xe)(hc:PT X c (lT X tc))(hb:xf X body (lS X tb)) :
  PS X (.While c body [] pos) (lS X λD ς G=>∃W:Nat->Sg->Gp->Prop,(∃m,W m ς G)/\∀m z G1,W m z G1->
   tc z G1 (λt Z=>if t=ma then tb { D with nx:=λj F=>∃J,J<m/\W J j F } z Z else D.nx z Z) λx G1=>D.ex x z G1):=by
 refine(AS hp hc hb).imp λD σ H ⟨De,ς,G,ja,hG,h,ld⟩=>?_;obtain⟨W,⟨m0,w0⟩,za⟩:=h;refine⟨λm O H'=>∃j F,SR X.K H' j O/\HR X.K H' F/\Fr H G H' F/\W m j F,⟨m0,ς,G,ja,hG,Fr.refl _ _,w0⟩,?_⟩;rintro m O H' ⟨j,F,sr,hr,f,w⟩;refine⟨j,F,_,_,sr,hr,za m j F w,λb Z H2 xa Y q=>?_,(ld.fr f).lx sr hr⟩;cases b with
 |true=>
  rw[if_pos rfl]at q ⊢;refine⟨λI H3=>∃y R,SR X.K H3 y I/\HR X.K H3 R/\Fr H G H3 R/\∃J,J<m/\W J y R,λI H3 ⟨y,R,a,b,c,J,hm,w'⟩=>⟨J,hm,y,R,a,b,c,w'⟩,?_⟩;exact⟨_,j,Z,sr.ts (Y.ts hr),xa,q,(ld.fr (f.trans Y)).with (λy I R H3 a b c d=>⟨y,R,a,b,(f.trans Y).trans c,d⟩) rfl⟩
 |false=>
  rw[if_neg Md]at q ⊢;exact ld.nx j O Z H2 (sr.ts (Y.ts hr)) xa (f.trans Y) q
end
structure Dc where
 N:List Str
 sc:List (Str×Qf)
noncomputable def kd  (c:Dc)(x:Str)(k:Qf):Bool:=c.sc.lookup x==la k
def Dg  (c:Dc)(x:Str):Bool:=kd c x .globalImplicit && !(x==("__debug__" : Str))
noncomputable def Rv  : La->List Str
 |.Name x _=>[x]
 |_=>[]
def DK  : La->List Str
 |.Tuple f _ _=>f.flatMap Rv
 |e=>Rv e
def MQ  : La->List Str
 |.Tuple f _ _=>f.flatMap DK
 |e=>Rv e
noncomputable def FC  : List String:=["bool", "int", "str", "list", "tuple", "dict"]
def cOkS  (c:Dc)(N:List Str)(pick:List (Option Nat))(scope:Od):Bool:=
 decide (scope.kind=.function)&&scope.names.all (λy=>y.2 != .cell||scope.names.lookup y.1==la .cell)&&scope.names.all (λy=>y.2 != .local||scope.names.lookup y.1==la .local)
  && scope.names.all (λy=>y.2 != .free||(scope.names.lookup y.1==la .free&&(kd c y.1 .cell||kd c y.1 .free)))
  && pick.length==N.length&&(N.zip pick).all (λp=>match p.2 with|none=>ma|some j=>c.N[j]?==la p.1&&scope.names.lookup p.1==la .free)&&decide N.Nodup
noncomputable def Rs  : La->Bool
 |.Call (.Name _ _) [] [] _=>ua
 |_=>ma
noncomputable def e0  : La:=.Name "" ⟨0,0,0,0⟩
def hd  : List La->La
 |[]=>e0
 |e::_=>e
def c0  : La->La
 |.BinOp l _ _ _=>l
 |.UnaryOp _ x _=>x
 |.IfExp t _ _ _=>t
 |.Compare l _ _ _=>l
 |.Subscript v _ _=>v
 |.Attribute v _ _=>v
 |.Call f _ _ _=>f
 |.ListComp e _ _ _=>e
 |.FormattedValue v _ _ _=>v
 |_=>e0
def c1  : La->La
 |.BinOp _ _ r _=>r
 |.IfExp _ b _ _=>b
 |.Subscript _ s _=>s
 |_=>e0
def c2  : La->La
 |.IfExp _ _ b _=>b
 |_=>e0
noncomputable def cl  : La->List La
 |.BoolOp _ f _=>f
 |.Compare _ _ f _=>f
 |.Call _ f _ _=>f
 |.List f _=>f
 |.Tuple f _ _=>f
 |.Dict _ f _=>f
 |.JoinedStr f _=>f
 |_=>[]
noncomputable def kk  : La->Nat
 |.Constant _ k _=>k
 |.Tuple _ k _=>k
 |_=>0
def oe  : Option La->La
 |some e=>e
 |none=>e0
def dk  : La->List La
 |.Dict f _ _=>f.map oe
 |_=>[]
def gen1  : La->gu
 |.ListComp _ (g::_) _ _=>g
 |_=>⟨e0,e0,[],0⟩
noncomputable def tq  : La->Od
 |.ListComp _ _ s _=>s
 |_=>⟨.module,[],ua,ua,[]⟩
def s0  : La->La
 |.Slice (la e) _ _ _=>e
 |_=>e0
def s1  : La->La
 |.Slice _ (la e) _ _=>e
 |_=>e0
def s2  : La->La
 |.Slice _ _ (la e) _=>e
 |_=>e0
noncomputable def Wf  (c:Dc)(i:Nat):Str:=c.N.getD i ""
noncomputable def my  : Bool->PySem.BoolOp
 |true=>.And
 |false=>.Or
noncomputable def Og  : Es->Nat
 |.nil=>0
 |.cons _ f=>Og f+1
noncomputable def Jo  : bh->Nat
 |.nil=>0
 |.cons _ ts=>Jo ts+1
noncomputable def EH  : Tg->Bool
 |.t _=>ma
 |.n _=>ua
noncomputable def isLc  : E->Bool
 |.lc ..=>ma
 |_=>ua
def cc  (c:Dc)(pick:List (Option Nat))(h:La):Dc:=⟨MQ (gen1 h).target++(pick.filterMap id).filterMap (λj=>c.N[j]?),(tq h).names⟩
mutual
noncomputable def unTg (c:Dc):Tg->La->La
 |.n i,h=>.Name (Wf c i) h.pos
 |.t ts,h=>.Tuple (gj c ts (cl h)) (kk h) h.pos
noncomputable def gj (c:Dc):bh->List La->List La
 |.nil,_=>[]
 |.cons t ts,hs=>unTg c t (hd hs)::gj c ts hs.tail
end
def BA  (c:Dc)(i:Nat):Bool:=decide (i<c.N.length)&&(kd c (Wf c i) .local||kd c (Wf c i) .cell)
mutual
noncomputable def okTg (c:Dc):Tg->Bool
 |.n i=>BA c i
 |.t ts=>Uv c ts
noncomputable def Uv (c:Dc):bh->Bool
 |.nil=>ma
 |.cons t ts=>okTg c t&&Uv c ts
end
section
variable (T:qf)
noncomputable def Rt (n:Nat):Str:=match T.funs[n]? with
 |some d=>d.name
 |none => ""
mutual
noncomputable def Zb (c:Dc):E->La->La
 |.v i,h=>.Name (Wf c i) h.pos
 |.non,h=>.Constant .none (kk h) h.pos
 |.bl b,h=>.Constant (.bool b) (kk h) h.pos
 |.int i,h=>.Constant (.int i) (kk h) h.pos
 |.str x,h=>.Constant (.str x) (kk h) h.pos
 |.g n,h=>.Name (T.gn.getD n "") h.pos
 |.ty n,h=>.Name (Li n) h.pos
 |.bin o a b,h=>.BinOp (Zb c a (c0 h)) o (Zb c b (c1 h)) h.pos
 |.neg a,h=>.UnaryOp .USub (Zb c a (c0 h)) h.pos
 |.not a,h=>.UnaryOp .Not (Zb c a (c0 h)) h.pos
 |.bop k a es,h=>.BoolOp (my k) (Zb c a (hd (cl h))::unEs c es (cl h).tail) h.pos
 |.cmp o a b,h=>.Compare (Zb c a (c0 h)) [o] [Zb c b (hd (cl h))] h.pos
 |.cmp2 o p a b d,h=>.Compare (Zb c a (c0 h)) [o,p] [Zb c b (hd (cl h)),Zb c d (hd (cl h).tail)] h.pos
 |.ife t a b,h=>.IfExp (Zb c t (c0 h)) (Zb c a (c1 h)) (Zb c b (c2 h)) h.pos
 |.tup es,h=>.Tuple (unEs c es (cl h)) (kk h) h.pos
 |.lst es,h=>.List (unEs c es (cl h)) h.pos
 |.dic es,h=>.Dict (eh c es (dk h)) (Pl c es (cl h)) h.pos
 |.ix a b,h=>.Subscript (Zb c a (c0 h)) (Zb c b (c1 h)) h.pos
 |.sl a lo hi,h=>.Subscript (Zb c a (c0 h)) (.Slice (jv c lo (s0 (c1 h))) (jv c hi (s1 (c1 h))) Aa (c1 h).pos) h.pos
 |.rev a b,h=>.Subscript (Zb c a (c0 h)) (.Slice Aa Aa (la (Zb c b (s2 (c1 h)))) (c1 h).pos) h.pos
 |.call n es,h=>.Call (.Name (Rt T n) (c0 h).pos) (unEs c es (cl h)) [] h.pos
 |.blt b es,h=>.Call (.Name (bltN b) (c0 h).pos) (unEs c es (cl h)) [] h.pos
 |.meth m o es,h=>.Call (.Attribute (Zb c o (c0 (c0 h))) (mthN m) (c0 h).pos) (unEs c es (cl h)) [] h.pos
 |.lc pick t it ifs d,h=>.ListComp (Zb (cc c pick h) d (c0 h)) [⟨unTg (cc c pick h) t (gen1 h).target,unI c it (gen1 h).iter,unEs (cc c pick h) ifs (gen1 h).ifs,0⟩] (tq h) h.pos
 |.mkD d,h=>.Call (.Name "list" (c0 h).pos) [Zb c d (hd (cl h))] [] h.pos
 |.mkL d,h=>.Call (.Name "list" (c0 h).pos) [Zb c d (hd (cl h))] [] h.pos
 |.mkT d,h=>.Call (.Name "tuple" (c0 h).pos) [Zb c d (hd (cl h))] [] h.pos
 |.rngL d,h=>.Call (.Name "list" (c0 h).pos) [.Call (.Name "range" (c0 (hd (cl h))).pos) [Zb c d (hd (cl (hd (cl h))))] [] (hd (cl h)).pos] [] h.pos
noncomputable def jv (c:Dc):Eo->La->Option La
 |.no,_=>Aa
 |.so d,h=>la (Zb c d h)
noncomputable def unEs (c:Dc):Es->List La->List La
 |.nil,_=>[]
 |.cons d es,hs=>Zb c d (hd hs)::unEs c es hs.tail
noncomputable def eh (c:Dc):Es->List La->List (Option La)
 |.cons d (.cons _ es),hs=>la (Zb c d (hd hs))::eh c es hs.tail
 |_,_=>[]
noncomputable def Pl (c:Dc):Es->List La->List La
 |.cons _ (.cons d es),hs=>Zb c d (hd hs)::Pl c es hs.tail
 |_,_=>[]
noncomputable def MJ (c:Dc):Es->List La->List La
 |.nil,_=>[]
 |.cons d es,hs=>(match d with
  |.str x=>.Constant (.str x) (kk (hd hs)) (hd hs).pos
  |d=>.FormattedValue (Zb c d (c0 (hd hs))) (-1) Aa (hd hs).pos)::MJ c es hs.tail
noncomputable def unI (c:Dc):It->La->La
 |.e d,h=>Zb c d h
 |.r1 d,h=>.Call (.Name "range" (c0 h).pos) [Zb c d (hd (cl h))] [] h.pos
 |.enum d,h=>.Call (.Name "enumerate" (c0 h).pos) [Zb c d (hd (cl h))] [] h.pos
 |.dv d,h=>.Call (.Attribute (Zb c d (c0 (c0 h))) "values" (c0 h).pos) [] [] h.pos
 |.di d,h=>.Call (.Attribute (Zb c d (c0 (c0 h))) "items" (c0 h).pos) [] [] h.pos
end
mutual
noncomputable def Jc (c:Dc):E->La->Bool
 |.v i,_=>decide (i<c.N.length)&&(kd c (Wf c i) .local||kd c (Wf c i) .cell||kd c (Wf c i) .free) && !(Wf c i==("__debug__" : Str)) && !(Wf c i==("__classdict__" : Str))
 |.non,_=>ma
 |.bl _,_=>ma
 |.int _,_=>ma
 |.str _,_=>ma
 |.g n,_=>decide (n<T.gs.length)&&decide (n<T.gn.length)&&Dg c (T.gn.getD n "")
 |.ty n,_=>FC.contains n&&Dg c (Li n)
 |.bin _ a b,h=>Jc c a (c0 h)&&Jc c b (c1 h)
 |.neg a,h=>Jc c a (c0 h)
 |.not a,h=>Jc c a (c0 h)
 |.bop _ a es,h=>Jc c a (hd (cl h))&&okEs c es (cl h).tail
 |.cmp o a b,h=>Jc c a (c0 h)&&Jc c b (hd (cl h)) && !behindInMarks o (Zb T c b (hd (cl h)))
 |.cmp2 o p a b d,h=>Jc c a (c0 h)&&Jc c b (hd (cl h))&&Jc c d (hd (cl h).tail) && !lastMarks [o,p] [Zb T c b (hd (cl h)),Zb T c d (hd (cl h).tail)]
 |.ife t a b,h=>Jc c t (c0 h)&&Jc c a (c1 h)&&Jc c b (c2 h)
 |.tup es,h=>okEs c es (cl h)
 |.lst es,h=>okEs c es (cl h)
 |.dic es,h=>Iv c es (dk h) (cl h)&&decide (Og es<=30)
 |.ix a b,h=>Jc c a (c0 h)&&Jc c b (c1 h)
 |.sl a lo hi,h=>Jc c a (c0 h)&&Gv c lo (s0 (c1 h))&&Gv c hi (s1 (c1 h))
 |.rev a b,h=>Jc c a (c0 h)&&Jc c b (s2 (c1 h))
 |.call n es,h=>decide (n<T.funs.length)&&Dg c (Rt T n)&&okEs c es (cl h)
 |.blt b es,h=>decide (0<Og es)&&Dg c (bltN b)&&okEs c es (cl h)
 |.meth _ o es,h=>Jc c o (c0 (c0 h))&&okEs c es (cl h)&&((c0 h).pos.endLine==h.pos.line)&&decide (Og es<30)&&Rs (Zb T c o (c0 (c0 h)))
 |.lc pick t it ifs d,h=>cOkS c (cc c pick h).N pick (tq h)&&(Ui t).all (λi=>(pick[i]?).join.isNone)&&okTg (cc c pick h) t&&Hv c t it (gen1 h).iter&&okEs (cc c pick h) ifs (gen1 h).ifs&&decide (Og ifs<=1)&&Jc (cc c pick h) d (c0 h)
 |.mkD d,h=>Dg c "list" && Jc c d (hd (cl h))
 |.mkL d,h=>Dg c "list" && Jc c d (hd (cl h))
 |.mkT d,h=>Dg c "tuple" && Jc c d (hd (cl h))
 |.rngL d,h=>Dg c "list" && Dg c "range" && Jc c d (hd (cl (hd (cl h))))
noncomputable def Gv (c:Dc):Eo->La->Bool
 |.no,_=>ma
 |.so d,h=>Jc c d h
noncomputable def okEs (c:Dc):Es->List La->Bool
 |.nil,_=>ma
 |.cons d es,hs=>Jc c d (hd hs)&&okEs c es hs.tail
noncomputable def Iv (c:Dc):Es->List La->List La->Bool
 |.nil,_,_=>ma
 |.cons d (.cons f es),hs,gs=>Jc c d (hd hs)&&Jc c f (hd gs)&&Iv c es hs.tail gs.tail
 |.cons _ .nil,_,_=>ua
noncomputable def xK (c:Dc):Es->List La->Bool
 |.nil,_=>ma
 |.cons d es,hs=>(match d with
  |.str x=>decide (x.length<=10000)
  |d=>Jc c d (c0 (hd hs)))&&xK c es hs.tail
noncomputable def Hv (c:Dc)(t:Tg):It->La->Bool
 |.e d,h=>Jc c d h
 |.r1 d,h=>Dg c "range" && Jc c d (hd (cl h))
 |.enum d,h=>EH t&&Dg c "enumerate" && Jc c d (hd (cl h))
 |.dv d,h=>Jc c d (c0 (c0 h))&&((c0 h).pos.endLine==h.pos.line)&&Rs (Zb T c d (c0 (c0 h)))
 |.di d,h=>EH t&&Jc c d (c0 (c0 h))&&((c0 h).pos.endLine==h.pos.line)&&Rs (Zb T c d (c0 (c0 h)))
end
noncomputable def KB  (ts:List La):Nat:=(ts.head?.map (·.pos.line)).getD 0
def Te  (c:Dc)(ts:List La):List Str:=ts.filterMap fun
  |.Name j f=>if c.sc.lookup j==la .local&&f.line==KB ts then la j else Aa
  |_=>Aa
noncomputable def Ms  : La->Bool
 |.Starred ..=>ma
 |_=>ua
def swapped  (c:Dc)(ts vs:List La):Bool:=
 (ts.length==2||ts.length==3)&&vs.length==ts.length && !(vs.any Ms)&&(Te c ts).length==ts.length&&(Te c ts).eraseDups.length==(Te c ts).length && !(vs.all (Gy 8)) && !(vs.all (constantsAlone 8))
def yx  (c:Dc)(ts vs:List La):Bool:=
 !(ts.length==2||ts.length==3)||vs.length != ts.length||(!(vs.any Ms)&&((Te c ts).length != ts.length||(Te c ts).eraseDups.length != (Te c ts).length||vs.all (Gy 8)))
noncomputable def lcSw  (c:Dc)(y:Str)(f p:Pos)(s:Od):Bool:=c.sc.lookup y==la .local&&f.line==p.line && !(s.names.any λ(n,k)=>n==y&&(k == .local||k == .cell))
def q0  : Pa->La
 |.Expr e _=>e
 |.Assign _ e _=>e
 |.Return (la e) _=>e
 |.AugAssign _ _ e _=>e
 |.If e _ _ _=>e
 |.While e _ _ _=>e
 |.For _ e _ _ _=>e
 |_=>e0
def q1  : Pa->La
 |.Assign (t::_) _ _=>t
 |.AugAssign t _ _ _=>t
 |.For t _ _ _ _=>t
 |_=>e0
noncomputable def qa  : Pa->List Pa
 |.Try a _ _ _ _=>a
 |.If _ a _ _=>a
 |.While _ a _ _=>a
 |.For _ _ a _ _=>a
 |_=>[]
noncomputable def qb  : Pa->List Pa
 |.If _ _ b _=>b
 |_=>[]
noncomputable def qh  : List Pa->Pa
 |[]=>.Pass ⟨0,0,0,0⟩
 |s::_=>s
noncomputable def unNs  (c:Dc):List Nat->List La->List La
 |[],_=>[]
 |i::is,hs=>.Name (Wf c i) (hd hs).pos::unNs c is hs.tail
section
variable (c:Dc)(n:Nat)
end
section
variable (cs:List Nat)(c:Dc)
end
mutual
noncomputable def rn (c:Dc):S->Pa->Pa
 |.expr d,h=>.Expr (Zb T c d (q0 h)) h.pos
 |.asg t d,h=>.Assign [unTg c t (q1 h)] (Zb T c d (q0 h)) h.pos
 |.asgC i d,h=>.Assign [.Name (Wf c i) (q1 h).pos] (Zb T c d (q0 h)) h.pos
 |.setS o i d,h=>.Assign [.Subscript (Zb T c o (c0 (q1 h))) (Zb T c i (c1 (q1 h))) (q1 h).pos] (Zb T c d (q0 h)) h.pos
 |.par is es,h=>.Assign [.Tuple (unNs c is (cl (q1 h))) (kk (q1 h)) (q1 h).pos] (.Tuple (unEs T c es (cl (q0 h))) (kk (q0 h)) (q0 h).pos) h.pos
 |.aug i o d,h=>.AugAssign (.Name (Wf c i) (q1 h).pos) o (Zb T c d (q0 h)) h.pos
 |.ite t a b,h=>.If (Zb T c t (q0 h)) (unSs c a (qa h)) (unSs c b (qb h)) h.pos
 |.fr t it b,h=>.For (unTg c t (q1 h)) (unI T c it (q0 h)) (unSs c b (qa h)) [] h.pos
 |.wh t b,h=>.While (Zb T c t (q0 h)) (unSs c b (qa h)) [] h.pos
 |.ret d,h=>.Return (la (Zb T c d (q0 h))) h.pos
 |.never,h=>h
noncomputable def unSs (c:Dc):Ss->List Pa->List Pa
 |.nil,_=>[]
 |.cons s r,hs=>rn c s (qh hs)::unSs c r hs.tail
end
def zK (c:Dc):Tg->E->Pa->Bool
 |.n i,.lc ..,_=>!(kd c (Wf c i) .local)
 |.t _,.lc ..,_=>ua
 |.t ts,.tup es,h=>yx c (gj c ts (cl (q1 h))) (unEs T c es (cl (q0 h)))
 |_,_,_=>ma
noncomputable def okNs  (c:Dc):List Nat->Bool
 |[]=>ma
 |i::is=>decide (i<c.N.length)&&kd c (Wf c i) .local && !(is.contains i)&&okNs c is
mutual
noncomputable def Kn (c:Dc):S->Pa->Bool
 |.expr d,h=>Jc T c d (q0 h) && !isLc d
 |.asg t d,h=>Jc T c d (q0 h)&&okTg c t&&zK T c t d h
 |.asgC i d,h=>isLc d&&Jc T c d (q0 h)&&decide (i<c.N.length)&&lcSw c (Wf c i) (q1 h).pos (q0 h).pos (tq (q0 h))
 |.setS o i d,h=>Jc T c d (q0 h)&&Jc T c o (c0 (q1 h))&&Jc T c i (c1 (q1 h))
 |.par is es,h=>okEs T c es (cl (q0 h))&&okNs c is&&swapped c (unNs c is (cl (q1 h))) (unEs T c es (cl (q0 h)))&&decide (is.length=2)
 |.aug i _ d,h=>BA c i&&Jc T c d (q0 h)
 |.ite t a b,h=>Jc T c t (q0 h)&&okSs c a (qa h)&&okSs c b (qb h)
 |.fr t it b,h=>okTg c t&&Hv T c t it (q0 h)&&okSs c b (qa h)
 |.wh t b,h=>Jc T c t (q0 h)&&okSs c b (qa h)
 |.ret d,h=>Jc T c d (q0 h)
 |.never,_=>ma
noncomputable def okSs (c:Dc):Ss->List Pa->Bool
 |.nil,_=>ma
 |.cons s r,hs=>Kn c s (qh hs)&&okSs c r hs.tail
end
end
def Vh  (K:Lb)(t:List U->Gp->K1->KX->Prop):Sp:=λF H z E0=>∃y G Q E,Mb K H y F/\HR K H G/\t y G Q E/\(∀w v j f,RU K f w v->HR K f j->Fr H G f j->Q w j->z v f)/\
 ∀x j f C q,XD K f C q x->HR K f j->Fr H G f j->E x j->E0 (.ref C) (la q) f
def KJ  (P:Tb)(w:Cb)(K:Lb)(mg:Str->Option Da)(base:Xa)(k:Nat)(d:Fun)(t:List U->Gp->K1->KX->Prop):Prop:=
 ∃(f:Ca) (fd:om),FnOk P w K mg base (Uf P w) (k+2) f fd d.ps (Vh K t)/\mg d.name=la (.ref f)/\Vp K (.ref f)=ma/\Binds K fd d.ps []
noncomputable def nj  : List Str:=["len", "repr", "min", "max", "sum", "all", "any", "sorted", "int", "str", "isinstance", "range", "enumerate", "list", "tuple", "bool", "dict", "ValueError", "set", "zip"]
structure Cok (T:qf)(k:Nat)(X:Cx)(c:Dc):Prop where
 hN:X.N=c.N
 nd:c.N.Nodup
 loc:∀x,kd c x .local=ma->X.env.scope.names.lookup x=la .local
 cel:∀x,kd c x .cell=ma->X.env.scope.names.lookup x=la .cell/\X.fn x=ma
 fre:∀x,kd c x .free=ma->X.env.scope.names.lookup x=la .cell\/X.env.scope.names.lookup x=la .free
 glb:∀x,kd c x .globalImplicit=ma->Gl X x
 room:Room k X.A
 calm:X.calm=ma
 po:wj (Ja X.prog X.w) X.A X.env X.xe
 blt:∀x∈nj,X.mg x=Aa
 fns:∀(n:Nat) (d:Fun),T.funs[n]?=la d->KJ X.prog X.w X.K X.mg X.base k d (db T k n)
 gls:∀(n:Nat) (x:Str) (u:U),T.gn[n]?=la x->T.gs[n]?=la u->∃v w,X.mg x=la w/\RelV v w/\∀H,RU X.K H u v
 room2:Room (k+2) X.A
 cls:∀n∈T.cs,1<=n->∃C,XCls X.K (gK X.K) (clsN n) (clsF n) C
 mgK:∀x v,gK X.K x=la v->X.mg x=la v
structure Ti (T:qf)(k:Nat)(X:Cx)(c:Dc):Prop extends Cok T k X c where
 sc:X.env.scope.names=c.sc
 kind:X.env.scope.kind=.function
 stk:X.stack=X.env::X.outer/\X.env.frame=la X.env.locals
section
variable {T:qf}{k:Nat}{X:Cx}{c:Dc}
def Cok.hu  (h:Cok T k X c):X.A.units+1<Xb:=tL h.room
def Cok.vis  (h:Cok T k X c)(v:(kd c x .local||kd c x .cell||kd c x .free)=ma):gq X.env.scope x:=by
 simp only[Wp]at v;rcases v with(v|v)|v
 ·exact .inl (h.loc x v)
 ·exact .inr (.inl (h.cel x v).1)
 ·rcases h.fre x v with z|z
  ·exact .inr (.inl z)
  ·exact .inr (.inr z)
def Cok.store  (h:Cok T k X c)(v:(kd c x .local||kd c x .cell)=ma):Nl X.env.scope x/\(X.fn x=ma\/X.env.scope.names.lookup x=la .local):=by
 simp only[Wp]at v;rcases v with v|v
 ·exact⟨.inl (h.loc x v),.inr (h.loc x v)⟩
 ·exact⟨.inr (h.cel x v).1,.inl (h.cel x v).2⟩
def Cok.gl  (h:Cok T k X c)(v:Dg c x=ma):Gl X x/\(x==("__debug__" : Str))=ua:=by
 unfold Dg at v;rw[Hf]at v;exact⟨h.glb x v.1,by lia⟩
end
noncomputable def Ko  : La->Bool
 |.BoolOp ..|.BinOp ..|.UnaryOp ..|.IfExp ..|.Dict ..|.ListComp ..|.Compare ..|.Call ..|.Constant ..|.Subscript ..|.Name ..|.List ..|.Tuple ..|.JoinedStr ..=>ma
 |_=>ua
section
variable {T:qf}{c:Dc}
def Cg   ir h:Ko (Zb T c ir h)=ma:=by cases ir<;>rfl
def Fh   (h:Ko e=ma) es env:md (e::es) env=(ua,Ib e env)::md es env:=by
 cases e<;>first|rfl|cases h
def oQ   (h:Ko e=ma):Bw e:=by
 intro o i;cases e<;>first|rfl|cases h
def oE   (h:Ko e=ma) env:∀x,Oh e env x=pure x:=by
 intro x;cases e<;>first|rfl|cases h
def sQ   it h env:∀x,Oh (unI T c it h) env x=pure x:=by
 cases it with
 |e d=>exact oE (Cg d _) env
 |_=>exact λ_=>rfl
def NR   (h:Ko i=ma) env tpos:∀v,Gc (.Subscript o i tpos) env v=(Uc [v] (Ib o env) >>= λa=>Uc [v,a] (Ib i env) >>= λb=>Lf tpos >>= λ_=>Uc [v,a,b] (ki a b v) >>= λ_=>release [v,a,b] []):=by
 intro v;cases i<;>first|rfl|cases h
def qQ   (q:isLc f=ua) h env l:yj (Zb T c f h) Aa l env=pure ua:=by
 cases f<;>first|rfl|cases q
def tQ   (q:isLc f=ua) h tg env l:Ni [tg] (Zb T c f h) l env=pure ua:=by
 cases f<;>first|rfl|cases q
def QB   ir h x y p env l:Ni [.Subscript x y p] (Zb T c ir h) l env=pure ua/\Gh [.Subscript x y p] (Zb T c ir h) env=pure Aa:=by
 cases ir<;>exact⟨rfl,rfl⟩
def xM   ir h x p env:Gh [.Name x p] (Zb T c ir h) env=pure Aa:=by
 cases ir<;>rfl
def rQ   t h env:(lg [unTg c t h] env).map (·.2)=[Gc (unTg c t h) env]:=by
 cases t<;>rfl
def wt   (h:Rs o=ma) m env w:Fj o m env w=w:=by
 unfold Fj;split
 ·cases h
 ·rfl
theorem Qo  : ∀j hs env f ,(Sc f (md (unEs T c j hs) env)).any (·.1)=ua/\(Sc f (md (unEs T c j hs) env)).all (λx=>!x.1)=ma
 |.nil,_,_,_=>⟨rfl,rfl⟩
 |.cons d j,hs,env,f=>by
  obtain⟨q,y⟩:=Qo j hs.tail env f;show(Sc f (md (Zb T c d (hd hs)::unEs T c j hs.tail) env)).any (·.1)=ua/\(Sc f (md (Zb T c d (hd hs)::unEs T c j hs.tail) env)).all (λx=>!x.1)=ma;rw[Fh (Cg d _)];exact⟨by show(ua||(Sc f (md (unEs T c j hs.tail) env)).any (·.1))=ua;lia,by show(!false&&(Sc f (md (unEs T c j hs.tail) env)).all (λx=>!x.1))=ma;lia⟩
theorem sw  : ∀f hs ,(unEs T c f hs).length=Og f
 |.nil,_=>rfl
 |.cons _ f,hs=>congrArg (·+ 1) (sw f hs.tail)
def ba   (h:(a&&b)=ma):a=ma/\b=ma:=by lia
def bn   (h:(!a)=ma):a=ua:=by lia
def FK   (h:decide (i<c.N.length)=ma):c.N[i]?=la (Wf c i):=by
 unfold Wf
 simp_all
end
theorem DC  : ∀{ts } {us } {j } {k },tgsU ts us j k->us.length=Jo ts
 |.nil,us,j,k,h=>by rw[h.1];rfl
 |.cons t ts,us,j,k,h=>by
  cases us with
  |nil=>exact h.elim
  |cons u r=>
   have:∃f,tgsU ts r f k:=tg_some h;obtain⟨f,q⟩:=this;show r.length+1=Jo ts+1;rw[DC q]
where
 tg_some {t:Tg} {u:U} {ς:Sg} {P:Sg->Prop} (h:Yc t u ς P):∃ς',P ς':=by
  have:=ut (k':=λ_=>∃ς',P ς') h λς' h'=>⟨ς',h'⟩;exact tg_const this
 tg_const:∀{t:Tg} {u:U} {ς:Sg} {P:Prop},Yc t u ς (λ_=>P)->P
  |.n _,_,_,_,h=>h
  |.t ts,u,ς,P,h=>by
   cases u with
   |tup us=>exact tgs_const (ts:=ts) (us:=us) h
   |_=>exact h.elim
 tgs_const:∀{ts:bh} {us:List U} {ς:Sg} {P:Prop},tgsU ts us ς (λ_=>P)->P
  |.nil,_,_,_,h=>h.2
  |.cons t ts,us,ς,P,h=>by
   cases us with
   |nil=>exact h.elim
   |cons u r=>exact tg_const (ut (t:=t) h λς' h'=>tgs_const h')
section
variable {T:qf}{k:Nat}{X:Cx}{c:Dc}
theorem Aw  : ∀ts hs env ,(lg (gj c ts hs) env).length=Jo ts/\(lg (gj c ts hs) env).findIdx? (·.1)=Aa
 |.nil,_,_=>⟨rfl,rfl⟩
 |.cons t ts,hs,env=>by
  obtain⟨f,j⟩:=Aw ts hs.tail env;have e:lg (gj c (.cons t ts) hs) env=(ua,Gc (unTg c t (hd hs)) env)::lg (gj c ts hs.tail) env:=by cases t<;>rfl
  rw[e];exact⟨by simp[f,Jo],by simp_all⟩
def Cok.nm   (C:Cok T k X c)(h:decide (i<c.N.length)=ma):X.N[i]?=la (Wf c i):=by rw[C.hN];exact FK h
mutual
theorem zn (C:Cok T k X c):∀(t:Tg) (h:La),okTg c t=ma->PG X (unTg c t h) (lG X.K (Yc t))
 |.n _,_,q=>let s:=C.store (ba q).2;u_tn (by rw[C.hN];exact C.nd) (C.nm (ba q).1) s.1 s.2
 |.t ts,h,q=>u_tt C.calm (sTgs C ts (cl h) q) (Aw ts _ X.env).1 (Aw ts _ X.env).2 λf j k q=>DC q
theorem sTgs (C:Cok T k X c):∀(ts:bh) (hs:List La),Uv c ts=ma->yh X (gj c ts hs) (Ao X.K (tgsU ts))
 |.nil,_,_=>uM
 |.cons t ts,hs,q=>tM (zn C t (hd hs) (ba q).1) (sTgs C ts hs.tail (ba q).2) (by cases t<;>rfl)
end
def EB  (X:Cx)(z:St):XK:=λj y q=>∀(f:List (Ca×Obj)) (ea:Ca) (s':Ia),Oa X f z q s'->Lies X.s₀.heap.objs.size X.pn q s'.heap ea j y->X.xe (.ref ea) s'
def zC        {J:St}(F:FnOk X.prog X.w X.K X.mg X.base (Uf X.prog X.w) j f fd ps sp)(hr:Room j X.A)(Z:Binds X.K fd ps [])
  (I:Oa X pins J H s) (r:Vals vs us) (h:sp vs H Q (EB X J)):wpAny (Ja X.prog X.w) X.A (call (.ref f) us) (EP X pins J Q) X.xe s:=by
 have Y:(us++[]).length=ps.length:=by rw[vh,<- r.length];exact F.len _ _ _ _ h
 have z:=Z s us I.kIn Y;rw[vh]at z;refine wpAny_call (au (F.run X.A X.stack s H ⟨us,[]⟩ us vs Q (EB X J) hr I.env0 z r h) λr s' y=>?_);cases r with
 |error e=>
  obtain⟨R,H',O,dx,rfl,I',l,q⟩:=Uf.back I y;exact q pins R s' I' l
 |ok fl=>
  cases fl with
  |ret u=>exact I.after y
  |next=>exact Dm y
  |brk=>exact Dm y
  |cont=>exact Dm y
def AC         {E:KX}(r:Mb X.K H us vs)(J:HR X.K H G)(h:db T k n us G Q E)(O:LV X H G Q Q0)(lx:LX X σ H G E):Vh X.K (db T k n) vs H Q0 (EB X σ):=
 ⟨us,G,Q,E,r,J,h,O,λx Y F C I z Z f q j y s' R l=>lx j (.ref y) s' x Y F R ⟨y,C,I,rfl,l,z⟩ Z f q⟩
def TN         (C:Cok T k X c)(hd:T.funs[n]?=la d)(hx:d.name=x)(hg:Dg c x=ma)(ha:PA X (e::es) (lA X ts))
  (he:md (e::es) X.env=(ua,Ib e X.env)::md es X.env) (J:(Sc pos (md es X.env)).any (·.1)=ua) :
  PE X (.Call (.Name x p) (e::es) [] pos) (lE X λy G Q E=>ts y G (λus G1=>db T k n us G1 Q E) E):=by
 obtain⟨f,fd,F,hm,hk,hb⟩:=C.fns n d hd;obtain⟨g1,g2⟩:=C.gl hg;rw[hx]at hm;intro j s O H Q0 I ⟨y,G,Q,E,hς,hG,h,lv,lx⟩;refine Fp (Sw I g1 hm ?_ g2);have h':lA X ts O H λR Y=>Vh X.K (db T k n) R Y Q0 (EB X O):=⟨y,G,_,E,hς,hG,h,λus R G1 Y rs z f1 h1=>AC rs z h1 (lv.fr f1) (lx.fr f1),lx⟩;refine PySem.W.callWith_K (h₀:=X.base) I.ok.mod.kin hk (Pb (ha pos j s O H _ I h') λus s1 ⟨R,Y,Z,r,q⟩=>⟨Z.kIn,?_⟩) he J;exact zC F C.room2 hb Z r q
def TQ      (C:Cok T k X c)(hd:T.funs[n]?=la d)(J:d.name=x)(R:Dg c x=ma) :
  PE X (.Call (.Name x p) [] [] pos) (lE X λ_ G Q E=>db T k n [] G Q E):=by
 obtain⟨f,fd,F,q,hk,O⟩:=C.fns n d hd;obtain⟨y,z⟩:=C.gl R;rw[J]at q;intro j s Z H Y I ⟨ς,G,Q,E,hς,hG,h,lv,lx⟩;refine Fp (Sw I y q ?_ z);exact PySem.W.callWith_K0 I.kIn hk (zC (us:=[]) (vs:=[]) F C.room2 O I .nil (AC (show Mb X.K H [] []from rfl) hG h lv lx))
def Cok.comp     (C:Cok T k X c)(h:cOkS c N pick scope=ma):CScope X N pick scope/\∀cl A s₀ H₀ I,Cok T k (ie X N scope cl A s₀ H₀ I) ⟨N,scope.names⟩:=by
 unfold cOkS at h;simp only[Hf,decide_eq_true_eq]at h;obtain⟨⟨⟨⟨⟨⟨h1,h2⟩,h3⟩,O⟩,h5⟩,R⟩,h7⟩:=h;have q:∀y∈scope.names,y.2=.cell->scope.names.lookup y.1=la .cell:=λy F hc=>by
  grind
 refine⟨⟨h1,q,λy F hl=>?_,λy F Y=>?_,by lia,λi j x J e2=>?_⟩,λcl A s₀ H₀ I=>?_⟩
 ·grind
 ·have:=jl.mp O y F;rw[Y]at this;simp only[bne_self_eq_false,Ry,Hf,Wp,beq_iff_eq]at this;refine⟨this.1,?_⟩;rcases this.2 with z|z
  ·exact .inl (C.cel _ z).1
  ·exact C.fre _ z
 ·have Z:(N.zip pick)[i]?=la (x,la j):=by rw[List.getElem?_zip_eq_some];exact⟨J,e2⟩
  have:=jl.mp R _ (Cd Z);rw[C.hN]
  lia
 ·refine⟨rfl,h7,λx z=>?_,λx z=>?_,λx z=>?_,λx z=>?_,C.room,C.calm,wj.never,C.blt,C.fns,C.gls,C.room2,C.cls,C.mgK⟩
  ·exact Yx (by decide) (eq_of_beq z)
  ·exact⟨Yx (by decide) (eq_of_beq z),z⟩
  ·exact OG (eq_of_beq z)
  ·exact WU (eq_of_beq z)
end
end Z

namespace Z
open PySem L2


structure av (X:Cx)(n:Nat)(ea C dx:Ca)(x:XV)(σ:St)(H:Hp)(ς:Sg)(G:Gp):Prop where
 sr:SR X.K H ς σ
 hr:HR X.K H G
 en:σ[n]?=la (la (.ref ea))
 xd:XD X.K H C dx x
def hB  (X:Cx)(n:Nat)(y C z:Ca)(x:XV)(f:Sg->Option Bool):TE:=λF H Q=>∃q G b,av X n y C z x F H q G/\f q=la b/\∀j,HR X.K j G->Fr H G j G->Q (.bl b) j
def hT  (X:Cx)(n:Nat)(y C z:Ca)(x:XV)(f:Sg->Option Bool):TT:=λF H Q=>∃q G b,av X n y C z x F H q G/\f q=la b/\∀j,HR X.K j G->Fr H G j G->Q b j

def hS  (X:Cx)(n:Nat)(z C F:Ca)(x:XV)(hs:List HS):L2.TS:=λD J H=>∃I G k,av X n z C F x J H I G/\Qt x hs I G k/\∀f j y q,av X n z C F x j q f y->Fr H G q y->k f y->D.nx j q

section
variable {T:qf}{k:Nat}
def dQ   b:bltN b∈nj:=by cases b<;>decide
def RN  : ∀n∈FC,Pi (Li n)=la (.type n)/\Li n∈nj/\Li n ≠ "__name__" := by decide +kernel
abbrev SE  (T:qf)(k:Nat)(X:Cx)(c:Dc)(f:E)(h:La):Prop:=PE X (Zb T c f h) (lE X (Ta T.gs (db T k) f).1)/\PT X (Zb T c f h) (lT X (Ta T.gs (db T k) f).2)
section
variable {X:Cx}{c:Dc}
def We    (h:PE X e (lE X t))(j:∀f,yf e X.env f=(do let v <- f;Lf e.pos;Uc [v] (truthy v))):PE X e (lE X t)/\PT X e (lT X (truT t)):=⟨h,sM h j⟩
def DO   {rest:List La}(j:PE X a (lE X p.1)/\PT X a (lT X p.2))(f:PE X (.BoolOp .And (b::rest) pos) (lE X q.1)/\PW X (.BoolOp .And (b::rest) pos) (lT X q.2)) :
  PE X (.BoolOp .And (a::b::rest) pos) (lE X (comb ma p q).1)/\PW X (.BoolOp .And (a::b::rest) pos) (lT X (comb ma p q).2):=⟨dM j.1 f.1,SN j.2 f.2⟩
def BM   {rest:List La}(j:PE X a (lE X p.1)/\PT X a (lT X p.2))(f:PE X (.BoolOp .Or (b::rest) pos) (lE X q.1)/\PW X (.BoolOp .Or (b::rest) pos) (lT X q.2)) :
  PE X (.BoolOp .Or (a::b::rest) pos) (lE X (comb ua p q).1)/\PW X (.BoolOp .Or (a::b::rest) pos) (lT X (comb ua p q).2):=⟨u_or j.1 f.1,qM j.2 f.2⟩
def se_v    (C:Cok T k X c)(q:Jc T c (.v i) h=ma):SE T k X c (.v i) h:=We (wM (C.nm (ba (ba (ba q).1).1).1) (C.vis (ba (ba (ba q).1).1).2) (bn (ba (ba q).1).2) (bn (ba q).2)) λ_=>rfl
def se_g    (C:Cok T k X c)(q:Jc T c (.g n) h=ma):SE T k X c (.g n) h:=by
 have Y:=of_decide_eq_true (ba (ba q).1).1;have h2:=of_decide_eq_true (ba (ba q).1).2;have R:T.gn[n]?=la (T.gn.getD n ""):=by simp_all
 obtain⟨v,w,m,r,O⟩:=C.gls n _ T.gs[n] R (by simp[Y])
 obtain⟨j,y⟩:=C.gl (ba q).2;refine We (PE.imp (u_gl (u:=T.gs[n]) j m r O y) λσ H Z ⟨z,G,Q,E,f,F,h,J,lx⟩=>⟨z,G,Q,E,f,F,?_,J,lx⟩) λ_=>rfl;have I:jp T.gs n λu=>Q u G:=h;unfold jp at I
 simp_all
def CM    (C:Cok T k X c)(q:Jc T c (.ty n) h=ma):SE T k X c (.ty n) h:=by
 obtain⟨f,j⟩:=C.gl (ba q).2;obtain⟨t1,t2,t3⟩:=RN n (by simpa using (ba q).1)
 exact We (u_ty f (C.blt _ t2) t1 t3 j) λ_=>rfl
def JO     (R:Ll X h.pos (eh T c es (dk h)) (Pl T c es (cl h)) y)(J:lD X (denD T.gs (db T k) es) y)(O:(eh T c es (dk h)).all (·.isSome)=ma)(q:(eh T c es (dk h)).length=(Pl T c es (cl h)).length)
  (F:(eh T c es (dk h)).length<=15):SE T k X c (.dic es) h:=by
 refine We ?_ λ_=>rfl
 match es,R,J,O,q,F with
 |.nil,_,_,_,_,_=>exact PE.imp WN λσ H Q0 ⟨Z,G,Q,E,j,hG,h,lv,lx⟩=>⟨Z,G,Q,E,j,hG,(show([]:List (Ub×U)).length<=15/\newO G (.dK (Ai [])) Q from h).2,lv,lx⟩
 |.cons _ .nil,_,_,_,_,_=>exact λY s σ H Q0 I ⟨Z,G,Q,E,j,hG,h,lv,lx⟩=>(show False from h).elim
 |.cons d (.cons f es),R,J,O,q,F=>exact iM R J O q (λz=>nomatch z) F
def DQ     (C:Cok T k X c)(q:Jc T c (.call n es) h=ma)(j:PA X (unEs T c es (cl h)) (lA X (zf T.gs (db T k) es))):SE T k X c (.call n es) h:=by
 refine We ?_ λ_=>rfl;have z:=of_decide_eq_true (ba (ba q).1).1;have f:T.funs[n]?=la T.funs[n]:=by simp[z]
 have y:T.funs[n].name=Rt T n:=by unfold Rt;rw[f]
 match es,j with
 |.nil,_=>exact TQ C f y (ba (ba q).1).2
 |.cons d es,j=>exact TN C f y (ba (ba q).1).2 j (Fh (Cg d _) _ _) (Qo es _ _ _).1
def GO     (C:Cok T k X c)(q:Jc T c (.blt b es) h=ma)(f:PA X (unEs T c es (cl h)) (lA X (zf T.gs (db T k) es))):SE T k X c (.blt b es) h:=by
 refine We ?_ λ_=>rfl;obtain⟨j,y⟩:=C.gl (ba (ba q).1).2
 match es,f,q with
 |.nil,_,q=>exact absurd (of_decide_eq_true (ba (ba q).1).1) (Hh 0)
 |.cons d es,f,_=>exact fM (NL C.room C.calm b) j (C.blt _ (dQ b)) f (Fh (Cg d _) _ _) (Qo es _ _ _).1
def EQ      (hu:X.A.units+1<Xb)(q:Jc T c (.meth m o es) h=ma)(F:PE X (Zb T c o (c0 (c0 h))) (lE X (Ta T.gs (db T k) o).1))(f:PA X (unEs T c es (cl h)) (lA X (zf T.gs (db T k) es))):SE T k X c (.meth m o es) h:=by
 refine We ?_ λ_=>rfl;have z:=(ba q).2;have j:=of_decide_eq_true (ba (ba q).1).2;have y:=(ba (ba (ba q).1).1).2
 match es,f,j with
 |.nil,_,_=>exact pQ (VB hu m) F (wt z _ _ _) y
 |.cons d es,f,j=>
  refine ZN (VB hu m) F f (wt z _ _ _) ?_ y (Fh (Cg d _) _ _) (Qo es _ _ _).1;have e:=(Qo (T:=T) (c:=c) (.cons d es) (cl h) X.env h.pos).2;show((Sc h.pos (md (unEs T c (.cons d es) (cl h)) X.env)).all (λx=>!x.1)&&_&&decide ((unEs T c (.cons d es) (cl h)).length+0+0<30))=ma;rw[e,sw];exact decide_eq_true j
def FO    (h:PT X e (lT X (Ta T.gs (db T k) d).2)):PIfs X [e] (Uh X.K (denC T.gs (db T k) (.cons d .nil))):=by
 refine PIfs.imp (ZQ (Uh.of h)) λR H O ⟨q,G,Q,J,z,I,y⟩=>⟨q,G,λb j=>Q b j,J,z,?_,y⟩;have F:(Ta T.gs (db T k) d).2 q G (λb f=>if b=ma then Q ma f else Q ua f) (λ_ _=>False):=I
 have e:(λ(b:Bool) (f:Gp)=>if b=ma then Q ma f else Q ua f)=λb j=>Q b j:=by
  grind
 lia
def EO  : PIfs X [] (Uh X.K (denC T.gs (db T k) .nil)):=PIfs.imp YQ λF H y ⟨z,G,Q,I,j,q,f⟩=>f ma G H j (Fr.refl _ _) q
theorem NA  : ∀f hs ,2*(eh T c f hs).length<=Og f
 |.nil,_=>Db _
 |.cons _ .nil,_=>og _
 |.cons _ (.cons _ f),hs=>by
  have:=NA f hs.tail;show 2*((eh T c f hs.tail).length+1)<=Og f+1+1
  lia
def k_le    (h:Og es<=30):(eh T c es hs).length<=15:=by
 have:=NA (T:=T) (c:=c) es hs
 lia
end
mutual
theorem sE:∀(F:E) {X:Cx} {c:Dc} {h:La},Cok T k X c->Jc T c F h=ma->SE T k X c F h
 |.v _,_,_,_,C,q=>se_v C q
 |.non,_,_,_,_,_=>We (gm (u:=.non) jN λ_=>rfl) λ_=>rfl
 |.bl b,_,_,_,_,_=>We (gm (u:=.bl b) NK λ_=>rfl) λ_=>rfl
 |.int i,_,_,_,_,_=>We (gm (u:=.int i) fN λ_=>rfl) λ_=>rfl
 |.str x,_,_,_,_,_=>We (gm (u:=.str x) SO λ_=>rfl) λ_=>rfl
 |.g _,_,_,_,C,q=>se_g C q
 |.ty _,_,_,_,C,q=>CM C q
 |.bin o a b,_,_,_,C,q=>We (eM (WM o) (sE a C (ba q).1).1 (sE b C (ba q).2).1) λ_=>rfl
 |.neg a,_,_,_,C,q=>We (oM (sE a C q).1) λ_=>rfl
 |.not a,_,_,_,C,q=>⟨pM (sE a C q).1,aO (sE a C q).2⟩
 |.bop k a es,_,_,h,C,q=>let r:=sB es k C (sE a C (ba q).1) (ba q).2 h.pos;⟨r.1,r.2.pt⟩
 |.cmp o a b,_,_,_,C,q=>⟨gM (Zl C.room o) (sE a C (ba (ba q).1).1).1 (sE b C (ba (ba q).1).2).1 (bn (ba q).2),VN (Zl C.room o) (sE a C (ba (ba q).1).1).1 (sE b C (ba (ba q).1).2).1 (bn (ba q).2)⟩
 |.cmp2 o p a b d,_,_,_,C,q=>⟨UN (Zl C.room o) (Zl C.room p) (sE a C (ba (ba (ba q).1).1).1).1 (sE b C (ba (ba (ba q).1).1).2).1 (sE d C (ba (ba q).1).2).1 (bn (ba q).2),
   PT.imp (UQ (Zl C.room o) (Zl C.room p) (sE a C (ba (ba (ba q).1).1).1).1 (sE b C (ba (ba (ba q).1).1).2).1 (sE d C (ba (ba q).1).2).1 (bn (ba q).2)) λ_ _ _ ⟨J,G,Q,E,z,O,h,R,lx⟩=>⟨J,G,Q,E,z,O,h,R,lx⟩⟩
 |.ife t a b,_,_,_,C,q=>⟨jM (sE t C (ba (ba q).1).1).2 (sE a C (ba (ba q).1).2).1 (sE b C (ba q).2).1,YN (sE t C (ba (ba q).1).1).2 (sE a C (ba (ba q).1).2).2 (sE b C (ba q).2).2⟩
 |.tup es,_,_,_,C,q=>We (vM (Wj es C q)) λ_=>rfl
 |.lst es,_,_,_,C,q=>We (kM (Wj es C q)) λ_=>rfl
 |.dic es,_,_,h,C,q=>let ⟨_,h1,Y,Z,I⟩:=sD es C h.pos (ba q).1;JO h1 Y Z I (k_le (of_decide_eq_true (ba q).2))
 |.ix a b,_,_,_,C,q=>We (u_ix C.hu (sE a C (ba q).1).1 (sE b C (ba q).2).1 (oQ (Cg b _))) λ_=>rfl
 |.sl a lo hi,_,_,_,C,q=>We (u_sl (sE a C (ba (ba q).1).1).1 (sO lo C (ba (ba q).1).2) (sO hi C (ba q).2)) λ_=>rfl
 |.rev a b,_,_,_,C,q=>We (rM (sE a C (ba q).1).1 (sE b C (ba q).2).1) λ_=>rfl
 |.call _ es,_,_,_,C,q=>DQ C q (Wj es C (ba q).2)
 |.blt _ es,_,_,_,C,q=>GO C q (Wj es C (ba q).2)
 |.meth _ o es,_,_,_,C,q=>EQ C.hu q (sE o C (ba (ba (ba (ba q).1).1).1).1).1 (Wj es C (ba (ba (ba (ba q).1).1).1).2)
 |.lc _ t it ifs d,_,_,_,C,q=>let S:=C.comp (ba (ba (ba (ba (ba (ba q).1).1).1).1).1).1
   We (u_lc C.calm S.1 (sI it t _ _ C (ba (ba (ba (ba q).1).1).1).2).1 (ba (ba (ba (ba (ba (ba q).1).1).1).1).1).2 (λcl A j f y=>zn (S.2 cl A j f y) t _ (ba (ba (ba (ba (ba q).1).1).1).1).2)
    (λcl A j f y=>sC ifs (S.2 cl A j f y) (of_decide_eq_true (ba (ba q).1).2) (ba (ba (ba q).1).1).2) (λcl A j f y=>Zi.of (sE d (S.2 cl A j f y) (ba q).2).1) (sI it t ⟨[],[]⟩ e0 C (ba (ba (ba (ba q).1).1).1).2).2) λ_=>rfl
 |.mkD d,_,_,_,C,q=>We (lM C.calm (C.gl (ba q).1).1 (C.blt _ (by decide)) (sE d C (ba q).2).1 (Fh (Cg d _) _ _)) λ_=>rfl
 |.mkL d,_,_,_,C,q=>We (mM (C.gl (ba q).1).1 (C.blt _ (by decide)) (sE d C (ba q).2).1 (Fh (Cg d _) _ _)) λ_=>rfl
 |.mkT d,_,_,_,C,q=>We (nM (C.gl (ba q).1).1 (C.blt _ (by decide)) (sE d C (ba q).2).1 (Fh (Cg d _) _ _)) λ_=>rfl
 |.rngL d,_,_,_,C,q=>We (bO C.calm (C.gl (ba (ba q).1).1).1 (C.blt _ (by decide)) (C.gl (ba (ba q).1).2).1 (C.blt _ (by decide)) (sE d C (ba q).2).1 (Fh (Cg d _) _ _) rfl) λ_=>rfl
theorem sO:∀(f:Eo) {X:Cx} {c:Dc} {h:La},Cok T k X c->Gv T c f h=ma->PO X (jv T c f h) (lO X (denO T.gs (db T k) f))
 |.no,_,_,_,_,_=>u_no
 |.so d,_,_,_,C,q=>u_so (sE d C q).1
theorem Wj:∀(f:Es) {X:Cx} {c:Dc} {hs:List La},Cok T k X c->okEs T c f hs=ma->PA X (unEs T c f hs) (lA X (zf T.gs (db T k) f))
 |.nil,_,_,_,_,_=>Lk
 |.cons d f,_,_,_,C,q=>Vk (sE d C (ba q).1).1 (Wj f C (ba q).2) (Fh (Cg d _) _ _)
theorem sB:∀(j:Es) (b:Bool) {X:Cx} {c:Dc} {hs:List La} {a:La} {p:UE×UT},Cok T k X c->PE X a (lE X p.1)/\PT X a (lT X p.2)->okEs T c j hs=ma->∀f:Pos,
  PE X (.BoolOp (my b) (a::unEs T c j hs) f) (lE X (denB T.gs (db T k) b p j).1)/\PW X (.BoolOp (my b) (a::unEs T c j hs) f) (lT X (denB T.gs (db T k) b p j).2)
 |.nil,ma,_,_,_,_,_,_,ha,_,_=>⟨YB ha.1,pw_and1 ha.2⟩
 |.nil,ua,_,_,_,_,_,_,ha,_,_=>⟨YB ha.1,pw_or1 ha.2⟩
 |.cons d j,ma,_,_,_,_,_,C,ha,q,f=>DO ha (sB j ma C (sE d C (ba q).1) (ba q).2 f)
 |.cons d j,ua,_,_,_,_,_,C,ha,q,f=>BM ha (sB j ua C (sE d C (ba q).1) (ba q).2 f)
theorem sC:∀(f:Es) {X:Cx} {c:Dc} {hs:List La},Cok T k X c->Og f<=1->okEs T c f hs=ma->PIfs X (unEs T c f hs) (Uh X.K (denC T.gs (db T k) f))
 |.nil,_,_,_,_,_,_=>EO
 |.cons d .nil,_,_,_,C,_,q=>FO (sE d C (ba q).1).2
 |.cons _ (.cons _ es),_,_,_,_,l,_=>absurd l (by show ¬(Og es+1+1<=1);lia)
theorem sD:∀(j:Es) {X:Cx} {c:Dc} {hs z:List La},Cok T k X c->(p:Pos)->Iv T c j hs z=ma->∃y,Ll X p (eh T c j hs) (Pl T c j z) y/\lD X (denD T.gs (db T k) j) y/\(eh T c j hs).all (·.isSome)=ma/\(eh T c j hs).length=(Pl T c j z).length
 |.nil,_,_,_,_,_,_,_=>⟨[],cR,tN,rfl,rfl⟩
 |.cons d (.cons f j),_,_,_,_,C,p,q=>let ⟨_,O,I,J,F⟩:=sD j C p (ba q).2;⟨_,zS (sE d C (ba (ba q).1).1).1 (sE f C (ba (ba q).1).2).1 O,VP I,J,congrArg (·+ 1) F⟩
 |.cons _ .nil,_,_,_,_,_,_,q=>nomatch q
theorem sI:∀(f:It) (t:Tg) (ct:Dc) (j:La) {X:Cx} {c:Dc} {h:La},Cok T k X c->Hv T c t f h=ma->PI X (unTg ct t j) (unI T c f h) (lI X (denI T.gs (db T k) f))/\∀x,Oh (unI T c f h) X.env x=pure x
 |.e d,_,_,_,_,_,_,C,q=>⟨u_ie (sE d C q).1,oE (Cg d _) _⟩
 |.r1 d,_,_,_,_,_,_,C,q=>⟨u_r1 (C.gl (ba q).1).1 (C.blt _ (by decide)) (sE d C (ba q).2).1 (Fh (Cg d _) _ _),λ_=>rfl⟩
 |.enum d,.t _,_,_,_,_,_,C,q=>⟨XN (C.gl (ba (ba q).1).2).1 (C.blt _ (by decide)) (sE d C (ba q).2).1 (Fh (Cg d _) _ _),λ_=>rfl⟩
 |.enum _,.n _,_,_,_,_,_,_,q=>nomatch q
 |.dv d,_,_,_,_,_,_,C,q=>⟨u_dv (sE d C (ba (ba q).1).1).1 (wt (ba q).2 _ _ _) (ba (ba q).1).2,λ_=>rfl⟩
 |.di d,.t _,_,_,_,_,_,C,q=>⟨u_di (sE d C (ba (ba (ba q).1).1).2).1 (wt (ba q).2 _ _ _) (ba (ba q).1).2,λ_=>rfl⟩
 |.di _,.n _,_,_,_,_,_,_,q=>nomatch q
end
end

noncomputable def uv  (f:Bool)(names:List Str)(bk:ScopeKind)(ts vs:List La):Sem (Option (List Str)):=
 if (!(ts.length==2||ts.length==3)||vs.length != ts.length||bk != .function)=ma then pure Aa
 else if f=ma then pure Aa
 else if (names.length != ts.length||names.eraseDups.length != names.length)=ma then pure Aa
 else if vs.all (Gy 8)=ma then pure Aa
 else if vs.all (constantsAlone 8)=ma then do unsupported "assign.tuple-of-constant-expressions:order-of-the-stores";pure (la names)
 else pure (la names)
def cx  (env:Env)(ts:List La):List Str:=ts.filterMap fun
  |.Name j f=>if env.kindOf j==la .local&&f.line==KB ts then la j else Aa
  |_=>Aa
def YA     : Gh [.Tuple ts a p] (.Tuple vs b q) env=uv (vs.any Ms) (cx env ts) env.blockKind ts vs:=by
 have f:Ms=fun|.Starred ..=>ma|_=>ua:=by funext e;cases e<;>rfl
 with_unfolding_all rfl
def rD  (hk:∀x,env.kindOf x=c.sc.lookup x) ts:cx env ts=Te c ts:=by
 unfold Te cx;congr 1;funext e;cases e<;>first|rfl|(dsimp only;rw[hk])
def KS  (hk:∀x,env.kindOf x=c.sc.lookup x)(I:env.blockKind=.function)(h:yx c ts vs=ma):Gh [.Tuple ts a p] (.Tuple vs b q) env=pure Aa:=by
 rw[YA,rD hk,I];unfold uv;unfold yx at h;by_cases F:(!(ts.length==2||ts.length==3)||vs.length != ts.length)=ma
 ·rw[if_pos (by rw[F];rfl)]
 ·have f:(!(ts.length==2||ts.length==3)||vs.length != ts.length)=ua:=by simpa using F
  rw[f]at h;rw[if_neg (by rw[f];decide)]
  simp only[Ry,Hf,Iz]at h;obtain⟨J,z⟩:=h;rw[if_neg (by rw[J];decide)]
  by_cases j:((Te c ts).length != ts.length||(Te c ts).eraseDups.length != (Te c ts).length)=ma
  ·rw[if_pos j]
  ·rw[if_neg j];have y:((Te c ts).length != ts.length||(Te c ts).eraseDups.length != (Te c ts).length)=ua:=by simpa using j
   rw[y]at z;rw[if_pos (by simpa using z)]
def LS  (hk:∀x,env.kindOf x=c.sc.lookup x)(z:env.blockKind=.function)(h:swapped c ts vs=ma):Gh [.Tuple ts a p] (.Tuple vs b q) env=pure (la (Te c ts)):=by
 rw[YA,rD hk,z];unfold uv;unfold swapped at h;simp only[Hf,Iz]at h;obtain⟨⟨⟨⟨⟨⟨h1,J⟩,Z⟩,f⟩,I⟩,F⟩,R⟩:=h;have j:(!(ts.length==2||ts.length==3)||vs.length != ts.length||(cJ != cJ))=ua:=by
  have:(vs.length != ts.length)=ua:=by simpa using J
  rw[h1,this];rfl
 rw[if_neg (by rw[j];decide),if_neg (by rw[Z];decide)]
 have Y:((Te c ts).length != ts.length||(Te c ts).eraseDups.length != (Te c ts).length)=ua:=by
  have O:((Te c ts).length != ts.length)=ua:=by simpa using f
  have y:((Te c ts).eraseDups.length != (Te c ts).length)=ua:=by simpa using I
  rw[O,y];rfl
 rw[if_neg (by rw[Y];decide),if_neg (by rw[F];decide),if_neg (by rw[R];decide)]
def gS  (hk:∀x,env.kindOf x=c.sc.lookup x)(j:env.blockKind=.function)(h:lcSw c y f p s=ma) :
  yj (.ListComp elt gs s p) (la (.Name y f)) l env=pure ma:=by
 unfold lcSw at h;simp only[Hf]at h;unfold yj;dsimp only;show(pure (env.blockKind == .function&&env.kindOf y==la .local&&f.line==p.line && !(s.names.any λ(n,k)=>n==y&&(k == .local||k == .cell))):Sem Bool)=pure ma
 grind
def iS  {c: Dc}(hk:∀x,env.kindOf x=c.sc.lookup x)(h:(c.sc.lookup y==la .local)=ua) :
  Ni [.Name y f] (.ListComp elt gs s p) l env=pure ua:=by
 show(pure (env.blockKind == .function&&env.kindOf y==la .local&&f.line==p.line && !(s.names.any λ(n,k)=>n==y&&(k == .local||k == .cell))):Sem Bool)=pure ua
 grind
section
variable {T:qf}{k:Nat}
def Ti.kindOf    (C:Ti T k X c):∀x,X.env.kindOf x=c.sc.lookup x:=λx=>by
 unfold Env.kindOf;rw[C.sc]
def Ti.block    (C:Ti T k X c):X.env.blockKind=.function:=by
 unfold Env.blockKind;rw[C.kind];rfl
theorem WB   : ∀(is:List Nat) hs ,(unNs c is hs).length=is.length
 |[],_=>rfl
 |_::is,hs=>congrArg (·+ 1) (WB is hs.tail)
def RJ     (h:(Te c [.Name x p,.Name y q]).length=2):Te c [.Name x p,.Name y q]=[x,y]:=by
 unfold Te at h ⊢;simp only[Tu,List.filterMap_nil]at h ⊢;split at h<;>split at h<;>simp_all

def OO     (C:Ti T k X c)(q:Kn T c (.asg t d) h=ma)(hs:PE X (Zb T c d (q0 h)) (lE X (Ta T.gs (db T k) d).1)):PS X (rn T c (.asg t d) h) (lS X (denS T.gs (db T k) (.asg t d))):=by
 have y:=zn C.toCok t (q1 h) (ba (ba q).1).2;have q3:=(ba q).2;have f:Ni [unTg c t (q1 h)] (Zb T c d (q0 h)) h.pos.line X.env=pure ua/\Gh [unTg c t (q1 h)] (Zb T c d (q0 h)) X.env=pure Aa:=by
  cases t with
  |n i=>
   refine⟨?_,xM d _ _ _ _⟩;by_cases j:isLc d=ma
   ·cases d with
    |lc=>exact iS C.kindOf (bn q3)
    |_=>cases j
   ·exact tQ (by lia) _ _ _ _
  |t ts=>
   cases d with
   |lc=>cases q3
   |tup z=>exact⟨rfl,KS C.kindOf C.block q3⟩
   |_=>exact⟨rfl,rfl⟩
 exact s_asg hs y f.1 f.2 (rQ t _ _)
def QO     (C:Ti T k X c)(q:Kn T c (.par is es) h=ma)(I:PA X (unEs T c es (cl (q0 h))) (lA X (zf T.gs (db T k) es))):PS X (rn T c (.par is es) h) (lS X (denS T.gs (db T k) (.par is es))):=by
 have F:=(ba (ba q).1).2;have O:=(ba (ba (ba q).1).1).2;have y:=LS (a:=kk (q1 h)) (b:=kk (q0 h)) (p:=(q1 h).pos) (q:=(q0 h).pos) C.kindOf C.block F;unfold swapped at F;simp only[Hf,Wp,beq_iff_eq]at F;obtain⟨⟨⟨⟨⟨⟨_,f⟩,_⟩,J⟩,_⟩,_⟩,_⟩:=F;rw[sw,WB]at f;have z:is.length=2:=of_decide_eq_true (ba q).2;have Z:X.N.Nodup:=by rw[C.hN];exact C.nd
 match is,es,z,f,J,y,O,I with
 |[i,j],.cons a (.cons b .nil),_,_,J,y,O,I=>
  have R:=ba O;have Y:=ba R.2;refine s_par2 C.calm Z (C.nm (ba (ba R.1).1).1) (C.nm (ba (ba Y.1).1).1) (by simp_all) (C.loc _ (ba (ba R.1).1).2) (C.loc _ (ba (ba Y.1).1).2) I ?_ rfl
  rw[<- RJ J];exact y
 |[],_,z,_,_,_,_,_=>exact absurd z (by simp)
 |[_],_,z,_,_,_,_,_=>exact absurd z (by simp)
 |_::_::_::_,_,z,_,_,_,_,_=>exact absurd z (by simp)
 |[_,_],.nil,_,f,_,_,_,_=>exact absurd f (by simp[Og])
 |[_,_],.cons _ .nil,_,f,_,_,_,_=>exact absurd f (by simp[Og])
 |[_,_],.cons _ (.cons _ (.cons _ _)),_,f,_,_,_,_=>exact absurd f (by simp[Og])
def KQ     (C:Ti T k X c)(q:Kn T c (.asgC i d) h=ma):PS X (rn T c (.asgC i d) h) (lS X (denS T.gs (db T k) (.asgC i d))):=by
 have J:=(ba (ba (ba q).1).1);have I:=(ba q).2;have R:=C.nm (ba (ba q).1).2;have Y:=eq_of_beq (ba (ba I).1).1;cases d with
 |lc pick t O F d=>
  have y:=J.2;have S:=C.toCok.comp (ba (ba (ba (ba (ba (ba y).1).1).1).1).1).1;exact s_lc (by rw[C.hN];exact C.nd) R (by rw[C.sc];exact Y) C.calm S.1 (sI O t _ _ C.toCok (ba (ba (ba (ba y).1).1).1).2).1 (ba (ba (ba (ba (ba (ba y).1).1).1).1).1).2
   (λcl A j f z=>zn (S.2 cl A j f z) t _ (ba (ba (ba (ba (ba y).1).1).1).1).2) (λcl A j f z=>sC F (S.2 cl A j f z) (of_decide_eq_true (ba (ba y).1).2) (ba (ba (ba y).1).1).2)
   (λcl A j f z=>Zi.of (sE d (S.2 cl A j f z) (ba y).2).1) (gS C.kindOf C.block I) (sQ O _ _)
 |_=>cases J.1
mutual
theorem sS:∀(f:S) {X:Cx} {c:Dc} {h:Pa},Ti T k X c->Kn T c f h=ma->PS X (rn T c f h) (lS X (denS T.gs (db T k) f))
 |.expr d,_,_,_,C,q=>s_expr (sE d C.toCok (ba q).1).1 (qQ (bn (ba q).2) _ _ _)
 |.asg _ d,_,_,_,C,q=>OO C q (sE d C.toCok (ba (ba q).1).1).1
 |.asgC _ _,_,_,_,C,q=>KQ C q
 |.setS o i d,_,_,_,C,q=>s_set C.toCok.hu (sE d C.toCok (ba (ba q).1).1).1 (sE o C.toCok (ba (ba q).1).2).1 (sE i C.toCok (ba q).2).1 (QB d _ _ _ _ _ _).1 (QB d _ _ _ _ _ 0).2 rfl (NR (Cg i _) _ _)
 |.par _ es,_,_,_,C,q=>QO C q (Wj es C.toCok (ba (ba (ba q).1).1).1)
 |.aug _ _ d,_,_,_,C,q=>let s:=C.toCok.store (ba (ba q).1).2;s_aug (by rw[C.hN];exact C.nd) (C.nm (ba (ba q).1).1) s.1 s.2 (sE d C.toCok (ba q).2).1
 |.ite t a b,_,_,_,C,q=>s_if (sE t C.toCok (ba (ba q).1).1).2 (Rl a C (ba (ba q).1).2) (Rl b C (ba q).2)
 |.fr t it b,_,_,_,C,q=>s_for C.po C.calm (sI it t _ _ C.toCok (ba (ba q).1).2).1 (zn C.toCok t _ (ba (ba q).1).1) (Rl b C (ba q).2) (sI it t ⟨[],[]⟩ e0 C.toCok (ba (ba q).1).2).2
 |.wh t b,_,_,_,C,q=>s_wh C.po (sE t C.toCok (ba q).1).2 (Rl b C (ba q).2)
 |.ret d,_,_,_,C,q=>s_ret (sE d C.toCok q).1
 |.never,_,_,_,_,_=>λ_ _ _ _ _ _ ⟨_,_,_,_,_,q,_⟩=>(show False from q).elim
theorem Rl:∀(f:Ss) {X:Cx} {c:Dc} {hs:List Pa},Ti T k X c->okSs T c f hs=ma->xf X (unSs T c f hs) (lS X (He T.gs (db T k) f))
 |.nil,_,_,_,_,_=>s_nil
 |.cons s r,_,_,_,C,q=>s_cons (t:=denS T.gs (db T k) s) (u:=He T.gs (db T k) r) (sS s C (ba q).1) (Rl r C (ba q).2)
end
end
def yB  {T:qf}{n:Nat}(h:T.funs[n]?=la d):(T.funs++T.vf)[n]?=la d:=by
 grind
def xC  {T:qf}(hd:(T.funs++T.vf)[n]?=la d){E:KX}(h:db T (k+1) n us G Q E) :
  us.length=d.ps.length/\He T.gs (db T k) d.body ⟨λ_ f=>Q .non f,Q,λx _ f=>E x f⟩ (nc d.N.length us) G:=by
 have j:(match (T.funs++T.vf)[n]? with|some d=>us.length=d.ps.length/\He T.gs (db T k) d.body ⟨λ_ f=>Q .non f,Q,λx _ f=>E x f⟩ (nc d.N.length us) G|none=>False):=h
 lia
def wO     (e:a=b)(h:xf X a t):xf X b t:=e ▸ h
def JS       (r:Mb K H us vs):SR K H (nc N.length us) (L2.start N vs):=by
 unfold nc L2.start;refine⟨by simp[r.length],λi u e=>?_⟩
 by_cases f:i<us.length
 ·rw[Lh (by simp_all),Lc]at e
  cases q:us[i]? with
  |none=>simp_all
  |some w=>
   rw[q]at e;have:w=u:=by simpa using e
   subst this;obtain⟨v,z,y⟩:=r.get q;have j:i<vs.length:=by rw[<- r.length];exact f
   exact⟨v,by rw[Lh (by simpa using j),Lc,z];rfl,y⟩
 ·rw[bq (by simpa using f),ZI]at e
  split at e<;>cases e
structure PF (T:qf)(P:Tb)(w:Cb)(K:Lb)(mg:Str->Option Da)(base:Xa)(k:Nat):Prop where
 blt:∀x∈nj,mg x=Aa
 fns:∀(n:Nat) (d:Fun),T.funs[n]?=la d->KJ P w K mg base k d (db T k n)
 gls:∀(n:Nat) (x:Str) (u:U),T.gn[n]?=la x->T.gs[n]?=la u->∃v w,mg x=la w/\RelV v w/\∀H,RU K H u v
 cls:∀n∈T.cs,1<=n->∃C,XCls K (gK K) (clsN n) (clsF n) C
 mgK:∀x v,gK K x=la v->mg x=la v
noncomputable def Ql  (N ps:List Str)(f:Od):Bool:=
 decide (f.kind=.function) && !f.isCoroutine && !f.isGenerator&&decide N.Nodup&&(N.take ps.length==ps)&&ps.all (λx=>f.names.lookup x==la .local||f.names.lookup x==la .cell)&&f.names.all (λy=>y.2 != .free)
def gB    (h:Ql N ps j=ma):FnScope N ps j:=by
 unfold Ql at h;simp only[Hf,decide_eq_true_eq,Iz]at h;obtain⟨⟨⟨⟨⟨⟨I,z⟩,F⟩,f⟩,q⟩,O⟩,R⟩:=h;refine⟨I,z,F,f,eq_of_beq q,λx J=>?_,λy Y=>?_⟩
 ·simp_all
 grind
noncomputable def zi  (T:qf):Nat->List Fun->List Pa->Bool
 |_,[],[]=>ma
 |i,d::ds,st::sts=>Ql d.N d.ps (uf st)&&((T.ns.lookup i).isSome||okSs T ⟨d.N,(uf st).names⟩ d.body (Df st))&&zi T (i+1) ds sts
 |_,_,_=>ua
def fj  (T:qf)(all:List Pa):Nat->List Fun->List Pa->Prop
 |_,[],_=>True
 |i,d::ds,st::sts=>(match T.ns.lookup i with
  |none=>unSs T ⟨d.N,(uf st).names⟩ d.body (Df st)=Df st
  |some _=>False)/\fj T all (i+1) ds sts
 |_,_::_,[]=>False
theorem No {T:qf}{all:List Pa}:∀{i:Nat} {j:List Fun} {sts:List Pa},zi T i j sts=ma->fj T all i j sts->∀{n:Nat} {d:Fun},j[n]?=la d->∃st,sts[n]?=la st/\Ql d.N d.ps (uf st)=ma/\(match T.ns.lookup (i+n)with
  |none=>okSs T ⟨d.N,(uf st).names⟩ d.body (Df st)=ma/\unSs T ⟨d.N,(uf st).names⟩ d.body (Df st)=Df st
  |some _=>False)
 |_,[],_,_,_,_,_,e=>by simp at e
 |_,_::_,[],h,_,_,_,_=>by unfold zi at h;cases h
 |i,d::j,st::sts,h,g,n,d',e=>by
  unfold zi at h;unfold fj at g;simp only[Hf]at h;cases n with
  |zero=>
   simp at e;subst e;refine⟨st,rfl,h.1.1,?_⟩;have f:=g.1;have F:=h.1.2;rw[Nat.add_zero];cases q:T.ns.lookup i with
   |none=>rw[q]at f F;exact⟨by simpa using F,f⟩
   |some z=>rw[q]at f;exact f
  |succ n=>
   obtain⟨y,I,q⟩:=No h.2 g.2 (n:=n) (by simpa using e)
   rw[show i+1+n=i+(n+1) by lia]at q
   exact⟨y,by simpa using I,q⟩
noncomputable def Ew  (K:Lb)(v:Da)(P:Ca):Bool:=match v with
 |.ref c=>(match K.lookup c with
  |some ⟨.type t,_,.fields vs,_⟩=>t == "code" && (match (vs[11]?:Option Da)with|some (.ref Q)=>Q==P|_=>ua)&&(match vs.getD 18 .none with|.str _ _=>ma|_=>ua)&&(match vs.getD 7 .none with|.int _ _=>ma|_=>ua)
   && (match vs.getD 9 .none with|.bool _=>ma|_=>ua)&&(match vs.getD 10 .none with|.int _ _=>ma|_=>ua)&&c != P
  |_=>ua)
 |_=>ua
section
variable {T:qf}{P:Tb}{w:Cb}{K:Lb}{mg:Str->Option Da}{base:Xa}
def HC  {j n:Nat}{t:List U->Gp->K1->KX->Prop}(y:∀us G Q E,¬t us G Q E):FnOk P w K mg base (Uf P w) j f I ps (Vh K t):=
 ⟨λF H Q E ⟨_,_,_,_,_,_,h,_⟩=>(y _ _ _ _ h).elim,λA q s H z us F Q E _ _ _ _ ⟨_,_,_,_,_,_,h,_⟩=>(y _ _ _ _ h).elim⟩
def iD       (F:L2.Fun K d.name d.name st f fd)(h1:Ql d.N d.ps (uf st)=ma)(h2:okSs T ⟨d.N,(uf st).names⟩ d.body (Df st)=ma)(h3:unSs T ⟨d.N,(uf st).names⟩ d.body (Df st)=Df st)
  (pf:PF T P w K mg base k) (hd:T.funs[n]?=la d):FnOk P w K mg base (Uf P w) (k+3) f fd d.ps (Vh K (db T (k+1) n)):=by
 have S:=gB h1;refine F.okX S (λvs H Q E ⟨us,G,Q',E',r,hG,h,lv,lx⟩=>by rw[<- r.length];exact(xC (yB hd) h).1) λja A R s H vs Q E hr Y=>?_
 obtain⟨us,G,Q',E',r,hG,h,lv,lx⟩:=Y;obtain⟨hl,h⟩:=xC (yB hd) h;refine⟨_,wO h3 (Rl d.body (k:=k) (c:=⟨d.N,(uf st).names⟩) (hs:=Df st) ⟨⟨rfl,S.nd,λx z=>eq_of_beq z,λx z=>⟨eq_of_beq z,rfl⟩,λx z=>.inr (eq_of_beq z),λx z=>eq_of_beq z,hr.mono (by lia),rfl,UK,pf.blt,pf.fns,pf.gls,hr,pf.cls,pf.mgK⟩,rfl,S.kind,rfl,rfl⟩ h2),?_⟩
 exact⟨_,_,G,JS r,hG,h,⟨λJ Z y j a b c q=>lv .non .non y j rfl b c q,λw v y j a b c q=>lv w v y j a b c q,λza e s' x J Z y j I sr xa O f q=>by obtain⟨ea,C0,dx,rfl,l,xd⟩:=xa;exact Uf.out1 I l (lx x y j C0 dx xd O f q)⟩⟩
abbrev kA  (T:qf)(K:Lb)(mg:Str->Option Da)(sts:List Pa):Prop:=∀(n:Nat) (d:Fun) (st:Pa),T.funs[n]?=la d->sts[n]?=la st->∃(f:Ca) (fd:om),L2.Fun K d.name d.name st f fd/\mg d.name=la (.ref f)/\Binds K fd d.ps []/\∀z,T.ns.lookup n=la z->Ew K fd.code z.P=ma
def dR  {sts:List Pa}(J:zi T 0 T.funs sts=ma)(y:fj T sts 0 T.funs sts)(I:kA T K mg sts)(hU:∀t∈tabs,∀t'∈tabs,t.1=t'.1->t=t')(xa:K.In base)(hB:BmAt mg base)
  (Y:∀x∈nj,mg x=Aa) (hg:∀(n:Nat) x u ,T.gn[n]?=la x->T.gs[n]?=la u->∃v w,mg x=la w/\RelV v w/\∀H,RU K H u v) (O:∀n∈T.cs,1<=n->∃C,XCls K (gK K) (clsN n) (clsF n) C) (R:∀x v,gK K x=la v->mg x=la v) :
  ∀k ,PF T P w K mg base k:=by
 intro k
 induction k using Nat.strongRecOn with
 |ind k Z=>
  refine⟨Y,λn d hd=>?_,hg,O,R⟩;obtain⟨st,e,h1,j⟩:=No J y hd;obtain⟨f,fd,F,m,b,hz⟩:=I n d st hd e;refine⟨f,fd,?_,m,F.kp,b⟩;rw[Zp]at j;cases q:T.ns.lookup n with
  |none=>
   rw[q]at j;obtain _|k:=k
   ·exact HC (n:=n) λ_ _ _ _ h=>h
   ·exact iD F h1 j.1 j.2 (Z k (by lia)) hd
  |some z=>rw[q]at j;exact j.elim
noncomputable def G0  (a:Ca)(ns:List Int):Gp:=λb=>if b=a then la (.fro (ns.map .int)) else Aa
theorem uC   : ∀ns:List Int,Mb K H (ns.map .int) (ns.map V.int)
 |[]=>rfl
 |_::r=>⟨_,_,rfl,rfl,uC r⟩
def law_sp        (hT:∀t∈tabs,t.1∈tb)(f:Zr tb H)(fr:H a=la (.frz o (.lst (ns.map V.int))))(h:db T k n [.loc a] (G0 a ns) (λu _=>u=.bl ma) λ_ _=>False) :
  Vh K (db T k n) [.ref a] H (λv _=>v=.bl ma) λ_ _ _=>False:=by
 refine⟨[.loc a],G0 a ns,_,_,⟨_,_,rfl,rfl,rfl⟩,⟨λb y e=>?_,λt F=>.inl ?_⟩,h,λw v I j r _ _ q=>?_,λ_ _ _ _ _ _ _ _ z=>z.elim⟩
 ·unfold G0 at e;split at e
  ·rename_i z;subst z;cases e;exact⟨o,_,fr,uC ns⟩
  lia
 ·have:=f t.1
  grind
 ·subst q;exact r
end

def MT  {T: qf}{sts:List Pa}(F:L2.Fun K d.name d.name st f Z)(q:zi T 0 T.funs sts=ma)(j:fj T sts 0 T.funs sts)(y:kA T K mg sts)(hU:∀t∈tabs,∀t'∈tabs,t.1=t'.1->t=t')(z:K.In base)(hB:BmAt mg base)
  (Y:∀x∈nj,mg x=Aa) (hg:∀(n:Nat) x u ,T.gn[n]?=la x->T.gs[n]?=la u->∃v w,mg x=la w/\RelV v w/\∀H,RU K H u v) (O:∀n∈T.cs,1<=n->∃C,XCls K (gK K) (clsN n) (clsF n) C) (R:∀x v,gK K x=la v->mg x=la v) (hd:T.funs[n]?=la d) (hs:sts[n]?=la st) (hn:T.ns.lookup n=Aa) :
  FnOk P w K mg base (Uf P w) (k+2) f Z d.ps (Vh K (db T k n)):=by
 cases k with
 |zero=>exact HC (n:=n) λ_ _ _ _ h=>h
 |succ k=>
  obtain⟨J,e,h1,I⟩:=No q j hd;rw[hs]at e;cases e;rw[Zp,hn]at I;exact iD F h1 I.1 I.2 (dR q j y hU z hB Y hg O R k) hd

def sL    (h:gK K x=la v):ol K Ue x=la (la v):=by
 unfold gK at h;cases q:ol K Ue x with
 |none=>simp_all
 |some o=>simp_all
def zN    (X:K.In h)(G:h.Ns Ue mg):∀x v,gK K x=la v->mg x=la v:=λ_ _ e=>Qp X G (sL e)
def dm     : Wc (Wc G a o) a u=Wc G a u:=by funext b;unfold Wc;lia
def Sm  (f:Ca)(G j:Gp):Prop:=∀b o,b≠f->G b=la o->j b=la o
def Sa  (G f:Gp):Prop:=∀b o,G b=la o->f b=la o
def Sm.refl    : Sm f G G:=λ_ _ _ h=>h
def Sa.refl   : Sa G G:=λ_ _ h=>h
def Sm.trans    (a:Sm f G G1)(b:Sm f G1 G2):Sm f G G2:=λc o n h=>b c o n (a c o n h)
def Sa.trans   (a:Sa G G1)(b:Sa G1 G2):Sa G G2:=λc o h=>b c o (a c o h)
def Sa.sm    (a:Sa G G'):Sm f G G':=λc o _ h=>a c o h
def Sa.new     (h:G p=Aa):Sa G (Wc G p o):=λc u e=>by
 rw[mh (λz=>by lia)];exact e
def Sm.put     : Sm f G (Wc G f o):=λc u n e=>by rw[mh n];exact e
def Bg  {G:Gp}(h:G a=la o)(f:G p=Aa):p≠a:=λz=>by lia
def Ri.at     (n:Ri G p o G'):G' p=la o:=by rw[n.eq];exact wf
def Ri.sa     (n:Ri G p o G'):Sa G G':=by rw[n.eq];exact Sa.new n.no
def qg.at     (n:qg G p o G'):G' p=la o:=by rw[n.eq];exact wf
def qg.sm     (n:qg G p o G'):Sm p G G':=by rw[n.eq];exact Sm.put
mutual
noncomputable def pd:U->Va
 |.non=>.none
 |.bl b=>.bool b
 |.int i=>.int i
 |.str x=>.str x
 |.tup f=>.tuple (Vf f)
 |.loc _=>.none
 |.fn _=>.none
 |.ty _=>.none
 |.exc _ _=>.none
 |.own _=>.none
 |.clo _ _=>.none
noncomputable def Vf:List U->List Va
 |[]=>[]
 |u::us=>pd u::Vf us
end
mutual
noncomputable def bare:U->Bool
 |.non=>ma
 |.bl _=>ma
 |.int _=>ma
 |.str _=>ma
 |.tup f=>bares f
 |.loc _=>ua
 |.fn _=>ua
 |.ty _=>ua
 |.exc _ _=>ua
 |.own _=>ua
 |.clo _ _=>ua
noncomputable def bares:List U->Bool
 |[]=>ma
 |u::us=>bare u&&bares us
end
mutual
theorem IA {G:Gp}:∀{u:U},bare u=ma->DU G u (pd u)
 |.non,_=>.non
 |.bl b,_=>.bl b
 |.int i,_=>.int i
 |.str x,_=>.str x
 |.tup _,h=>.tup (Us h)
 |.loc _,h=>nomatch h
 |.fn _,h=>nomatch h
 |.ty _,h=>nomatch h
 |.exc _ _,h=>nomatch h
 |.own _,h=>nomatch h
 |.clo _ _,h=>nomatch h
theorem Us {G:Gp}:∀{us:List U},bares us=ma->Hg G us (Vf us)
 |[],_=>.nil
 |_::_,h=>.cons (IA (ba h).1) (Us (ba h).2)
end
theorem uD  : ∀{us },(∀u∈us,bare u=ma)->bares us=ma
 |[],_=>rfl
 |u::us,h=>by
  show(bare u&&bares us)=ma;rw[h u cf,uD λv f=>h v (Pd _ f)];rfl
theorem XB  : ∀us ,Vf us=us.map pd
 |[]=>rfl
 |u::us=>by
  show pd u::Vf us=_;rw[XB us];rfl
def BO     (h:bare u=ma)(f:Fits 16000000 60 (pd u))(q:Q (.str (pd u).shown) G):Xl [u] G Q:=⟨pd u,IA h,f,q⟩
structure Hc (n:Nat)(u:U):Prop where
 b:bare u=ma
 l:(pd u).canLay0=ma
 d:(pd u).depth<=n
def Hc.mono    (h:Hc n u)(e:n<=m):Hc m u:=⟨h.b,h.l,Fb h.d e⟩
def Hc.int   i:Hc 0 (.int i):=⟨rfl,rfl,Db _⟩
def Hc.str   (h:∀c∈x.cps.toList,c<128):Hc 0 (.str x):=⟨rfl,by
 show x.cps.all (λc=>decide (c<0x110000))=ma;rw[<- Array.all_toList,jl]
 grind,Db _⟩
theorem smls   : ∀{us },(∀u∈us,Hc n u)->bares us=ma/\Ru (Vf us)=ma/\Yh (Vf us)<=n
 |[],_=>⟨rfl,rfl,og _⟩
 |u::us,h=>by
  obtain⟨y,q,j⟩:=smls λv f=>h v (Pd _ f);have hu:=h u cf;refine⟨?_,?_,?_⟩
  ·show(bare u&&bares us)=ma;rw[hu.b,y];rfl
  ·show((pd u).canLay0&&Ru (Vf us))=ma;rw[hu.l,q];rfl
  ·show max (pd u).depth (Yh (Vf us))<=n;exact Nat.max_le.mpr ⟨hu.d,j⟩
def Hc.tup    (h:∀u∈us,Hc n u):Hc (n+1) (.tup us):=let ⟨y,q,j⟩:=smls h;⟨y,q,Mz j⟩
def Hc.small    (h:Hc n u)(j:n<=100):Small (pd u):=⟨h.l,Fb h.d j⟩
def uB       (y:G a=la (.lst us))(j:G b=la (.lst []))(h:∀u∈us,Hc n u)(O:n<100)(q:k us.isEmpty):eqU (.loc a) (.loc b) G k:=by
 obtain⟨I,z,J⟩:=smls h;have F:Bc G a=la us:=by unfold Bc;rw[y]
 have f:Bc G b=la []:=by unfold Bc;rw[j]
 refine⟨.list (Vf us),.list [],.lst F (Us I),.lst f .nil,⟨z,?_⟩,⟨rfl,by decide⟩,?_⟩
 ·show Yh (Vf us)+1<=100
  lia
 ·have e:Ud (.list (Vf us)) (.list [])=us.isEmpty:=by
   show Dj (Vf us) []=_;rw[aU];cases us<;>rfl
  lia
structure Ft (n k:Nat)(u:U):Prop where
 b:bare u=ma
 f:Fits n k (pd u)
def Ft.mono    (h:Ft n k u)(y:n<=j)(q:k<=k'):Ft j k' u:=⟨h.b,h.f.mono y q⟩
def Ft.int   (h:i.natAbs<2 ^ 1000):Ft 1921 0 (.int i):=⟨rfl,Fits.int h⟩
def Ft.str    (h:x.length<=m)(q:∀c∈x.cps.toList,c<128):Ft (10*m+2) 0 (.str x):=⟨rfl,Fits.str h λc j=>xy (q c j) (by decide)⟩
def Ft.tup    (q:us.length<=m)(h:∀u∈us,Ft n k u)(j:m*(n+2)+3<=N):Ft N (k+1) (.tup us):=by
 refine⟨uD λu hu=>(h u hu).b,?_⟩;show Fits N (k+1) (.tuple (Vf us));rw[XB];refine Fits.tupLe (m:=m) (n:=n) (by simp_all) (λd hd=>?_) j
 obtain⟨u,hu,rfl⟩:=Ea.mp hd;exact(h u hu).f
def AO      (h:Ft n k u)(j:n<=16000000)(f:k<=60)(q:Q (.str (pd u).shown) G):Xl [u] G Q:=BO h.b (h.f.mono j f) q
theorem Ze     : ∀{xs } (I:Nat->Sg->Gp->Prop) (_:∀f G,I xs.length f G->ok G/\k f G)
  (_:∀i x f G K ,xs[i]?=la x->I i f G->(∀j q,I (i+1) j q->K j q)->ok G/\b x f G K) {f } {G } (_:I 0 f G),forL ok b xs f G k
 |[],_,h0,_,_,_,h=>h0 _ _ h
 |x::_,I,h0,h1,_,_,h=>h1 0 x _ _ _ rfl h λ_ _ z=>Ze (λi=>I (i+1)) h0 (λi y f G K e F hk=>h1 (i+1) y f G K e F hk) z
theorem Ce     : ∀{xs } (I:Nat->List U->Gp->Prop) (_:∀acc G,I xs.length acc G->ok G/\k acc G)
  (_:∀i x acc G K ,xs[i]?=la x->I i acc G->(∀u f,I (i+1) (acc++[u]) f->K (la u) f)->(∀f,I (i+1) acc f->K Aa f)->ok G/\b x G K) {acc } {G } (_:I 0 acc G),cj ok b xs acc G k
 |[],_,h0,_,_,_,h=>h0 _ _ h
 |x::_,I,h0,h1,_,_,h=>h1 0 x _ _ _ rfl h (λ_ _ q=>Ce (λi=>I (i+1)) h0 (λi y a G K e z hk j=>h1 (i+1) y a G K e z hk j) q) (λ_ q=>Ce (λi=>I (i+1)) h0 (λi y a G K e z hk j=>h1 (i+1) y a G K e z hk j) q)
theorem Yg       f (j:ok G):∀{xs } (_:∀x∈xs,∀K ,K (la (f x)) G->b x G K) {acc } (_:k (acc++xs.map f) G),cj ok b xs acc G k
 |[],_,acc,q=>⟨j,by simpa using q⟩
 |x::xs,hb,acc,q=>⟨j,hb x cf _ (Yg f j (λy z=>hb y (Pd _ z)) (by simpa using q))⟩
def Zd   i n:(rngU i n).length=n:=by unfold rngU;simp
def Xf    (h:(rngU 0 n)[i]?=la x):i<n/\x=.int i:=by
 unfold rngU at h;rw[Lc]at h;by_cases f:i<n
 ·rw[mz f]at h;exact⟨f,by simpa using h.symm⟩
 ·rw[Zz (by simpa using f)]at h
  cases h
def qj   (f:α->q)(l:List α) i:atI (l.map f) i=(atI l i).map f:=by
 unfold atI;rw[Ua];cases gg l.length i with
 |none=>rfl
 |some j=>simp
def Td   (a:α) l:atI (a::l) 0=la a:=tf (xs:=a::l) (j:=0) rfl
def Ad   (a b:α) l:atI (a::b::l) 1=la b:=tf (xs:=a::b::l) (j:=1) rfl
def CA   (a b c:α) l:atI (a::b::c::l) 2=la c:=tf (xs:=a::b::c::l) (j:=2) rfl
def lL    a b c d (l:List α):atI (a::b::c::d::l) 3=la d:=tf (xs:=a::b::c::d::l) (j:=3) rfl
def Go   {l:List α}{r:Int}(h0:0<=r)(q:r<l.length):∃x,x∈l/\atI l r=la x:=by
 obtain⟨j,rfl⟩:=Gg h0;have f:j<l.length:=by lia
 exact⟨l[j],Mh f,tf (ac f)⟩
noncomputable def Ld  (c:Ca)(a l t:Int):List (Ub×U):=[(.inr "cells",.loc c),(.inr "at",.int a),(.inr "left",.int l),(.inr "turn",.int t)]
structure Fd (G:Gp)(f c:Ca):Prop where
 ex:∃(ns:List Int) (a l t:Int),G f=la (.dK (Ld c a l t))/\G c=la (.lst (ns.map .int))/\ns≠[]
def k_ca  : ¬((Eb ("cells" : Str):Ub)=Eb ("at" : Str)):=by decide +kernel
def k_cl  : ¬((Eb ("cells" : Str):Ub)=Eb ("left" : Str)):=by decide +kernel
def k_ct  : ¬((Eb ("cells" : Str):Ub)=Eb ("turn" : Str)):=by decide +kernel
def k_al  : ¬((Eb ("at" : Str):Ub)=Eb ("left" : Str)):=by decide +kernel
def k_at  : ¬((Eb ("at" : Str):Ub)=Eb ("turn" : Str)):=by decide +kernel
def k_lt  : ¬((Eb ("left" : Str):Ub)=Eb ("turn" : Str)):=by decide +kernel

def nQ  : dGet (Ld c a l t) (.inr "cells")=la (.loc c):=by simp[dGet,Ld]
def g_at  : dGet (Ld c a l t) (.inr "at")=la (.int a):=by simp[dGet,Ld,k_ca,-ql]
def WL  : dGet (Ld c a l t) (.inr "left")=la (.int l):=by simp[dGet,Ld,k_cl,k_al,-ql]
def BB  : dGet (Ld c a l t) (.inr "turn")=la (.int t):=by simp[dGet,Ld,k_ct,k_at,k_lt,-ql]
def dN   x:dPut (Ld c a l t) (.inr "turn") (.int x)=Ld c a l x:=by simp[dPut,Ld,k_ct,k_at,k_lt,-ql]
def p_at   x:dPut (Ld c a l t) (.inr "at") (.int x)=Ld c x l t:=by simp[dPut,Ld,k_ca,Qa k_al,Qa k_at,-ql]
def cN   x:dPut (Ld c a l t) (.inr "left") (.int x)=Ld c a x t:=by simp[dPut,Ld,k_cl,k_al,Qa k_lt,-ql]
def yN   : Ai [((Eb ("cells" : Str):Ub),U.loc p),(.inr "at",.int 0),(.inr "left",.int 0),(.inr "turn",.int 0)]=Ld p 0 0 0:=by
 simp[Ai,dPut,Ld,k_ca,k_cl,k_ct,k_al,k_at,k_lt,-ql]
def aw  : (Ld c a l t).length<Za:=by show 4<Za;decide
def Fd.put       (p:qg G f (.dK (Ld c a l t)) G')(h:G f=la (.dK kvs))(j:G c=la (.lst (ns.map .int)))(q:ns≠[]):Fd G' f c:=
 ⟨ns,a,l,t,p.at,p.sm _ _ (λz=>by lia) j,q⟩
def Fd.sa    (h:Fd G f c)(s:Sa G G'):Fd G' f c:=let ⟨j,a,l,t,F,y,q⟩:=h.ex;⟨j,a,l,t,s _ _ F,s _ _ y,q⟩
def Fd.new     (h:Fd G f c)(n:Ri G p o G'):Fd G' f c:=h.sa n.sa
def Fd.away     (h:Fd G f c)(n:Ri G p o G'):p≠f/\p≠c:=by
 obtain⟨y,a,l,t,q,j,_⟩:=h.ex;exact⟨Bg q n.no,Bg j n.no⟩
def Fd.off     (h:Fd G f c)(j:p≠f/\p≠c)(w:qg G p o G'):Fd G' f c:=let ⟨q,a,l,t,I,y,F⟩:=h.ex;⟨q,a,l,t,w.sm _ _ (Qa j.1) I,w.sm _ _ (Qa j.2) y,F⟩
def Sm.wr     (s1:Sm f G G1)(n:G1 p=Aa)(s2:Sm f G G2)(w:qg G2 p o q):Sm f G q:=λb u j e=>w.sm b u (λz=>by
 have:=s1 _ _ j e
 lia) (s2 b u j e)
def Sm.nw     (s:Sm f G G1)(n:Ri G1 p o G2):Sm f G G2:=s.trans n.sa.sm
def lV         i:(Ta gs Δ (.v i)).1 f G Q X=(slot f i λu=>Q u G):=rfl
def aV         i:(Ta gs Δ (.v i)).2 j G R X=(Ta gs Δ (.v i)).1 j G (λx f=>truU x f λb=>R b f) X:=rfl
def D_non         : (Ta gs Δ (.non)).1 f G Q X=(Q .non G):=rfl
def D_bl         b:(Ta gs Δ (.bl b)).1 f G Q X=(Q (.bl b) G):=rfl
def D_int         i:(Ta gs Δ (.int i)).1 f G Q X=(Q (.int i) G):=rfl
def D_str         x:(Ta gs Δ (.str x)).1 f G Q X=(Q (.str x) G):=rfl
def mV         n:(Ta gs Δ (.g n)).1 f G Q X=(jp gs n λu=>Q u G):=rfl
def bV         n:(Ta gs Δ (.g n)).2 j G R X=(Ta gs Δ (.g n)).1 j G (λx f=>truU x f λb=>R b f) X:=rfl
def D_ty         n:(Ta gs Δ (.ty n)).1 f G Q X=(Q (.ty n) G):=rfl
def T_ty         n:(Ta gs Δ (.ty n)).2 j G R X=(Ta gs Δ (.ty n)).1 j G (λx f=>truU x f λb=>R b f) X:=rfl
def D_bin         o a b:(Ta gs Δ (.bin o a b)).1 f G Q X=((Ta gs Δ a).1 f G (λx q=>(Ta gs Δ b).1 f q (λy j=>binU o x y j Q) X) X):=rfl
def T_bin         o a b:(Ta gs Δ (.bin o a b)).2 j G R X=(Ta gs Δ (.bin o a b)).1 j G (λx f=>truU x f λb=>R b f) X:=rfl
def D_neg         a:(Ta gs Δ (.neg a)).1 j G Q X=((Ta gs Δ a).1 j G (λx f=>negU x f Q) X):=rfl
def D_cmp         o a b:(Ta gs Δ (.cmp o a b)).1 j G Q X=((Ta gs Δ a).1 j G (λx q=>(Ta gs Δ b).1 j q (λy f=>cmpU o x y f λc=>Q (.bl c) f) X) X):=rfl
def T_cmp         o a b:(Ta gs Δ (.cmp o a b)).2 j G R X=(Ta gs Δ (.cmp o a b)).1 j G (λx f=>truU x f λb=>R b f) X:=rfl
def D_cmp2         o p a b c:(Ta gs Δ (.cmp2 o p a b c)).1 j G Q X=((Ta gs Δ a).1 j G (λx F=>(Ta gs Δ b).1 j F (λy f=>cmpU o x y f λt=>if t=ma then (Ta gs Δ c).1 j f (λz q=>cmpU p y z q λt'=>Q (.bl t') q) X else Q (.bl ua) f) X) X):=rfl
def T_cmp2         o p a b c:(Ta gs Δ (.cmp2 o p a b c)).2 j G R X=(Ta gs Δ (.cmp2 o p a b c)).1 j G (λx f=>truU x f λb=>R b f) X:=rfl
def D_tup         es:(Ta gs Δ (.tup es)).1 j G Q X=(zf gs Δ es j G (λus f=>us.length<=Za/\Q (.tup us) f) X):=rfl
def D_lst         es:(Ta gs Δ (.lst es)).1 j G Q X=(zf gs Δ es j G (λus f=>us.length<=Za/\newO f (.lst us) Q) X):=rfl
def D_dic         es:(Ta gs Δ (.dic es)).1 j G Q X=(denD gs Δ es j G (λkvs f=>kvs.length<=15/\newO f (.dK (Ai kvs)) Q) X):=rfl
def D_ix         a b:(Ta gs Δ (.ix a b)).1 f G Q X=((Ta gs Δ a).1 f G (λx q=>(Ta gs Δ b).1 f q (λy j=>af x y j Q) X) X):=rfl
def T_ix         a b:(Ta gs Δ (.ix a b)).2 j G R X=(Ta gs Δ (.ix a b)).1 j G (λx f=>truU x f λb=>R b f) X:=rfl
def D_sl         a lo hi:(Ta gs Δ (.sl a lo hi)).1 f G Q X=((Ta gs Δ a).1 f G (λx q=>denO gs Δ lo f q (λl j=>denO gs Δ hi f j (λh y=>Vi x l h y Q) X) X) X):=rfl
def D_rev         a b:(Ta gs Δ (.rev a b)).1 f G Q X=((Ta gs Δ a).1 f G (λx q=>(Ta gs Δ b).1 f q (λy j=>revU x y j Q) X) X):=rfl
def D_call         n es:(Ta gs Δ (.call n es)).1 j G Q X=(zf gs Δ es j G (λus f=>Δ n us f Q X) X):=rfl
def T_call         n es:(Ta gs Δ (.call n es)).2 j G R X=(Ta gs Δ (.call n es)).1 j G (λx f=>truU x f λb=>R b f) X:=rfl
def D_blt         b es:(Ta gs Δ (.blt b es)).1 j G Q X=(zf gs Δ es j G (λus f=>bltU b us f Q) X):=rfl
def T_blt         b es:(Ta gs Δ (.blt b es)).2 j G R X=(Ta gs Δ (.blt b es)).1 j G (λx f=>truU x f λb=>R b f) X:=rfl
def D_meth {j:List U}{q:Cl}{f:Sg}{G:Gp}{Q:K1}{X:KX}(m:Mth)(o:E)(z:Es):(Ta j q (.meth m o z)).1 f G Q X=((Ta j q o).1 f G (λx y=>match Se m x y with|some _=>zf j q z f y (λus F=>ze m x us F Q) X|none=>False) X):=rfl
def D_lc         pick t it ifs e:(Ta gs Δ (.lc pick t it ifs e)).1 f G Q X=(denI gs Δ it f G (λxs ok z=>xs.length<=Za/\cj ok (λx y k=>Yc t x (Wg pick f) λq=>denC gs Δ ifs q y (λb j=>if b=ma then (Ta gs Δ e).1 q j (λu I=>k (la u) I) (λ_ _=>False) else k Aa j)) xs [] z λus F=>newO F (.lst us) Q) X):=rfl
def D_mkD         e:(Ta gs Δ (.mkD e)).1 j G Q X=((Ta gs Δ e).1 j G (λx f=>mkDU x f Q) X):=rfl
def T_mkD         e:(Ta gs Δ (.mkD e)).2 j G R X=(Ta gs Δ (.mkD e)).1 j G (λx f=>truU x f λb=>R b f) X:=rfl
def D_mkL         e:(Ta gs Δ (.mkL e)).1 j G Q X=((Ta gs Δ e).1 j G (λx f=>Pf x f λxs _=>newO f (.lst xs) Q) X):=rfl
def D_mkT         e:(Ta gs Δ (.mkT e)).1 j G Q X=((Ta gs Δ e).1 j G (λx f=>Pf x f λxs _=>Q (.tup xs) f) X):=rfl
def D_not         a:(Ta gs Δ (.not a)).1 j G Q X=((Ta gs Δ a).1 j G (λx f=>truU x f λb=>Q (.bl (!b)) f) X):=rfl
def T_not         a:(Ta gs Δ (.not a)).2 j G R X=((Ta gs Δ a).2 j G (λb f=>R (!b) f) X):=rfl
def D_ife         c a b:(Ta gs Δ (.ife c a b)).1 f G Q X=((Ta gs Δ c).2 f G (λt j=>if t=ma then (Ta gs Δ a).1 f j Q X else (Ta gs Δ b).1 f j Q X) X):=rfl
def T_ife         c a b:(Ta gs Δ (.ife c a b)).2 f G R X=((Ta gs Δ c).2 f G (λt j=>if t=ma then (Ta gs Δ a).2 f j R X else (Ta gs Δ b).2 f j R X) X):=rfl
def D_bop0      : Ta gs Δ (.bop k a .nil)=Ta gs Δ a:=rfl
def D_and          : (Ta gs Δ (.bop ma a (.cons b es))).1 j G Q X=(Ta gs Δ a).1 j G (λx f=>truU x f λc=>if c=ma then (Ta gs Δ (.bop ma b es)).1 j f Q X else Q x f) X:=rfl
def D_or          : (Ta gs Δ (.bop ua a (.cons b es))).1 j G Q X=(Ta gs Δ a).1 j G (λx f=>truU x f λc=>if c=ma then Q x f else (Ta gs Δ (.bop ua b es)).1 j f Q X) X:=rfl
def T_and          : (Ta gs Δ (.bop ma a (.cons b es))).2 j G R X=(Ta gs Δ a).2 j G (λc f=>if c=ma then (Ta gs Δ (.bop ma b es)).2 j f R X else R ua f) X:=rfl
def T_or          : (Ta gs Δ (.bop ua a (.cons b es))).2 j G R X=(Ta gs Δ a).2 j G (λc f=>if c=ma then R ma f else (Ta gs Δ (.bop ua b es)).2 j f R X) X:=rfl
def O_no        : denO gs Δ .no f G Q X=Q Aa G:=rfl
def O_so {q:List U}{j:Cl}{f:Sg}{G:Gp}{X:KX}{Q:Option Int->Gp->Prop}{e:E}:denO q j (.so e) f G Q X=(Ta q j e).1 f G (λx y=>match x with|.int i=>Q (la i) y|_=>False) X:=rfl
def A_nil        : zf gs Δ .nil f G Q X=Q [] G:=rfl
def A_cons          : zf gs Δ (.cons e es) f G Q X=(Ta gs Δ e).1 f G (λx q=>zf gs Δ es f q (λxs j=>Q (x::xs) j) X) X:=rfl
def C_nil       : denC gs Δ .nil f G Q=Q ma G:=rfl
def C_cons         : denC gs Δ (.cons e es) j G Q=(Ta gs Δ e).2 j G (λb f=>if b=ma then denC gs Δ es j f Q else Q ua f) (λ_ _=>False):=rfl
def P_nil        : denD gs Δ .nil f G Q X=Q [] G:=rfl
def P_cons {q:List U}{z:Cl}{j:Sg}{G:Gp}{X:KX}{Q:List (Ub×U)->Gp->Prop}{e f:E}{F:Es}:denD q z (.cons e (.cons f F)) j G Q X=(Ta q z e).1 j G (λx O=>(Ta q z f).1 j O (λy I=>match kU x with|some k=>denD q z F j I (λkvs J=>Q ((k,y)::kvs) J) X|none=>False) X) X:=rfl
def hV         : denI gs Δ (.e e) j G Q X=(Ta gs Δ e).1 j G (λx f=>Pf x f λxs ok=>Q xs ok f) X:=rfl
def I_r1 {y:List U}{q:Cl}{f:Sg}{G:Gp}{X:KX}{Q:List U->(Gp->Prop)->Gp->Prop}{e:E}:denI y q (.r1 e) f G Q X=(Ta y q e).1 f G (λx z=>match x with|.int j=>-(2 ^ 62)<=j/\j<2 ^ 62/\Q (rngU 0 j.toNat) (λ_=>True) z|_=>False) X:=rfl
def I_enum         : denI gs Δ (.enum e) j G Q X=(Ta gs Δ e).1 j G (λx f=>pp x f λxs ok=>Q xs ok f) X:=rfl
def F_nil        : denF gs Δ .nil f G Q X=Q [] G:=rfl
def F_cons          : denF gs Δ (.cons e es) f G Q X=(Ta gs Δ e).1 f G (λx q=>fpU x λz=>denF gs Δ es f q (λzs j=>Q (z::zs) j) X) X:=rfl
def I_dv         : denI gs Δ (.dv e) j G Q X=(Ta gs Δ e).1 j G (λx f=>kh Dh x f Q) X:=rfl
def I_di         : denI gs Δ (.di e) j G Q X=(Ta gs Δ e).1 j G (λx f=>kh pj x f Q) X:=rfl
def S_expr        : denS gs Δ (.expr e) D j G=(Ta gs Δ e).1 j G (λ_ f=>D.nx j f) λx f=>D.ex x j f:=rfl
def S_asg         : denS gs Δ (.asg t e) D q G=(Ta gs Δ e).1 q G (λu f=>Yc t u q λj=>D.nx j f) λx f=>D.ex x q f:=rfl
def S_asgC         : denS gs Δ (.asgC i e) D j G=(Ta gs Δ e).1 j G (λu f=>D.nx (j.set i (la u)) f) λx f=>D.ex x j f:=rfl
def S_setS        : denS gs Δ (.setS o i e) D f G=(Ta gs Δ e).1 f G (λv j=>(Ta gs Δ o).1 f j (λx q=>(Ta gs Δ i).1 f q (λy z=>setU x y v z λF=>D.nx f F) (λx j=>D.ex x f j)) (λx j=>D.ex x f j)) (λx j=>D.ex x f j):=rfl
def S_par         : denS gs Δ (.par is es) D j G=zf gs Δ es j G (λus f=>us.length=is.length/\D.nx ((is.zip us).foldl (λs p=>s.set p.1 (la p.2)) j) f) λx f=>D.ex x j f:=rfl
def S_aug          : denS gs Δ (.aug i o e) D f G=slot f i λx=>(Ta gs Δ e).1 f G (λy j=>Gs o x y j λz q=>D.nx (f.set i (la z)) q) λx j=>D.ex x f j:=rfl
def S_ite         : denS gs Δ (.ite c a b) D j G=(Ta gs Δ c).2 j G (λt f=>if t=ma then He gs Δ a D j f else He gs Δ b D j f) λx f=>D.ex x j f:=rfl
def S_fr          : denS gs Δ (.fr t it b) D j G=denI gs Δ it j G (λxs ok q=>forL ok (λx y z k=>Yc t x y λf=>He gs Δ b { D with nx:=k } f z) xs j q D.nx) λx q=>D.ex x j q:=rfl
def S_ret        : denS gs Δ (.ret e) D f G=(Ta gs Δ e).1 f G D.rt λx j=>D.ex x f j:=rfl
def B_nil       : He gs Δ .nil D f G=D.nx f G:=rfl
def B_cons         : He gs Δ (.cons s r) D q G=denS gs Δ s { D with nx:=λf j=>He gs Δ r D f j } q G:=rfl
def S_wh         : denS gs Δ (.wh c b) D F G=∃W:Nat->Sg->Gp->Prop,(∃m,W m F G)/\∀m f j,W m f j->(Ta gs Δ c).2 f j (λt y=>if t=ma then He gs Δ b { D with nx:=λq I=>∃z,z<m/\W z q I } f y else D.nx f y) λx j=>D.ex x f j:=rfl
def V_add     : binU .Add (.int i) (.int j) G Q=Q (.int (i+j)) G:=rfl
def V_cat     : binU .Add (.tup xs) (.tup ys) G Q=(xs.length+ys.length<=Za/\Q (.tup (xs++ys)) G):=rfl
def V_catL     : binU .Add (.loc a) (.loc b) G Q=∃xs f,G a=la (.lst xs)/\G b=la (.lst f)/\xs.length+f.length<=Za/\newO G (.lst (xs++f)) Q:=rfl
def V_sub     : binU .Sub (.int i) (.int j) G Q=Q (.int (i-j)) G:=rfl
def V_mul     : binU .Mult (.int i) (.int j) G Q=(CMul i j/\Q (.int (i*j)) G):=rfl
def V_mulL      : binU .Mult (.loc a) (.int k) G Q=∃xs,G a=la (.lst xs)/\-(2 ^ 63)<=k/\k<2 ^ 63/\xs.length*k.toNat<=Za/\newO G (.lst (Kb k.toNat xs).flatten) Q:=rfl
def V_mulT      : binU .Mult (.tup xs) (.int k) G Q=(xs≠[]/\0<=k/\k<2 ^ 62/\xs.length*k.toNat<=Za/\Q (.tup (Kb k.toNat xs).flatten) G):=rfl
def V_fdiv     : binU .FloorDiv (.int i) (.int j) G Q=(0<j/\j<1073741824/\Q (.int (i/j)) G):=rfl
def V_mod     : binU .Mod (.int i) (.int j) G Q=(0<j/\Q (.int (i%j)) G):=rfl
def V_pow     : binU .Pow (.int i) (.int j) G Q=(CPow i j/\Q (.int (i ^ j.toNat)) G):=rfl
def V_neg     : negU (.int i) G Q=Q (.int (-i)) G:=rfl
def W_eqI     : cmpU .Eq (.int i) (.int j) G k=k (decide (i=j)):=rfl
def W_neI     : cmpU .NotEq (.int i) (.int j) G k=k (!decide (i=j)):=rfl
def W_eqS     : cmpU .Eq (.str i) (.str j) G k=k (decide (i=j)):=rfl
def W_neS     : cmpU .NotEq (.str i) (.str j) G k=k (!decide (i=j)):=rfl
def W_lt     : cmpU .Lt (.int i) (.int j) G k=k (decide (i<j)):=rfl
def W_le     : cmpU .LtE (.int i) (.int j) G k=k (decide (i<=j)):=rfl
def W_gt     : cmpU .Gt (.int i) (.int j) G k=k (decide (j<i)):=rfl
def W_neT     : cmpU .NotEq (.tup xs) (.tup ys) G k=eqU (.tup xs) (.tup ys) G λb=>k (!b):=rfl
def W_eqT      : cmpU .Eq (.tup xs) (.tup (y::ys)) G k=eqU (.tup xs) (.tup (y::ys)) G k:=rfl
def W_eqT0     : cmpU .Eq (.tup xs) (.tup []) G k=k xs.isEmpty:=rfl
def W_neL     : cmpU .NotEq (.loc a) (.loc b) G k=eqU (.loc a) (.loc b) G λb=>k (!b):=rfl
def W_eqL     : cmpU .Eq (.loc a) (.loc b) G k=eqU (.loc a) (.loc b) G k:=rfl
def W_in     : cmpU .In x y G k=ig x y G k:=rfl
def W_nin     : cmpU .NotIn x y G k=ig x y G λb=>k (!b):=rfl
def W_is     : cmpU .Is x y G k=Wh x y k:=rfl
def W_isn     : cmpU .IsNot x y G k=Wh x y λb=>k (!b):=rfl
def Y_bl     : truU (.bl b) G k=k b:=rfl
def Y_non    : truU .non G k=k ua:=rfl
def Y_int     : truU (.int i) G k=k (i != 0):=rfl
def Y_tup     : truU (.tup xs) G k=k (!xs.isEmpty):=rfl
def J_tup     : Pf (.tup xs) G k=k xs λ_=>True:=rfl
def X_tup      : Vi (.tup xs) lo hi G Q=Q (.tup (cut xs lo hi)) G:=rfl
def F_len     : bltU .len us G Q=lenU us G Q:=rfl
def F_repr     : bltU .repr us G Q=Xl us G Q:=rfl
def F_min     : bltU .min us G Q=minU us G Q:=rfl
def F_max     : bltU .max us G Q=maxU us G Q:=rfl
def F_sum     : bltU .sum us G Q=sumU us G Q:=rfl
def F_sorted     : bltU .sorted us G Q=uj us G Q:=rfl
def F_int     : bltU .int us G Q=intU us G Q:=rfl
def F_isi     : bltU .isi us G Q=kj us G Q:=rfl
def X_str      : Vi (.str x) lo hi G Q=(x.length<=Za/\Q (.str (Vt x lo hi)) G):=rfl
def V_addB      : binU .Add (.bl b) (.int j) G Q=Q (.int ((if b=ma then (1:Int) else 0)+j)) G:=rfl
def V_subB      : binU .Sub (.bl b) (.int j) G Q=Q (.int ((if b=ma then (1:Int) else 0)-j)) G:=rfl
def V_subI      : binU .Sub (.int i) (.bl b) G Q=Q (.int (i-if b=ma then (1:Int) else 0)) G:=rfl
def F_lenT     : lenU [.tup xs] G Q=Q (.int xs.length) G:=rfl
def F_min2     : minU [.int i,.int j] G Q=Q (.int (if j<i then j else i)) G:=rfl
def F_max2     : maxU [.int i,.int j] G Q=Q (.int (if j>i then j else i)) G:=rfl
def F_intB     : intU [.bl b] G Q=Q (.int (if b then 1 else 0)) G:=rfl
def F_intI     : intU [.int i] G Q=Q (.int i) G:=rfl
def jV      : Yc (.n i) u f k=k (f.set i (la u)):=rfl
def iV      : Yc (.t ts) (.tup us) f k=tgsU ts us f k:=rfl
def G_nil     : tgsU .nil us f k=(us=[]/\k f):=rfl
def G_cons        : tgsU (.cons t ts) (u::r) j k=Yc t u j λf=>tgsU ts r f k:=rfl
def sl_0   {f:Sg}:slot (la u::f) 0 k=k u:=rfl
def sl_s   {f:Sg}:slot (o::f) (i+1) k=slot f i k:=rfl
def Xk      : putO G a o Q=Q (Wc G a o):=propext ⟨λh=>h.at,λh f p=>by rw[p.eq];exact h⟩
def ix_t       (h:atI xs i=la u):af (.tup xs) (.int i) G Q=Q u G:=by unfold af;lia
def ix_l        (g:G a=la (.lst xs))(h:atI xs i=la u):af (.loc a) (.int i) G Q=Q u G:=by unfold af;lia
def ix_d        (g:G a=la (.dK kvs))(h:dGet kvs (.inr x)=la u):af (.loc a) (.str x) G Q=Q u G:=by unfold af;dsimp only;rw[g];show(match dGet kvs (.inr x)with|some u=>Q u G|none=>False)=_;rw[h]
def PC       (g:G a=la (.lst xs))(h0:0<=r)(f:r<xs.length)(q:∀u∈xs,Q u G):af (.loc a) (.int r) G Q:=by
 obtain⟨u,hu,e⟩:=Go h0 f;rw[ix_l g e];exact q u hu
def Uo  (zs:List Int){r:Int}(g:G a=la (.lst (zs.map .int)))(h0:0<=r)(f:r<zs.length)(q:∀z∈zs,Q (.int z) G):af (.loc a) (.int r) G Q:=
 PC g h0 (by simp_all) λu hu=>by
  grind
theorem UC  : ∀zs ,ij (zs.map .int)=la zs
 |[]=>rfl
 |x::r=>by show(match ij (r.map .int)with|some l=>la (x::l)|none=>Aa)=_;rw[UC r]
def in_l       (g:G a=la (.lst ys))(f:flat x=ma)(j:ys.all flat=ma)(q:k (ys.any λy=>nh y x)):ig x (.loc a) G k:=by
 cases x<;>first|(cases f;done)|(unfold ig;lia)
def xi      (g:G a=la (.lst xs)):lenU [.loc a] G Q=Q (.int xs.length) G:=by unfold lenU;lia
def AL      (g:G a=la (.fro xs)):lenU [.loc a] G Q=Q (.int xs.length) G:=by unfold lenU;lia
def it_l      (g:G a=la (.lst xs)):Pf (.loc a) G k=k xs λf=>Bc f a=la xs:=by unfold Pf;dsimp only;have e:Bc G a=la xs:=(by unfold Bc;rw[g]);rw[e]
def xg       (g:G a=la (.lst xs)):ze .append (.loc a) [v] G Q=(xs.length<Za/\putO G a (.lst (xs++[v])) (Q .non)):=by unfold ze Cw;dsimp only;rw[g]
def Of     (g:G a=la (.lst xs)):Se .append (.loc a) G=la ("list", "list.append"):=by unfold Se;lia
def DM         (g:G a=la (.lst xs))(h:gg xs.length i=la j):setU (.loc a) (.int i) v G Q=putO G a (.lst (xs.set j v)) Q:=by unfold setU;lia
def Yv        (g:G a=la (.dK kvs)):setU (.loc a) (.str x) v G Q=(kvs.length<Za/\putO G a (.dK (dPut kvs (.inr x) v)) Q):=by unfold setU;dsimp only;rw[g];rfl
def MP   (h:j<n):gg n (j:Int)=la j:=by unfold gg;simp_all
noncomputable def As  : Nat->Ss->Ss
 |0,s=>s
 |_+1,.nil=>.nil
 |n+1,.cons _ r=>As n r
def dr_0   : As 0 s=s:=rfl
def dr_s     : As (n+1) (.cons s r)=As n r:=rfl
def pk_nil   : Wg [] f=[]:=rfl
def pk_none    : Wg (Aa::r) f=Aa::Wg r f:=rfl
def pk_some     : Wg (la j::r) f=(f[j]?).join::Wg r f:=rfl
def K_str   : kU (.str x)=la (.inr x):=rfl
def K_int   : kU (.int i)=la (.inl i):=rfl
def sl_f       (g:G a=la (.fro xs)):Vi (.loc a) lo hi G Q=newO G (.lst (cut xs lo hi)) Q:=by unfold Vi;dsimp only;have e:Bc G a=la xs:=(by unfold Bc;rw[g]);rw[e]
def gQ   (f:α->j)(xs:List α) lo hi:cut (xs.map f) lo hi=(cut xs lo hi).map f:=by unfold cut;simp_all
def cm   (xs:List α)(n:Nat):cut xs Aa (la (n:Int))=xs.take n:=by
 unfold cut;rw[HT.sIx_none,HT.sIx_nat,Xy,Nat.sub_zero,List.take_eq_take_iff]
 lia
def xt   (xs:List α)(n:Nat):cut xs (la (n:Int)) Aa=xs.drop n:=by
 unfold cut;rw[HT.sIx_none,HT.sIx_nat];by_cases h:n<=xs.length
 ·rw[Nat.min_eq_left h,Gu (by simp)]
 ·rw[Nat.min_eq_right (by lia),fq (Db _),fq (by lia),List.take_nil]
def fx_cells      : af (.loc f) (.str "cells") (Wc G f (.dK (Ld c a l t))) Q=Q (.loc c) (Wc G f (.dK (Ld c a l t))):=ix_d wf nQ
def fx_at      : af (.loc f) (.str "at") (Wc G f (.dK (Ld c a l t))) Q=Q (.int a) (Wc G f (.dK (Ld c a l t))):=ix_d wf g_at
def fx_left      : af (.loc f) (.str "left") (Wc G f (.dK (Ld c a l t))) Q=Q (.int l) (Wc G f (.dK (Ld c a l t))):=ix_d wf WL
def fx_turn      : af (.loc f) (.str "turn") (Wc G f (.dK (Ld c a l t))) Q=Q (.int t) (Wc G f (.dK (Ld c a l t))):=ix_d wf BB
def fs_at      : setU (.loc f) (.str "at") (.int x) (Wc G f (.dK (Ld c a l t))) Q=Q (Wc G f (.dK (Ld c x l t))):=by rw[Yv wf,p_at,Xk,dm];exact propext ⟨λh=>h.2,λh=>⟨aw,h⟩⟩
def fs_left      : setU (.loc f) (.str "left") (.int x) (Wc G f (.dK (Ld c a l t))) Q=Q (Wc G f (.dK (Ld c a x t))):=by rw[Yv wf,cN,Xk,dm];exact propext ⟨λh=>h.2,λh=>⟨aw,h⟩⟩
end Z

namespace Y
open PySem L2
noncomputable def nO  : Obj:=⟨.none,Aa,.fields ⟨[]⟩,⟨[]⟩⟩
noncomputable def tO  (v:List Da):Obj:=⟨.type "tuple",Aa,.seq ⟨v⟩ 0,⟨[]⟩⟩
noncomputable def sO  (c:Da)(v:List Da):Obj:=⟨c,Aa,.fields ⟨v⟩,⟨[]⟩⟩
noncomputable def rO  (v:List (Option Da)):Obj:=⟨.type "frame",Aa,.plain,⟨v⟩⟩
noncomputable def gO  (x q:Str)(s:Pa):Obj:=⟨.none,Aa,.func { name:=x,qualname:=q,params:=Di s,body:=.stmts (Df s),scope:=uf s,globals:=0,closure:=[],defaults:=.none,kwdefaults:=.none },⟨[]⟩⟩
noncomputable def fO  (x q:Str)(s:Pa)(m:Da)(c:Nat):Obj:=⟨.type "function",Aa,.func (Mi x q (Di s) (Df s) (uf s) .none .none .none m Aa (.ref c) .none),⟨[]⟩⟩
noncomputable def kO  (j x q:Str)(t:Nat)(l a f:Int)(r:Nat)(b:Bool)(u v w:Da)(z:Nat):Obj:=⟨.type "code",Aa,.fields ⟨[.str x t,.str q (t+1),.str j (t+2),.int l 0,.int a 0,.int 0 0,.int 0 0,.int f 0,.ref r,.bool b,.int 181 0,.ref (r+1),.none,u,v,w,.int z 0,.int l 0,.str j (z+1)]⟩,⟨[]⟩⟩
noncomputable def dE  (P:Vb)(x:Str)(t:Nat)(v:Da):vj:=⟨Va.keyHash P x,.str x t,v⟩
noncomputable def dO  (e:List vj)(n:Nat):Obj:=⟨.type "dict",Aa,.dict ⟨e⟩ n,⟨[]⟩⟩
noncomputable def cO  (x:Str)(b m:List Da)(n:Nat)(u:List Da)(s:List (Option Da)):Obj:=⟨.type "type",Aa,.cls { name:=x,bases:=b,mro:=m,ns:=n,qualname:=x,subclasses:=u },⟨s⟩⟩
def tE  : Obj:=tO []
noncomputable abbrev bE  : Fi:=.nil
noncomputable abbrev bN  (o:Obj)(l r:Fi):Fi:=.node o l r
noncomputable abbrev bL  (o:Obj):Fi:=.node o .nil .nil
end Y
namespace Z
open PySem L2
noncomputable def argB  (ps:List Str)(a:Arguments):Bool:=a.posonlyargs.isEmpty&&(a.args.map (·.arg)==ps)&&a.vararg.isNone&&a.kwonlyargs.isEmpty&&a.kwarg.isNone
def vN  : ∀{ps:List Str} {us:List Da},us.length=ps.length->ps.Nodup->(ps.filterMap λn=>((ps.zip us).lookup n).map (n,·))=ps.zip us/\∀n∈ps,((ps.zip us).lookup n).isSome=ma:=by
 have y:∀{l:List Str} {vs:List Da} {L:List (Str×Da)},vs.length=l.length->l.Nodup->(∀(i:Nat) n v,l[i]?=la n->vs[i]?=la v->L.lookup n=la v)->(l.filterMap λn=>(L.lookup n).map (n,·))=l.zip vs/\∀n∈l,(L.lookup n).isSome=ma:=by
  intro l
  induction l with
  |nil=>simp_all
  |cons x l q=>
   intro vs L j f hL;obtain _|⟨v,vs⟩:=vs
   ·cases j
   ·have h0:=hL 0 x v rfl rfl;obtain⟨F,J⟩:=q (L:=L) (vs:=vs) (by simp_all) (Rb.mp f).2 λi n v a b=>hL (i+1) n v a b
    refine⟨?_,λn I=>?_⟩
    ·simp_all
    grind
 intro ps us j f;refine y j f λi n v a b=>?_;have z:(ps.zip us)[i]?=la (n,v):=List.getElem?_zip_eq_some.mpr ⟨a,b⟩;have:∀(l:List (Str×Da)),(l.map (·.1)).Nodup->(n,v)∈l->l.lookup n=la v:=by
  intro l
  induction l with
  |nil=>simp_all
  |cons p l q=>
   intro f h;obtain⟨m,u⟩:=p;rw[El];by_cases e:n=m
   ·subst e;rw[beq_self_eq_true];rcases Ic.mp h with h|h
    ·cases h;rfl
    ·exact absurd (Ea.mpr ⟨_,h,rfl⟩) (Rb.mp f).1
   ·rw[beq_eq_false_iff_ne.mpr e];rcases Ic.mp h with h|h
    ·cases h;exact absurd rfl e
    ·exact q (Rb.mp f).2 h
 exact this _ (by rw[List.map_fst_zip (by lia)];exact f) (Cd z)
def wC    (h:argB ps a=ma)(O:ps.Nodup){kV j F:Da}(y:us.length=ps.length) :
  Tj (Mi x q a b sc .none kV j F an I ct) ⟨us,[]⟩=pure (ps.zip us):=by
 obtain⟨po,f,va,ko,kd,ka,df⟩:=a;unfold argB at h;simp only[Hf,OH,Option.isNone_iff_eq_none,beq_iff_eq]at h;obtain⟨⟨⟨⟨rfl,rfl⟩,rfl⟩,rfl⟩,rfl⟩:=h;obtain⟨z,Y⟩:=vN y O;have J:(List.filter (λn=>(uy n ((f.map (·.arg)).zip us)).isNone) (f.map (·.arg)))=[]:=List.filter_eq_nil_iff.mpr λn Z=>by
  have:=Y n Z
  simp_all
 have e0:seqItems? ke=pure Aa:=rfl;unfold Tj;dsimp only;rw[e0];generalize f.map (·.arg)=ns at *;have R:ns.take (ns.length-0)=ns:=by simp_all
 simp[y,z,J,R]

abbrev FL:=List (Ca×Ca×Da)
noncomputable def refB  (v:Option (Option Da))(f:Ca):Bool:=match v with
 |some (la (.ref a))=>a==f
 |_=>ua
def zO    (h:refB v f=ma):v=la (la (.ref f)):=by
 unfold refB at h
 lia
noncomputable def dynB  (T:qf)(K:Lb):Nat->FL->List Fun->List Pa->Bool
 |_,[],[],[]=>ma
 |i,x::fs,d::ds,s::ss=>refB (ol K Ue d.name) x.1&&Up K (.ref x.2.1) d.name&&(match T.ns.lookup i with|none=>ma|some z=>Ew K (.ref x.2.1) z.P)&&argB d.ps (Di s)&&dynB T K (i+1) fs ds ss
 |_,_,_,_=>ua
noncomputable def Vl  : FL->List Fun->List Pa->List (Option Obj)
 |x::fs,d::ds,s::ss=>la (Y.fO d.name d.name s x.2.2 x.2.1)::Vl fs ds ss
 |_,_,_=>[]
theorem Zv  {T:qf}:∀{i } {fs } {f } {ss },dynB T K i fs f ss=ma->fs.map (λx=>K.lookup x.1)=Vl fs f ss->∀{n } {d } {s },f[n]?=la d->ss[n]?=la s->
  ∃x:Ca×Ca×Da,ol K Ue d.name=la (la (.ref x.1))/\K.lookup x.1=la (Y.fO d.name d.name s x.2.2 x.2.1)/\Up K (.ref x.2.1) d.name=ma/\(∀z,T.ns.lookup (i+n)=la z->Ew K (.ref x.2.1) z.P=ma)/\argB d.ps (Di s)=ma
 |_,_,[],_,_,_,_,_,_,e,_=>by simp at e
 |_,_,_::_,[],_,_,_,_,_,_,e=>by simp at e
 |_,[],_::_,_::_,h,_,_,_,_,_,_=>by unfold dynB at h;cases h
 |i,x::fs,d::f,s::ss,h,g,n,d',s',e1,e2=>by
  unfold dynB at h;simp only[Hf]at h;obtain⟨⟨⟨⟨J,I⟩,O⟩,q⟩,F⟩:=h;unfold Vl at g;rw[Le]at g;injection g with g1 g2
  cases n with
  |zero=>
   cases(Zc e1:d=d');cases(Zc e2:s=s');exact⟨x,zO J,g1,I,λz j=>by lia,q⟩
  |succ n=>
   obtain⟨y,q1,q2,q3,q4,q5⟩:=Zv F g2 (n:=n) e1 e2;exact⟨y,q1,q2,q3,λz j=>q4 z (by rw[show i+1+n=i+(n+1) by lia];exact j),q5⟩
def jB    (h:Ql N ps f=ma):ps.Nodup:=by
 have S:=gB h;rw[<- S.pre];exact S.nd.sublist (oI _ _)
def QC        (h:K.lookup f=la ⟨c,d,.func j,q⟩):Vp K (.ref f)=ma:=by
 unfold Vp
 lia
section
variable {T:qf}{K:Lb}{h:Xa}{mg:Str->Option Da}
def PL   {sts:List Pa}(X:K.In h)(G:h.Ns Ue mg)(j:zi T 0 T.funs sts=ma)(f:fj T sts 0 T.funs sts)(hB:dynB T K 0 fs T.funs sts=ma)(hL:fs.map (λx=>K.lookup x.1)=Vl fs T.funs sts):kA T K mg sts:=by
 intro n d st y q;obtain⟨x,q1,q2,q3,q4,q5⟩:=Zv hB hL y q;have F:=AB (st:=st) q2 q3 (QC q2);obtain⟨I,e,J,_⟩:=No j f y;cases q.symm.trans e;exact⟨_,_,F,Qp X G q1,F.binds λ_ _ _ _ _ _ Y O=>wC q5 (jB J) O,λz R=>q4 z (by lia)⟩
def bltB  (K:Lb):Bool:=nj.all λx=>match ol K Ue x with
 |some Aa=>ma
 |_=>ua
def KL  (X:K.In h)(G:h.Ns Ue mg)(f:bltB K=ma):∀x∈nj,mg x=Aa:=λx j=>by
 have:=jl.mp f x j;refine PySem.W.mg_none_of X G ?_
 lia
noncomputable def bp  (K:Lb):List Str->List U->Bool
 |[],[]=>ma
 |x::xs,u::us=>(match u,ol K Ue x with
  |.int i,la (la (.int j _))=>i==j
  |.str i,la (la (.str j _))=>i==j
  |_,_=>ua)&&bp K xs us
 |_,_=>ua
theorem SA  (X:K.In h)(G:h.Ns Ue mg):∀{xs } {us },bp K xs us=ma->∀(n:Nat) x u ,xs[n]?=la x->us[n]?=la u->∃v w,mg x=la w/\RelV v w/\∀H,RU K H u v
 |[],_,_,_,_,_,e,_=>by simp at e
 |_::_,[],_,_,_,_,_,e=>by simp at e
 |x::xs,u::us,hb,n,x',u',e1,e2=>by
  unfold bp at hb;rw[Hf]at hb;cases n with
  |zero=>
   cases(Zc e1:x=x');cases(Zc e2:u=u');have f:=hb.1;split at f
   ·rename_i i j t q;cases eq_of_beq f;exact⟨.int i,_,Qp X G q,⟨_,rfl⟩,λ_=>rfl⟩
   ·rename_i i j t q;cases eq_of_beq f;exact⟨.str i,_,Qp X G q,⟨_,rfl⟩,λ_=>rfl⟩
   lia
  |succ n=>exact SA X G hb.2 n x' u' e1 e2
def mq  (K:Lb):List Nat->Prop
 |[]=>True
 |n::r=>(∃C,XCls K (gK K) (clsN n) (clsF n) C)/\mq K r
theorem DA  : ∀{l },mq K l->∀n∈l,1<=n->∃C,XCls K (gK K) (clsN n) (clsF n) C
 |[],_,_,hn,_=>absurd hn Je
 |m::r,hc,n,hn,h1=>by
  unfold mq at hc;rcases Ic.mp hn with rfl|hn
  ·exact hc.1
  ·exact DA hc.2 n hn h1
def all2  {l:Dz}{sts:List Pa}{d:Fun}(X:K.In h)(G:h.Ns Ue mg)(O:mg "law" = la (.ref fa))(q:zi T 0 T.funs sts=ma)(f:fj T sts 0 T.funs sts)
  (hU:∀t∈tabs,∀t'∈tabs,t.1=t'.1->t=t') (hB:dynB T K 0 fs T.funs sts=ma) (hL:fs.map (λx=>K.lookup x.1)=Vl fs T.funs sts) (hb:bltB K=ma) (hg:bp K T.gn T.gs=ma) (hc:mq K T.cs)
  (hd:T.funs[n]?=la d) (hs:sts[n]?=la st) (hn:T.ns.lookup n=Aa) (z:d.name = "law") (j:d.ps=[("_law_script" : Str)]) :
  ∃Y ,(∀(s:Ia) v ,Lg s Y ⟨[v],[]⟩ [("_law_script",v)])/\∀base ,K.In base->base.Ns Ue mg->BmAt mg base->FnOk l.prog w K mg base (Uf l.prog w) (k+2) fa Y ["_law_script"] (Vh K (db T k n)):=by
 have y:=PL X G q f hB hL;obtain⟨x,q1,q2,q3,q4,q5⟩:=Zv hB hL hd hs;obtain⟨Z,e,R,_⟩:=No q f hd;cases hs.symm.trans e;have F:=AB (st:=st) q2 q3 (QC q2);rw[z]at q1;cases O.symm.trans (Qp X G q1);refine⟨Mi d.name d.name (Di st) (Df st) (uf st) .none .none .none x.2.2 Aa (.ref x.2.1) .none,λs v=>.of_eq ((wC (us:=[v]) q5 (jB R) (by rw[j];rfl)).trans (by rw[j];rfl)),λbase I _ J=>?_⟩
 rw[<- j];exact MT F q f y hU I J (KL X G hb) (SA X G hg) (DA hc) (zN X G) hd hs hn
end

section
local macro_rules
 |`(#[])=>`(.nil)
 |`(#[$x])=>`(.cons $x .nil)
 |`(#[$x,$xs,*])=>`(.cons $x #[$xs,*])
noncomputable abbrev ZC  : Nat:=0
noncomputable abbrev jU  : Nat:=1
noncomputable abbrev tF  : Nat:=2
noncomputable abbrev Ox  : Nat:=3
noncomputable abbrev sx  : Nat:=4
noncomputable abbrev RF  : Nat:=5
noncomputable abbrev fE  : Nat:=6
noncomputable abbrev GE  : Nat:=7
noncomputable abbrev QF  : Nat:=8
noncomputable abbrev Nt  : Nat:=9
noncomputable abbrev Lx  : Nat:=10
noncomputable abbrev eG  : Nat:=11
noncomputable abbrev oG  : Nat:=12
noncomputable abbrev KG  : Nat:=13
noncomputable abbrev xx  : Nat:=14
noncomputable abbrev tx  : Nat:=15
noncomputable abbrev eE  : Nat:=16
noncomputable abbrev gG  : Nat:=17
noncomputable abbrev SF  : Nat:=18
noncomputable abbrev TF  : Nat:=19
noncomputable abbrev YC  : Nat:=20
noncomputable abbrev Ps  : Nat:=21
noncomputable abbrev VG  : Nat:=22
noncomputable abbrev KE  : Nat:=23
noncomputable abbrev Tc  : Nat:=24
noncomputable abbrev Hx  : Nat:=25
noncomputable abbrev lm  : Nat:=26
noncomputable abbrev NE  : Nat:=27
noncomputable abbrev Nx  : Nat:=28
noncomputable abbrev ME  : Nat:=29
noncomputable abbrev EE  : Nat:=30
noncomputable abbrev zE  : Nat:=31
noncomputable abbrev Jt  : Nat:=32
noncomputable abbrev Yo  : Nat:=33
noncomputable abbrev Ix  : Nat:=34
noncomputable abbrev ZD  : Nat:=35
noncomputable abbrev rG  : Nat:=36
noncomputable abbrev Zk  : Nat:=37
noncomputable abbrev Ht  : Nat:=38
noncomputable abbrev qG  : Nat:=39
noncomputable abbrev OE  : Nat:=40
noncomputable abbrev JE  : Nat:=41
noncomputable abbrev FE  : Nat:=42
noncomputable abbrev BE  : Nat:=43
noncomputable abbrev aE  : Nat:=44
noncomputable abbrev pG  : Nat:=45
noncomputable abbrev DE  : Nat:=46
noncomputable abbrev XG  : Nat:=47
noncomputable abbrev fG  : Nat:=48
noncomputable abbrev AE  : Nat:=49
noncomputable abbrev Ot  : Nat:=50
noncomputable abbrev Wv  : Nat:=51
noncomputable def wD  : Fun:=⟨"top_of",["plan", "period", "s"],["plan", "period", "s", "word", "one", "other", "low", "high"],#[.asg (.t #[.n 3,.n 4,.n 5,.n 6,.n 7]) (.ix (.ix (.v 0) (.int 1)) (.v 2)),.ret (.ife (.cmp .Eq (.v 3) (.str "span")) (.v 7) (.bin .Sub (.v 1) (.v 7)))]⟩
def xE  : Fun:=⟨"window_of",["plan", "period", "s"],["plan", "period", "s", "low"],#[.asg (.n 3) (.ix (.ix (.ix (.v 0) (.int 1)) (.v 2)) (.int 3)),(.ret (.tup #[.v 3,(.blt .min #[.call ZC #[.v 0,.v 1,.v 2],.bin .Sub (.bin .Add (.v 3) (.v 1)) (.int 1)])]))]⟩
def MF  : Fun:=⟨"windows_of",["plan", "period"],["plan", "period"],#[.ret (.mkT (.lc [Aa,la 0,la 1] (.n 0) (.r1 (.blt .len #[.ix (.v 0) (.int 1)])) .nil (.call jU #[.v 1,.v 2,.v 0])))]⟩
noncomputable def GF  : Fun:=⟨"with_window",["windows", "s", "window"],["windows", "s", "window"],#[.ret (.bin .Add (.bin .Add (.sl (.v 0) .no (.so (.v 1))) (.tup #[.v 2])) (.sl (.v 0) (.so (.bin .Add (.v 1) (.int 1))) .no))]⟩
noncomputable def FD  : Fun:=⟨"ends_of",["plan", "entry"],["plan", "entry", "s", "way", "word", "one", "other", "low", "high"],#[.ite (.cmp .Eq (.blt .len #[.v 1]) (.int 3)) #[.ret (.tup #[.ix (.v 1) (.int 1),.ix (.v 1) (.int 2)])] .nil,.asg (.t #[.n 2,.n 3]) (.v 1),.asg (.t #[.n 4,.n 5,.n 6,.n 7,.n 8]) (.ix (.ix (.v 0) (.int 1)) (.v 2)),.ret (.ife (.cmp .Eq (.v 3) (.int 1)) (.tup #[.v 5,.v 6]) (.tup #[.v 6,.v 5]))]⟩
noncomputable def Fx  : Fun:=⟨"entry_sums",["beats", "windows", "entry"],["beats", "windows", "entry", "apart", "s", "way", "least", "most"],#[.ite (.cmp .Eq (.blt .len #[.v 2]) (.int 3)) #[.asg (.n 3) (.bin .Sub (.ix (.v 0) (.ix (.v 2) (.int 2))) (.ix (.v 0) (.ix (.v 2) (.int 1)))),.ret (.tup #[.v 3,.v 3])] .nil,.asg (.t #[.n 4,.n 5]) (.v 2),.asg (.t #[.n 6,.n 7]) (.ix (.v 1) (.v 4)),.ret (.ife (.cmp .Eq (.v 5) (.int 1)) (.tup #[.v 6,.v 7]) (.tup #[.neg (.v 7),.neg (.v 6)]))]⟩
def KD  : Fun:=⟨"sums_of",["plan", "period", "beats", "windows", "ring"],["plan", "period", "beats", "windows", "ring", "sums"],#[.asgC 5 (.lc [Aa,la 2,la 3] (.n 0) (.e (.v 4)) .nil (.call RF #[.v 1,.v 2,.v 0])),(.ret (.tup #[.blt .sum #[.lc [Aa,Aa] (.t #[.n 0,.n 1]) (.e (.v 5)) .nil (.v 0)],.blt .sum #[.lc [Aa,Aa] (.t #[.n 0,.n 1]) (.e (.v 5)) .nil (.v 1)]]))]⟩
def wE  : Fun:=⟨"ring_bars",["plan", "period", "beats", "windows", "ring"],["plan", "period", "beats", "windows", "ring", "least", "most"],#[.asg (.t #[.n 5,.n 6]) (.call fE #[.v 0,.v 1,.v 2,.v 3,.v 4]),.ret (.cmp .Lt (.bin .Mult (.bin .FloorDiv (.v 6) (.v 1)) (.v 1)) (.v 5))]⟩
noncomputable def IF  : Fun:=⟨"entries_to",["plan", "work"],["plan", "work", "found", "s", "word", "one", "other", "low", "high"],#[.asg (.n 2) (.lst .nil),(.fr (.t #[.n 3,.t #[.n 4,.n 5,.n 6,.n 7,.n 8]]) (.enum (.ix (.v 0) (.int 1))) #[.ite (.cmp .Eq (.v 6) (.v 1)) #[.expr (.meth .append (.v 2) #[.tup #[.v 3,.int 1,.v 5]])] .nil,.ite (.cmp .Eq (.v 5) (.v 1)) #[.expr (.meth .append (.v 2) #[.tup #[.v 3,.neg (.int 1),.v 6]])] .nil]),.ret (.v 2)]⟩
def rH  : Ss:=#[(.wh (.cmp .Lt (.v 4) (.blt .len #[.v 3])) #[(.fr (.t #[.n 5,.n 6,.n 7]) (.e (.call QF #[.v 0,.ix (.v 3) (.v 4)])) #[(.ite (.cmp .NotIn (.v 7) (.v 3)) #[.setS (.v 2) (.v 7) (.tup #[.v 5,.v 6]),.expr (.meth .append (.v 3) #[.v 7])] .nil)]),.aug 4 .Add (.int 1)]),.ret (.v 2)]
def CF  : Fun:=⟨"forest_from",["plan", "roots"],["plan", "roots", "forest", "reached", "at", "s", "way", "start"],(.cons (.asg (.n 2) (.dic .nil)) (.cons (.asg (.n 3) (.mkL (.v 1))) (.cons (.asg (.n 4) (.int 0)) rH)))⟩
def oH  : Ss:=#[(.wh (.cmp .In (.v 2) (.v 1)) #[.expr (.meth .append (.v 3) #[.ix (.v 1) (.v 2)]),.asg (.n 2) (.ix (.call sx #[.v 0,.ix (.v 1) (.v 2)]) (.int 1))]),.ret (.tup #[.v 3,.v 2])]
def cG  : Fun:=⟨"path_to_root",["plan", "forest", "work"],["plan", "forest", "work", "path"],(.cons (.asg (.n 3) (.lst .nil)) oH)⟩
noncomputable def Zx  : Ss:=#[.ret (.mkT (.bin .Add (.bin .Add (.bin .Add (.lst #[.tup #[.v 2,.int 1]]) (.v 8)) (.v 12)) (.lc [Aa,Aa] (.t #[.n 0,.n 1]) (.e (.rev (.v 10) (.neg (.int 1)))) .nil (.tup #[.v 0,.neg (.v 1)]))))]
def Mx  : Ss:=(.cons (.asg (.n 12) (.ife (.cmp .Eq (.v 9) (.v 11)) (.lst .nil) (.lst #[.tup #[.str "home",.v 9,.v 11]]))) Zx)
def aH  : Ss:=(.cons (.wh (.bop ma (.v 8) #[.v 10,.cmp .Eq (.ix (.v 8) (.neg (.int 1))) (.ix (.v 10) (.neg (.int 1)))]) #[.expr (.meth .pop (.v 8) .nil),.expr (.meth .pop (.v 10) .nil)]) Mx)
def ZG  : Ss:=(.cons (.asg (.t #[.n 8,.n 9]) (.call Lx #[.v 0,.v 1,.v 5])) (.cons (.asg (.t #[.n 10,.n 11]) (.call Lx #[.v 0,.v 1,.v 4])) aH))
def aG  : Fun:=⟨"closing_ring",["plan", "forest", "s"],["plan", "forest", "s", "word", "one", "other", "low", "high", "there", "there_root", "back", "back_root", "homes"],(.cons (.asg (.t #[.n 3,.n 4,.n 5,.n 6,.n 7]) (.ix (.ix (.v 0) (.int 1)) (.v 2))) ZG)⟩
def mG  : Fun:=⟨"closing_rings",["plan", "part", "forest"],["plan", "part", "forest", "used", "spans"],#[.asg (.n 3) (.lc [Aa,Aa] (.t #[.n 0,.n 1]) (.dv (.v 2)) .nil (.v 0)),.asgC 4 (.lc [Aa,la 0,la 1,la 3] (.n 0) (.r1 (.blt .len #[.ix (.v 0) (.int 1)])) #[.bop ma (.cmp .In (.ix (.ix (.ix (.v 1) (.int 1)) (.v 0)) (.int 1)) (.v 2)) #[.cmp .NotIn (.v 0) (.v 3)]] (.v 0)),.ret (.lc [Aa,la 0,la 2] (.n 0) (.e (.v 4)) .nil (.call eG #[.v 1,.v 2,.v 0]))]⟩
def BF  : Fun:=⟨"beats_along",["plan", "period", "beats", "forest", "lengths"],["plan", "period", "beats", "forest", "lengths", "found", "work", "s", "way", "nearer"],#[.asg (.n 5) (.mkL (.v 2)),(.fr (.t #[.n 6,.t #[.n 7,.n 8]]) (.di (.v 3)) #[.asg (.n 9) (.ix (.call sx #[.v 0,.tup #[.v 7,.v 8]]) (.int 1)),.setS (.v 5) (.v 6) (.bin .Mod (.bin .Sub (.ix (.v 5) (.v 9)) (.bin .Mult (.v 8) (.ix (.v 4) (.v 7)))) (.v 1))]),.ret (.mkT (.v 5))]⟩
def AF  : Ss:=#[(.fr (.n 3) (.r1 (.blt .len #[.ix (.v 0) (.int 0)])) #[(.ite (.cmp .NotIn (.v 3) (.v 2)) #[.asg (.n 4) (.blt .sorted #[.bin .Add (.lst #[.v 3]) (.mkD (.call Nt #[.v 0,.lst #[.v 3]]))]),.expr (.meth .extend (.v 2) #[.v 4]),.expr (.meth .append (.v 1) #[.mkT (.v 4)])] .nil)]),.ret (.mkT (.v 1))]
def rF  : Fun:=⟨"parts_of",["plan"],["plan", "parts", "placed", "work", "part"],(.cons (.asg (.n 1) (.lst .nil)) (.cons (.asg (.n 2) (.lst .nil)) AF))⟩
noncomputable def JD  : Fun:=⟨"staying",["part", "stays"],["part", "stays"],#[.ret (.lc [Aa,la 1] (.n 0) (.e (.v 0)) #[.cmp .In (.v 0) (.v 1)] (.v 0))]⟩
noncomputable def ZF  : Ss:=#[.fr (.n 5) (.r1 (.bin .Sub (.bin .Sub (.blt .len #[.ix (.v 0) (.int 0)]) (.blt .len #[.v 2])) (.blt .len #[.v 3]))) #[.aug 4 .Mult (.v 1)],.ret (.v 4)]
def YF  : Ss:=(.cons (.asg (.n 4) (.int 1)) ZF)
def ID  : Fun:=⟨"size_of",["plan", "period", "stays"],["plan", "period", "stays", "free", "size", "turn"],(.cons (.asgC 3 (.lc [Aa,la 2] (.n 0) (.e (.call xx #[.v 0])) #[.not (.call tx #[.v 0,.v 1])] (.v 0))) YF)⟩
def dG  : Fun:=⟨"refuse_great",["plan", "period", "stays"],["plan", "period", "stays"],#[.ite (.cmp .Gt (.call eE #[.v 0,.v 1,.v 2]) (.g 0)) #[.never] .nil]⟩
noncomputable def JF  : Fun:=⟨"first_void",["windows"],["windows", "s", "least", "most"],#[.fr (.t #[.n 1,.t #[.n 2,.n 3]]) (.enum (.v 0)) #[.ite (.cmp .Lt (.v 3) (.v 2)) #[.ret (.v 1)] .nil],.ret .non]⟩
noncomputable def KF  : Fun:=⟨"first_wide",["forest", "windows"],["forest", "windows", "s", "way", "least", "most"],#[(.fr (.t #[.n 2,.n 3]) (.dv (.v 0)) #[.asg (.t #[.n 4,.n 5]) (.ix (.v 1) (.v 2)),.ite (.cmp .Lt (.v 4) (.v 5)) #[.ret (.v 2)] .nil]),.ret .non]⟩
def vD  : Fun:=⟨"halved",["windows", "s"],["windows", "s", "least", "most", "cut"],#[.asg (.t #[.n 2,.n 3]) (.ix (.v 0) (.v 1)),.asg (.n 4) (.bin .FloorDiv (.bin .Add (.v 2) (.v 3)) (.int 2)),(.ret (.tup #[.v 4,(.tup #[.call Ox #[.v 0,.v 1,.tup #[.v 2,.v 4]],.call Ox #[.v 0,.v 1,.tup #[.bin .Add (.v 4) (.int 1),.v 3]]])]))]⟩
noncomputable def TD  : Ss:=#[.ret (.tup #[.str "none",.tup #[.str "split",.v 7,.v 8,.ix (.v 10) (.int 0),.ix (.v 10) (.int 1)]])]
def SD  : Ss:=(.cons (.fr (.n 11) (.e (.v 9)) #[.asg (.t #[.n 12,.n 13]) (.call Ps #[.v 0,.v 1,.v 2,.v 3,.v 4,.v 11]),.ite (.cmp .Eq (.v 12) (.str "times")) #[.ret (.tup #[.str "times",.v 13])] .nil,.expr (.meth .append (.v 10) #[.v 13])]) TD)
def RD  : Ss:=(.cons (.asg (.n 10) (.lst .nil)) SD)
def QD  : Ss:=(.cons (.asg (.t #[.n 8,.n 9]) (.call YC #[.v 5,.v 7])) RD)
def fx  : Ss:=(.cons (.ite (.cmp .Is (.v 7) .non) #[.ret (.tup #[.str "times",.v 5])] .nil) QD)
def PD  : Ss:=(.cons (.asg (.n 7) (.call TF #[.v 3,.v 5])) fx)
def lB  : Fun:=⟨"seek",["plan", "period", "beats", "forest", "rings", "windows"],["plan", "period", "beats", "forest", "rings", "windows", "ring", "s", "cut", "sides", "cases", "side", "word", "found"],(.cons (.fr (.n 6) (.e (.v 4)) #[.ite (.call GE #[.v 0,.v 1,.v 2,.v 5,.v 6]) #[.ret (.tup #[.str "none",.tup #[.str "ring",.v 6]])] .nil]) PD)⟩
noncomputable def BH  : Ss:=#[.ret (.tup #[.str "times",.v 6])]
def Vx  : Ss:=#[(.asg (.t #[.n 9,.n 10]) (.call Ps #[.v 0,.v 1,.v 6,.v 8,.call oG #[.v 0,.v 7,.v 8],.v 4])),.ite (.cmp .Eq (.v 9) (.str "none")) #[.ret (.tup #[.str "none",.v 10])] .nil,.asg (.n 6) (.call KG #[.v 0,.v 1,.v 6,.v 8,.lc [Aa,Aa] (.t #[.n 0,.n 1]) (.e (.v 10)) .nil (.v 0)])]
def Ux  : Ss:=(.cons (.fr (.n 7) (.e (.call xx #[.v 0])) (.cons (.asg (.n 8) (.call Nt #[.v 0,.bop ua (.call tx #[.v 7,.v 3]) #[.sl (.v 7) .no (.so (.int 1))]])) Vx)) BH)
def AH  : Ss:=(.cons (.asg (.n 6) (.mkT (.lc [Aa,la 2,la 3] (.n 0) (.r1 (.blt .len #[.ix (.v 0) (.int 0)])) .nil (.ife (.cmp .In (.v 0) (.v 2)) (.ix (.v 1) (.v 0)) (.int 0))))) Ux)
def Tx  : Ss:=(.cons (.ite (.cmp .IsNot (.v 5) .non) #[(.ret (.tup #[.str "none",(.tup #[.str "ring",(.tup #[.tup #[.v 5,.int 1],.tup #[.v 5,.neg (.int 1)]])])]))] .nil) AH)
def zH  : Ss:=(.cons (.asg (.n 5) (.call SF #[.v 4])) Tx)
def yH  : Ss:=(.cons (.asg (.n 4) (.call tF #[.v 0,.v 1])) zH)
def UG  : Fun:=⟨"times_or_none_with",["plan", "period", "beats", "stays"],["plan", "period", "beats", "stays", "windows", "void", "times", "part", "forest", "word", "found"],(.cons (.expr (.call gG #[.v 0,.v 1,.v 3])) yH)⟩
noncomputable def nF  : Fun:=⟨"_law_feed",["_law_script"],["_law_script"],#[(.ret (.dic #[.str "cells",.bin .Add (.mkL (.sl (.v 0) .no (.so (.int 63)))) (.bin .Mult (.lst #[.int 0]) (.blt .int #[.cmp .Eq (.blt .len #[.v 0]) (.int 0)])),.str "at",.int 0,.str "left",.int 0,.str "turn",.int 0]))]⟩
noncomputable def mF  : Fun:=⟨"_law_draw",["_law_feed_here", "_law_many"],["_law_feed_here", "_law_many", "_law_cell", "_law_mixed", "_law_found"],#[.setS (.v 0) (.str "turn") (.bin .Add (.ix (.v 0) (.str "turn")) (.int 1)),(.ite (.cmp .Eq (.ix (.v 0) (.str "left")) (.int 0)) #[.asg (.n 2) (.ix (.ix (.v 0) (.str "cells")) (.bin .Mod (.ix (.v 0) (.str "at")) (.blt .len #[.ix (.v 0) (.str "cells")]))),.setS (.v 0) (.str "at") (.bin .Add (.ix (.v 0) (.str "at")) (.int 1)),.ite (.cmp .Lt (.v 2) (.bin .Pow (.int 10) (.int 18))) #[.asg (.n 3) (.bin .Mod (.bin .Mult (.bin .Add (.bin .Mod (.v 2) (.int 2147483629)) (.bin .Mult (.int 1019) (.ix (.v 0) (.str "turn")))) (.int 48271)) (.int 2147483647)),.asg (.n 3) (.bin .Mod (.bin .Mult (.bin .Add (.bin .FloorDiv (.v 3) (.int 13)) (.bin .Mult (.int 43) (.ix (.v 0) (.str "turn")))) (.int 69621)) (.int 2147483587)),.ret (.bin .Mod (.bin .FloorDiv (.v 3) (.int 11)) (.v 1))] .nil,.setS (.v 0) (.str "left") (.v 2)] .nil),.asg (.n 4) (.bin .Mod (.ix (.v 0) (.str "left")) (.v 1)),.setS (.v 0) (.str "left") (.bin .FloorDiv (.ix (.v 0) (.str "left")) (.v 1)),.ret (.v 4)]⟩
def eF  : Fun:=⟨"_law_names",["_law_feed_here", "_law_many"],["_law_feed_here", "_law_many", "_law_some", "_law_first", "_law_step"],#[.asg (.n 2) (.lst #[.str "a",.str "ab",.str "abc",.str "b",.str "ba",.str "works",.str "span",.str "apart",.str "at",.str "none",.str "hold",.str "zzzzzzzz",.str "z",.str "o",.str "find"]),.asg (.n 2) (.bin .Add (.v 2) (.lst #[.str "late",.str "n"])),.asg (.n 3) (.call Tc #[.v 0,.int 17]),.asg (.n 4) (.bin .Add (.int 1) (.call Tc #[.v 0,.int 16])),.ret (.mkT (.lc [Aa,la 2,la 3,la 4] (.n 0) (.r1 (.v 1)) .nil (.ix (.v 1) (.bin .Mod (.bin .Add (.v 2) (.bin .Mult (.v 3) (.v 0))) (.int 17)))))]⟩
def LF  : Fun:=⟨"_law_number",["_law_feed_here", "_law_cycle"],["_law_feed_here", "_law_cycle"],#[(.ret (.ix (.lst #[.int 0,.call Tc #[.v 0,.v 1],.call Tc #[.v 0,.v 1],.call Tc #[.v 0,.bin .Add (.bin .Mult (.int 3) (.v 1)) (.int 1)]]) (.call Tc #[.v 0,.int 4])))]⟩
def pF  : Fun:=⟨"_law_span",["_law_feed_here", "_law_works", "_law_cycle"],["_law_feed_here", "_law_works", "_law_cycle", "_law_one", "_law_other", "_law_low", "_law_wide"],#[(.par [3,4] #[.call Tc #[.v 0,.v 1],.call Tc #[.v 0,.v 1]]),.asg (.n 5) (.call lm #[.v 0,.v 2]),.ite (.cmp .Eq (.call Tc #[.v 0,.int 3]) (.int 0)) #[.ret (.tup #[.str "apart",.v 3,.v 4,.v 5,.call lm #[.v 0,.v 2]])] .nil,(.asg (.n 6) (.ix (.lst #[.int 0,.int 0,.int 1,.call Tc #[.v 0,.v 2],.bin .Sub (.v 2) (.int 1),.bin .Add (.v 2) (.call Tc #[.v 0,.int 5])]) (.call Tc #[.v 0,.int 6]))),.ret (.tup #[.str "span",.v 3,.v 4,.v 5,.bin .Add (.v 5) (.v 6)])]⟩
def DF  : Fun:=⟨"_law_fitting",["_law_feed_here", "_law_beats_here", "_law_cycle"],["_law_feed_here", "_law_beats_here", "_law_cycle", "_law_one", "_law_other", "_law_gap", "_law_low", "_law_length"],#[(.par [3,4] #[.call Tc #[.v 0,.blt .len #[.v 1]],.call Tc #[.v 0,.blt .len #[.v 1]]]),.asg (.n 5) (.bin .Mod (.bin .Sub (.ix (.v 1) (.v 4)) (.ix (.v 1) (.v 3))) (.v 2)),(.ite (.cmp .Eq (.call Tc #[.v 0,.int 3]) (.int 0)) #[(.ret (.tup #[.str "apart",.v 3,.v 4,.call Tc #[.v 0,.bin .Add (.v 5) (.int 1)],.call Tc #[.v 0,.bin .Add (.bin .Sub (.v 2) (.v 5)) (.int 1)]]))] .nil),.asg (.n 6) (.call lm #[.v 0,.v 2]),.asg (.n 7) (.bin .Add (.v 6) (.bin .Mod (.bin .Sub (.v 5) (.v 6)) (.v 2))),.ret (.tup #[.str "span",.v 3,.v 4,.v 6,.bin .Add (.v 7) (.ix (.lst #[.int 0,.int 0,.int 1,.call Tc #[.v 0,.v 2]]) (.call Tc #[.v 0,.int 4]))])]⟩
def Rx  : Ss:=#[(.ite (.bop ma (.cmp2 .Lt .Lt (.int 0) (.blt .len #[.v 5]) (.int 24)) #[.cmp .Eq (.call Tc #[.v 0,.int 6]) (.int 0)]) #[(.expr (.meth .insert (.v 5) #[.call Tc #[.v 0,.bin .Add (.blt .len #[.v 5]) (.int 1)],.ix (.v 5) (.int 0)]))] .nil),(.ret (.tup #[.call Hx #[.v 0,.v 1],.mkT (.v 5)]))]
def oF  : Fun:=⟨"_law_plan",["_law_feed_here", "_law_works", "_law_most", "_law_cycle"],["_law_feed_here", "_law_works", "_law_most", "_law_cycle", "_law_beats_here", "_law_spans", "_law_k"],(.cons (.asgC 4 (.lc [Aa,la 0,la 3] (.n 0) (.r1 (.v 1)) .nil (.call Tc #[.v 1,.v 2]))) (.cons (.asg (.n 5) (.lst .nil)) (.cons (.fr (.n 6) (.r1 (.call Tc #[.v 0,.bin .Add (.v 2) (.int 1)])) #[.ite (.cmp .Gt (.call Tc #[.v 0,.int 5]) (.int 0)) #[.expr (.meth .append (.v 5) #[.call Nx #[.v 0,.v 4,.v 3]])] #[.expr (.meth .append (.v 5) #[.call NE #[.v 0,.v 1,.v 3]])]]) Rx)))⟩
noncomputable def DG  : Ss:=#[(.ret (.tup #[.sl (.tup #[.str "a",.str "ab",.str "b",.str "ba",.str "abc",.str "z",.str "n",.str "at"]) .no (.so (.v 1)),.mkT (.v 5)]))]
def mH  : Ss:=#[.ite (.cmp .Lt (.v 7) (.int 3)) #[.expr (.meth .append (.v 5) #[.call Nx #[.v 0,.v 4,.v 3]])] #[.ite (.cmp .Lt (.v 7) (.int 5)) #[.expr (.meth .append (.v 5) #[.tup #[.str "span",.bin .Mod (.v 6) (.v 1),.v 9,.v 8,.bin .Add (.v 8) (.call Tc #[.v 0,.bin .Add (.int 1) (.bin .FloorDiv (.v 3) (.int 2))])]])] #[.expr (.meth .append (.v 5) #[.tup #[.str "apart",.v 9,.bin .Mod (.v 6) (.v 1),.v 8,.call lm #[.v 0,.v 3]]])]]]
def kF  : Fun:=⟨"_law_tight",["_law_feed_here", "_law_works", "_law_most", "_law_cycle"],["_law_feed_here", "_law_works", "_law_most", "_law_cycle", "_law_beats_here", "_law_spans", "_law_k", "_law_way", "_law_low", "_law_other"],(.cons (.asgC 4 (.lc [Aa,la 0,la 3] (.n 0) (.r1 (.v 1)) .nil (.call Tc #[.v 1,.v 2]))) (.cons (.asg (.n 5) (.lst .nil)) (.cons (.fr (.n 6) (.r1 (.bin .Add (.int 1) (.call Tc #[.v 0,.v 2]))) (.cons (.asg (.n 7) (.call Tc #[.v 0,.int 6])) (.cons (.asg (.n 8) (.call lm #[.v 0,.v 3])) (.cons (.asg (.n 9) (.bin .Mod (.bin .Add (.bin .Add (.v 6) (.int 1)) (.call Tc #[.v 0,.v 1])) (.v 1))) mH)))) DG)))⟩
def bF  : Fun:=⟨"_law_beats",["_law_feed_here", "_law_works", "_law_cycle"],["_law_feed_here", "_law_works", "_law_cycle"],#[.ret (.mkT (.lc [Aa,la 0,la 2] (.n 0) (.r1 (.v 1)) .nil (.call Tc #[.v 1,.v 2])))]⟩
noncomputable def ux  : Fun:=⟨"_law_end",["_law_cycle", "_law_span_here"],["_law_cycle", "_law_span_here", "_law_top"],#[.asg (.n 2) (.ife (.cmp .Eq (.ix (.v 1) (.int 0)) (.str "span")) (.ix (.v 1) (.int 4)) (.bin .Sub (.v 0) (.ix (.v 1) (.int 4)))),.ret (.blt .min #[.v 2,.bin .Sub (.bin .Add (.ix (.v 1) (.int 3)) (.v 0)) (.int 1)])]⟩
def vG  : Ss:=#[(.fr (.n 4) (.r1 (.blt .len #[.ix (.v 0) (.int 1)])) #[.asg (.t #[.n 5,.n 6,.n 7,.n 8,.n 9]) (.ix (.ix (.v 0) (.int 1)) (.v 4)),.asg (.n 10) (.bin .Mod (.bin .Sub (.bin .Sub (.ix (.v 2) (.v 7)) (.ix (.v 2) (.v 6))) (.v 8)) (.v 1)),.ite (.cmp .Gt (.bin .Add (.v 8) (.v 10)) (.call Jt #[.v 1,.ix (.ix (.v 0) (.int 1)) (.v 4)])) #[.expr (.meth .append (.v 3) #[.v 4])] .nil]),.ret (.v 3)]
def dF  : Fun:=⟨"_law_lacks",["_law_plan_here", "_law_cycle", "_law_beats_here"],["_law_plan_here", "_law_cycle", "_law_beats_here", "_law_found", "_law_s", "_law_word", "_law_one", "_law_other", "_law_low", "_law_high", "_law_gap"],(.cons (.asg (.n 3) (.lst .nil)) vG)⟩
noncomputable def xG  : Ss:=#[.ret (.blt .sorted #[.v 1])]
noncomputable def jH  : Ss:=#[.expr (.meth .append (.v 1) #[.blt .sorted #[.v 8]])]
def iH  : Ss:=(.cons (.fr (.n 9) (.e (.v 7)) #[.asg (.n 8) (.bin .Add (.v 8) (.v 9))]) jH)
def gH  : Ss:=(.cons (.asg (.n 8) (.lst .nil)) iH)
def fH  : Ss:=(.cons (.asgC 1 (.lc [Aa,la 7] (.n 0) (.e (.v 1)) #[.cmp .NotIn (.v 0) (.v 1)] (.v 0))) gH)
def dy  : Ss:=(.cons (.asg (.n 7) (.lc [Aa,la 3,la 4] (.n 0) (.e (.v 1)) #[.bop ua (.cmp .In (.v 1) (.v 0)) #[.cmp .In (.v 2) (.v 0)]] (.v 0))) fH)
def wG  : Ss:=(.cons (.fr (.t #[.n 2,.n 3,.n 4,.n 5,.n 6]) (.e (.ix (.v 0) (.int 1))) dy) xG)
def fF  : Fun:=⟨"_law_parts",["_law_plan_here"],["_law_plan_here", "_law_found", "_law_word", "_law_one", "_law_other", "_law_low", "_law_high", "_law_mine", "_law_whole_here", "_law_part"],(.cons (.asgC 1 (.lc [Aa] (.n 0) (.r1 (.blt .len #[.ix (.v 0) (.int 0)])) .nil (.lst #[.v 0]))) wG)⟩
def XF  : Ss:=#[.ret (.lc [Aa,la 0,la 1] (.n 0) (.e (.v 3)) #[.cmp .Eq (.call Yo #[.v 1,.v 2,.v 0]) (.lst .nil)] (.v 0))]
noncomputable def kG  : Ss:=#[.asg (.n 3) (.v 5)]
noncomputable def Wx  : Ss:=#[.expr (.meth .extend (.v 5) #[.lc [Aa,la 6] (.n 0) (.r1 (.ife (.cmp .In (.v 4) (.v 2)) (.int 1) (.v 1))) .nil (.bin .Add (.v 1) (.tup #[.v 0]))])]
def jG  : Ss:=(.cons (.asg (.n 5) (.lst .nil)) (.cons (.fr (.n 6) (.e (.v 3)) Wx) kG))
def WF  : Ss:=(.cons (.fr (.n 4) (.r1 (.blt .len #[.ix (.v 0) (.int 0)])) jG) XF)
def VF  : Ss:=(.cons (.asg (.n 3) (.lst #[.tup .nil])) WF)
def GD  : Fun:=⟨"_law_all",["_law_plan_here", "_law_cycle"],["_law_plan_here", "_law_cycle", "_law_firsts", "_law_found", "_law_work", "_law_longer", "_law_ahead"],(.cons (.asgC 2 (.lc [Aa] (.n 0) (.e (.call Ix #[.v 0])) .nil (.ix (.v 0) (.int 0)))) VF)⟩
def FF  : Fun:=⟨"_law_windows",["_law_plan_here", "_law_cycle"],["_law_plan_here", "_law_cycle"],#[.ret (.mkT (.lc [Aa,la 1] (.n 0) (.e (.ix (.v 0) (.int 1))) .nil (.tup #[.ix (.v 0) (.int 3),.call Jt #[.v 1,.v 0]])))]⟩
noncomputable def uE  : Fun:=⟨"_law_whole",["_law_thing", "_law_first", "_law_last"],["_law_thing", "_law_first", "_law_last"],#[(.ret (.bop ma (.blt .isi #[.v 0,.ty "int"]) #[.not (.blt .isi #[.v 0,.ty "bool"]),.cmp2 .LtE .LtE (.v 1) (.v 0) (.v 2)]))]⟩
noncomputable def xF  : Ss:=#[.asg (.n 3) (.ix (.ix (.v 0) (.int 1)) (.ix (.v 2) (.int 0))),.ret (.ife (.cmp .Eq (.ix (.v 2) (.int 1)) (.int 1)) (.tup #[.ix (.v 3) (.int 1),.ix (.v 3) (.int 2)]) (.tup #[.ix (.v 3) (.int 2),.ix (.v 3) (.int 1)]))]
def wF  : Ss:=(.cons (.ite (.bop ua (.not (.call Zk #[.ix (.v 2) (.int 0),.int 0,.bin .Sub (.blt .len #[.ix (.v 0) (.int 1)]) (.int 1)])) #[.not (.call Zk #[.ix (.v 2) (.int 1),.neg (.int 1),.int 1]),.cmp .Eq (.ix (.v 2) (.int 1)) (.int 0)]) #[.ret .non] .nil) xF)
def Qx  : Ss:=(.cons (.ite (.cmp .Eq (.blt .len #[.v 2]) (.int 3)) #[.ite (.bop ua (.not (.blt .isi #[.ix (.v 2) (.int 0),.ty "str"])) #[.cmp .NotEq (.ix (.v 2) (.int 0)) (.str "home")]) #[.ret .non] .nil,.ite (.cmp .In (.bl ua) (.lc [Aa,la 1] (.n 0) (.e (.sl (.v 2) (.so (.int 1)) .no)) .nil (.bop ma (.call Zk #[.v 0,.int 0,.int 7]) #[.cmp .In (.v 0) (.v 1)]))) #[.ret .non] .nil,.ret (.sl (.v 2) (.so (.int 1)) .no)] .nil) wF)
def wx  : Fun:=⟨"_law_ends",["_law_plan_here", "_law_stays_here", "_law_entry"],["_law_plan_here", "_law_stays_here", "_law_entry", "_law_span_here"],(.cons (.ite (.bop ua (.not (.blt .isi #[.v 2,.ty "tuple"])) #[.cmp .NotIn (.blt .len #[.v 2]) (.tup #[.int 2,.int 3])]) #[.ret .non] .nil) Qx)⟩
noncomputable def uH  : Ss:=#[.ret (.cmp .Eq (.lc [Aa,la 3] (.n 0) (.r1 (.blt .len #[.v 3])) #[.cmp .NotEq (.ix (.ix (.v 1) (.bin .Sub (.v 0) (.int 1))) (.int 1)) (.ix (.ix (.v 1) (.v 0)) (.int 0))] (.v 0)) (.lst .nil))]
def tH  : Ss:=(.cons (.ite (.cmp .In .non (.v 3)) #[.ret (.bl ua)] .nil) uH)
def sH  : Ss:=(.cons (.asg (.n 3) (.lc [Aa,la 0,la 1] (.n 0) (.e (.v 2)) .nil (.call Ht #[.v 1,.v 2,.v 0]))) tH)
def EF  : Fun:=⟨"_law_is_ring",["_law_plan_here", "_law_stays_here", "_law_thing"],["_law_plan_here", "_law_stays_here", "_law_thing", "_law_spots"],(.cons (.ite (.bop ua (.not (.blt .isi #[.v 2,.ty "tuple"])) #[.not (.cmp2 .LtE .LtE (.int 1) (.blt .len #[.v 2]) (.int 60))]) #[.ret (.bl ua)] .nil) sH)⟩
noncomputable def zF  : Ss:=#[.ret (.tup #[.v 3,.v 4])]
def yF  : Ss:=(.cons (.fr (.n 5) (.e (.v 2)) #[.ite (.cmp .Eq (.blt .len #[.v 5]) (.int 3)) #[.asg (.n 3) (.bin .Sub (.bin .Add (.v 3) (.ix (.v 0) (.ix (.v 5) (.int 2)))) (.ix (.v 0) (.ix (.v 5) (.int 1)))),.asg (.n 4) (.bin .Sub (.bin .Add (.v 4) (.ix (.v 0) (.ix (.v 5) (.int 2)))) (.ix (.v 0) (.ix (.v 5) (.int 1))))] #[.ite (.cmp .Eq (.ix (.v 5) (.int 1)) (.int 1)) #[.asg (.n 3) (.bin .Add (.v 3) (.ix (.ix (.v 1) (.ix (.v 5) (.int 0))) (.int 0))),.asg (.n 4) (.bin .Add (.v 4) (.ix (.ix (.v 1) (.ix (.v 5) (.int 0))) (.int 1)))] #[.asg (.n 3) (.bin .Sub (.v 3) (.ix (.ix (.v 1) (.ix (.v 5) (.int 0))) (.int 1))),.asg (.n 4) (.bin .Sub (.v 4) (.ix (.ix (.v 1) (.ix (.v 5) (.int 0))) (.int 0)))]]]) zF)
def qF  : Fun:=⟨"_law_sums",["_law_beats_here", "_law_windows_here", "_law_ring"],["_law_beats_here", "_law_windows_here", "_law_ring", "_law_least", "_law_most", "_law_entry"],(.cons (.asg (.n 3) (.int 0)) (.cons (.asg (.n 4) (.int 0)) yF))⟩
noncomputable def lF  : Fun:=⟨"_law_bars",["_law_cycle", "_law_sums_here"],["_law_cycle", "_law_sums_here", "_law_least", "_law_most"],#[.asg (.t #[.n 2,.n 3]) (.v 1),.ret (.cmp .Lt (.bin .Mult (.bin .FloorDiv (.v 3) (.v 0)) (.v 0)) (.v 2))]⟩
noncomputable def FG  : Ss:=#[.ret .non]
noncomputable def jy  : Ss:=#[.asg (.n 6) (.bin .Add (.v 6) (.int 1))]
def iy  : Ss:=(.cons (.ite (.cmp .Eq (.ix (.v 7) (.int 0)) (.str "ring")) #[.ite (.not (.call qG #[.v 0,.v 3,.ix (.v 7) (.int 1)])) #[.ret (.tup #[.str "ring",.v 6])] .nil,.ite (.not (.call JE #[.v 1,.call OE #[.v 2,.v 8,.ix (.v 7) (.int 1)]])) #[.ret (.tup #[.str "bar",.v 6])] .nil] #[.par [9,10] #[.ix (.v 7) (.int 1),.ix (.v 7) (.int 2)],.ite (.not (.call Zk #[.v 9,.int 0,.bin .Sub (.blt .len #[.ix (.v 0) (.int 1)]) (.int 1)])) #[.ret (.tup #[.str "span",.v 6])] .nil,.asg (.t #[.n 11,.n 12]) (.ix (.v 8) (.v 9)),.ite (.not (.call Zk #[.v 10,.v 11,.bin .Sub (.v 12) (.int 1)])) #[.ret (.tup #[.str "cut",.v 6])] .nil,.expr (.meth .append (.v 5) #[.tup #[.ix (.v 7) (.int 4),.bin .Add (.bin .Add (.sl (.v 8) .no (.so (.v 9))) (.tup #[.tup #[.bin .Add (.v 10) (.int 1),.v 12]])) (.sl (.v 8) (.so (.bin .Add (.v 9) (.int 1))) .no)]]),.expr (.meth .append (.v 5) #[.tup #[.ix (.v 7) (.int 3),.bin .Add (.bin .Add (.sl (.v 8) .no (.so (.v 9))) (.tup #[.tup #[.v 11,.v 10]])) (.sl (.v 8) (.so (.bin .Add (.v 9) (.int 1))) .no)]])]) jy)
def gy  : Ss:=(.cons (.ite (.cmp .NotIn (.tup #[.ix (.v 7) (.int 0),.blt .len #[.v 7]]) (.tup #[.tup #[.str "ring",.int 2],.tup #[.str "split",.int 5]])) #[.ret (.tup #[.str "shape",.v 6])] .nil) iy)
def fy  : Ss:=(.cons (.ite (.bop ua (.not (.blt .isi #[.v 7,.ty "tuple"])) #[.cmp .Eq (.blt .len #[.v 7]) (.int 0),.not (.blt .isi #[.ix (.v 7) (.int 0),.ty "str"])]) #[.ret (.tup #[.str "shape",.v 6])] .nil) gy)
def nH  : Ss:=(.cons (.asg (.t #[.n 7,.n 8]) (.meth .pop (.v 5) .nil)) fy)
def EG  : Ss:=(.cons (.wh (.cmp .NotEq (.v 5) (.lst .nil)) nH) FG)
def vE  : Fun:=⟨"_law_wrong",["_law_plan_here", "_law_cycle", "_law_beats_here", "_law_stays_here", "_law_thing"],["_law_plan_here", "_law_cycle", "_law_beats_here", "_law_stays_here", "_law_thing", "_law_line", "_law_at", "_law_node", "_law_windows_here", "_law_s", "_law_cut", "_law_least", "_law_most"],(.cons (.asg (.n 5) (.lst #[.tup #[.v 4,.call rG #[.v 0,.v 1]]])) (.cons (.asg (.n 6) (.int 0)) EG))⟩
def iF  : Fun:=⟨"_law_small",["_law_feed_here"],["_law_feed_here", "_law_works", "_law_cycle"],#[(.ite (.cmp .Gt (.call Tc #[.v 0,.int 8]) (.int 0)) #[.asg (.n 1) (.ix (.lst #[.int 2,.int 3,.int 3,.int 4,.int 2,.int 1]) (.call Tc #[.v 0,.int 6])),(.ret (.tup #[.v 1,.bin .Add (.int 1) (.call Tc #[.v 0,.ix (.lst #[.int 12,.int 24,.int 6,.int 3]) (.bin .Sub (.v 1) (.int 1))]),.int 5]))] .nil),.asg (.n 1) (.bin .Add (.int 2) (.call Tc #[.v 0,.int 7])),.asg (.n 2) (.bin .Add (.int 1) (.call Tc #[.v 0,.ix (.lst #[.int 300,.int 17,.int 6,.int 4,.int 3,.int 2,.int 2]) (.bin .Sub (.v 1) (.int 2))])),.ret (.tup #[.v 1,.v 2,.ix (.lst #[.int 5,.int 12,.int 24]) (.call Tc #[.v 0,.int 3])])]⟩
def HD  : Fun:=⟨"_law_far",["_law_feed_here", "_law_plan_here", "_law_cycle"],["_law_feed_here", "_law_plan_here", "_law_cycle", "_law_spans", "_law_word", "_law_one", "_law_other", "_law_low", "_law_high", "_law_by"],#[.asg (.n 3) (.lst .nil),(.fr (.t #[.n 4,.n 5,.n 6,.n 7,.n 8]) (.e (.ix (.v 1) (.int 1))) #[.asg (.n 9) (.int 0),.ite (.cmp .Eq (.v 4) (.str "span")) #[.asg (.n 9) (.bin .Mult (.v 2) (.call Tc #[.v 0,.bin .Add (.bin .FloorDiv (.bin .Sub (.int 9999) (.v 8)) (.v 2)) (.int 1)]))] .nil,.expr (.meth .append (.v 3) #[.tup #[.v 4,.v 5,.v 6,.bin .Add (.v 7) (.v 9),.bin .Add (.v 8) (.v 9)]])]),.ret (.tup #[.ix (.v 1) (.int 0),.mkT (.v 3)])]⟩
def nG  : Fun:=⟨"_law_some_plan",["_law_feed_here"],["_law_feed_here", "_law_works", "_law_cycle", "_law_most", "_law_plan_here"],#[.asg (.t #[.n 1,.n 2,.n 3]) (.call BE #[.v 0]),.asg (.n 4) (.call EE #[.v 0,.v 1,.v 3,.v 2]),.ite (.cmp .Eq (.call Tc #[.v 0,.int 6]) (.int 0)) #[.asg (.n 4) (.call aE #[.v 0,.v 4,.v 2])] .nil,.ret (.tup #[.v 4,.v 2])]⟩
def jF  : Fun:=⟨"_law_stays",["_law_feed_here", "_law_works"],["_law_feed_here", "_law_works", "_law_some"],#[.asgC 2 (.lc [Aa,la 0] (.n 0) (.r1 (.v 1)) #[.cmp .Eq (.call Tc #[.v 1,.int 3]) (.int 0)] (.v 0)),.ret (.mkT (.ix (.lst #[.tup .nil,.v 2,.v 2,.rngL (.v 1)]) (.call Tc #[.v 0,.int 4])))]⟩
noncomputable def Pt  : Ss:=#[.ret (.tup #[.v 4,.v 5])]
def DH  : Ss:=#[.asg (.n 5) (.mkT (.lc [Aa,la 2,la 7] (.n 0) (.e (.ix (.v 6) (.call Tc #[.v 0,.blt .len #[.v 6]]))) .nil (.bin .Mod (.bin .Add (.v 0) (.v 2)) (.v 1))))]
def CH  : Ss:=(.cons (.asg (.n 7) (.call Tc #[.v 0,.v 2])) DH)
def wH  : Ss:=#[.ite (.cmp .NotEq (.v 6) (.lst .nil)) CH .nil]
def vH  : Ss:=(.cons (.asg (.n 6) (.call ZD #[.v 1,.v 2])) wH)
def NG  : Ss:=(.cons (.ite (.cmp .Eq (.call Tc #[.v 0,.int 2]) (.int 0)) vH .nil) Pt)
def MG  : Ss:=(.cons (.asg (.n 5) (.call zE #[.v 0,.v 3,.v 2])) NG)
def LG  : Ss:=(.cons (.asg (.n 4) (.call DE #[.v 0,.v 3])) MG)
def WG  : Fun:=⟨"_law_some_stays",["_law_feed_here", "_law_plan_here", "_law_cycle"],["_law_feed_here", "_law_plan_here", "_law_cycle", "_law_works", "_law_stays_here", "_law_beats_here", "_law_some", "_law_by"],(.cons (.asg (.n 3) (.blt .len #[.ix (.v 1) (.int 0)])) LG)⟩
def dH  : Ss:=#[.ret (.lc [Aa,la 0,la 1] (.n 0) (.e (.v 5)) #[.cmp .Eq (.call Yo #[.v 1,.v 2,.v 0]) (.lst .nil)] (.v 0))]
noncomputable def SG  : Ss:=#[.asg (.n 5) (.v 8)]
noncomputable def xH  : Ss:=#[.expr (.meth .extend (.v 8) #[.lc [Aa,la 9] (.n 0) (.e (.v 7)) .nil (.bin .Add (.v 1) (.tup #[.v 0]))])]
def RG  : Ss:=(.cons (.fr (.n 9) (.e (.v 5)) xH) SG)
def Xx  : Ss:=(.cons (.asg (.n 8) (.lst .nil)) RG)
def QG  : Ss:=(.cons (.asg (.n 7) (.ife (.cmp .In (.v 6) (.v 3)) (.lst #[.ix (.v 2) (.v 6)]) (.rngL (.ife (.cmp .In (.v 6) (.v 4)) (.int 1) (.v 1))))) Xx)
def cH  : Ss:=(.cons (.fr (.n 6) (.r1 (.blt .len #[.ix (.v 0) (.int 0)])) QG) dH)
def bH  : Ss:=(.cons (.asg (.n 5) (.lst #[.tup .nil])) cH)
def bG  : Fun:=⟨"_law_all_with",["_law_plan_here", "_law_cycle", "_law_beats_here", "_law_stays_here"],["_law_plan_here", "_law_cycle", "_law_beats_here", "_law_stays_here", "_law_firsts", "_law_found", "_law_work", "_law_some", "_law_longer", "_law_ahead"],(.cons (.asgC 4 (.lc [Aa,la 3] (.n 0) (.e (.call Ix #[.v 0])) #[.cmp .Eq (.lc [Aa,la 1] (.n 0) (.e (.v 0)) #[.cmp .In (.v 0) (.v 1)] (.v 0)) (.lst .nil)] (.ix (.v 0) (.int 0)))) bH)⟩
noncomputable def uG  : Ss:=#[.ret (.v 2)]
noncomputable def cy  : Ss:=#[.asg (.n 5) (.meth .get (.dic #[.str "split",.sl (.v 3) (.so (.int 3)) .no,.str "stay",.sl (.v 3) (.so (.int 2)) .no]) #[.ix (.v 3) (.int 0),.tup .nil]),.expr (.meth .extend (.v 1) #[.lc [Aa,la 4] (.n 0) (.e (.v 5)) .nil (.tup #[.v 0,.bin .Add (.v 1) (.int 1)])])]
def ay  : Ss:=(.cons (.asg (.n 2) (.blt .max #[.v 2,.v 4])) cy)
def eH  : Ss:=(.cons (.asg (.t #[.n 3,.n 4]) (.meth .pop (.v 1) .nil)) ay)
def tG  : Ss:=(.cons (.wh (.cmp .NotEq (.v 1) (.lst .nil)) eH) uG)
def cF  : Fun:=⟨"_law_depth",["_law_cases"],["_law_cases", "_law_line", "_law_found", "_law_node", "_law_deep", "_law_below"],(.cons (.asg (.n 1) (.lst #[.tup #[.v 0,.int 1]])) (.cons (.asg (.n 2) (.int 0)) tG))⟩
def CG  : Ss:=#[.ret (.cmp .Eq (.call Yo #[.v 0,.v 1,.ix (.v 5) (.int 1)]) (.lst .nil))]
def BG  : Ss:=(.cons (.ite (.cmp .NotEq (.lc [Aa,la 2,la 5] (.n 0) (.e (.v 3)) #[.cmp .NotEq (.ix (.ix (.v 2) (.int 1)) (.v 0)) (.ix (.v 1) (.v 0))] (.v 0)) (.lst .nil)) #[.ret (.bl ua)] .nil) CG)
def AG  : Ss:=(.cons (.ite (.cmp .In (.bl ua) (.lc [Aa,la 1] (.n 0) (.e (.ix (.v 5) (.int 1))) .nil (.call Zk #[.v 0,.int 0,.bin .Sub (.v 1) (.int 1)]))) #[.ret (.bl ua)] .nil) BG)
def zG  : Ss:=(.cons (.ite (.bop ua (.cmp .NotEq (.ix (.v 5) (.int 0)) (.str "times")) #[.not (.blt .isi #[.ix (.v 5) (.int 1),.ty "tuple"]),.cmp .NotEq (.blt .len #[.ix (.v 5) (.int 1)]) (.blt .len #[.ix (.v 0) (.int 0)])]) #[.ret (.bl ua)] .nil) AG)
def lH  : Ss:=#[.ret (.cmp .LtE (.call AE #[.ix (.v 5) (.int 1)]) (.int 100))]
def kH  : Ss:=(.cons (.ite (.bop ua (.cmp .NotEq (.ix (.v 5) (.int 0)) (.str "none")) #[.cmp .IsNot (.call FE #[.v 0,.v 1,.v 2,.v 3,.ix (.v 5) (.int 1)]) .non]) #[.ret (.bl ua)] .nil) lH)
def Kx  : Ss:=(.cons (.ite (.cmp .Eq (.v 6) (.lst .nil)) kH .nil) zG)
def Jx  : Ss:=(.cons (.ite (.bop ua (.not (.blt .isi #[.v 5,.ty "tuple"])) #[.cmp .NotEq (.blt .len #[.v 5]) (.int 2),.cmp .NotEq (.blt .repr #[.tup #[.v 0,.v 2,.v 3]]) (.v 4)]) #[.ret (.bl ua)] .nil) Kx)
def Px  : Ss:=(.cons (.asg (.n 6) (.call fG #[.v 0,.v 1,.v 2,.v 3])) Jx)
def yG  : Ss:=(.cons (.asg (.n 5) (.call VG #[.v 0,.v 1,.v 2,.v 3])) Px)
def gF  : Fun:=⟨"_law_right",["_law_plan_here", "_law_cycle", "_law_beats_here", "_law_stays_here"],["_law_plan_here", "_law_cycle", "_law_beats_here", "_law_stays_here", "_law_kept", "_law_found", "_law_some"],(.cons (.asg (.n 4) (.blt .repr #[.tup #[.v 0,.v 2,.v 3]])) yG)⟩
def ZE  : Ss:=#[.ite (.not (.call Ot #[.v 3,.v 4,.v 6,.tup .nil])) #[.ret (.bl ua)] .nil]
def YE  : Ss:=(.cons (.ite (.bop ua (.not (.call Ot #[.v 3,.v 4,.v 6,.v 5])) #[.not (.call Ot #[.v 3,.v 4,.v 7,.v 5])]) #[.ret (.bl ua)] .nil) ZE)
def XE  : Ss:=(.cons (.asg (.n 7) (.mkT (.lc [Aa,la 4,la 5,la 6] (.n 0) (.r1 (.blt .len #[.v 6])) .nil (.ife (.cmp .In (.v 0) (.v 2)) (.ix (.v 3) (.v 0)) (.bin .Mod (.bin .Add (.ix (.v 3) (.v 0)) (.int 1)) (.v 1)))))) YE)
def Ax  : Ss:=(.cons (.asg (.t #[.n 5,.n 6]) (.call XG #[.v 1,.v 3,.v 4])) XE)
def WE  : Ss:=(.cons (.ite (.cmp .Eq (.call Tc #[.v 1,.int 3]) (.int 0)) #[(.asg (.n 3) (.call ME #[.v 1,.blt .len #[.ix (.v 3) (.int 0)],.int 6,.v 4]))] .nil) Ax)
def VE  : Ss:=(.cons (.asg (.t #[.n 3,.n 4]) (.call pG #[.v 1])) WE)
def BC  : Ss:=#[.fr (.n 2) (.r1 (.int 3)) VE,.ret (.bl ma)]
def FA  : Fun:=⟨"law",["_law_script"],["_law_script", "_law_feed_here", "_law_k", "_law_plan_here", "_law_cycle", "_law_stays_here", "_law_beats_here", "_law_others"],(.cons (.asg (.n 1) (.call KE #[.v 0])) BC)⟩
def T  : qf:=⟨[wD,xE,MF,GF,FD,Fx,KD,wE,IF,CF,cG,aG,mG,BF,rF,JD,ID,dG,JF,KF,vD,lB,UG,nF,mF,eF,LF,pF,DF,oF,kF,bF,ux,dF,fF,GD,FF,uE,wx,EF,qF,lF,vE,iF,HD,nG,jF,WG,bG,cF,gF,FA],[(.int 300)],["MOST_SIZE"],[],[],[]⟩
def Ma  (i:Nat):Pa:=PySem.Challenge.pw_beatplans_k19_found_with_stays.main.body.getD i (.Pass ⟨0,0,0,0⟩)
noncomputable abbrev s_top_of  : Pa:=Ma 4
noncomputable abbrev s_window_of  : Pa:=Ma 5
noncomputable abbrev s_windows_of  : Pa:=Ma 6
noncomputable abbrev s_with_window  : Pa:=Ma 7
noncomputable abbrev s_ends_of  : Pa:=Ma 9
noncomputable abbrev s_entry_sums  : Pa:=Ma 10
noncomputable abbrev s_sums_of  : Pa:=Ma 11
noncomputable abbrev s_ring_bars  : Pa:=Ma 12
noncomputable abbrev s_entries_to  : Pa:=Ma 14
noncomputable abbrev s_forest_from  : Pa:=Ma 15
noncomputable abbrev s_path_to_root  : Pa:=Ma 16
noncomputable abbrev s_closing_ring  : Pa:=Ma 17
noncomputable abbrev s_closing_rings  : Pa:=Ma 18
noncomputable abbrev s_beats_along  : Pa:=Ma 19
noncomputable abbrev s_parts_of  : Pa:=Ma 21
noncomputable abbrev s_staying  : Pa:=Ma 24
noncomputable abbrev s_size_of  : Pa:=Ma 25
noncomputable abbrev s_refuse_great  : Pa:=Ma 26
noncomputable abbrev s_first_void  : Pa:=Ma 27
noncomputable abbrev s_first_wide  : Pa:=Ma 28
noncomputable abbrev s_halved  : Pa:=Ma 29
noncomputable abbrev s_seek  : Pa:=Ma 30
noncomputable abbrev s_times_or_none_with  : Pa:=Ma 31
noncomputable abbrev s_law_feed  : Pa:=Ma 33
noncomputable abbrev s_law_draw  : Pa:=Ma 34
noncomputable abbrev s_law_names  : Pa:=Ma 35
noncomputable abbrev s_law_number  : Pa:=Ma 36
noncomputable abbrev s_law_span  : Pa:=Ma 37
noncomputable abbrev s_law_fitting  : Pa:=Ma 38
noncomputable abbrev s_law_plan  : Pa:=Ma 39
noncomputable abbrev s_law_tight  : Pa:=Ma 40
noncomputable abbrev s_law_beats  : Pa:=Ma 41
noncomputable abbrev s_law_end  : Pa:=Ma 42
noncomputable abbrev s_law_lacks  : Pa:=Ma 43
noncomputable abbrev s_law_parts  : Pa:=Ma 44
noncomputable abbrev s_law_all  : Pa:=Ma 45
noncomputable abbrev s_law_windows  : Pa:=Ma 46
noncomputable abbrev s_law_whole  : Pa:=Ma 47
noncomputable abbrev s_law_ends  : Pa:=Ma 48
noncomputable abbrev s_law_is_ring  : Pa:=Ma 49
noncomputable abbrev s_law_sums  : Pa:=Ma 50
noncomputable abbrev s_law_bars  : Pa:=Ma 51
noncomputable abbrev s_law_wrong  : Pa:=Ma 52
noncomputable abbrev s_law_small  : Pa:=Ma 53
noncomputable abbrev s_law_far  : Pa:=Ma 54
noncomputable abbrev s_law_some_plan  : Pa:=Ma 55
noncomputable abbrev s_law_stays  : Pa:=Ma 56
noncomputable abbrev s_law_some_stays  : Pa:=Ma 57
noncomputable abbrev s_law_all_with  : Pa:=Ma 58
noncomputable abbrev s_law_depth  : Pa:=Ma 59
noncomputable abbrev s_law_right  : Pa:=Ma 60
noncomputable abbrev s_law  : Pa:=Ma 61
end
local macro_rules
 |`(tactic| simp! only[$xs,*])=>do
  let ys <- ("lV aV D_non D_bl D_int D_str mV bV D_ty T_ty D_bin T_bin D_neg D_cmp T_cmp D_cmp2 T_cmp2 D_tup D_lst D_dic D_ix T_ix D_sl D_rev D_call T_call D_blt T_blt D_meth D_lc D_mkD T_mkD D_mkL D_mkT D_not T_not D_ife T_ife D_bop0 D_and D_or T_and T_or O_no O_so A_nil A_cons C_nil C_cons P_nil P_cons hV I_r1 I_enum F_nil F_cons I_dv I_di S_expr S_asg S_asgC S_setS S_par S_aug S_ite S_fr S_ret B_nil B_cons V_add V_cat V_catL V_sub V_mul V_mulL V_mulT V_fdiv V_mod V_pow V_neg W_eqI W_neI W_eqS W_neS W_lt W_le W_gt W_neT W_eqT W_eqT0 W_neL W_eqL W_in W_nin W_is W_isn Y_bl Y_non Y_int Y_tup J_tup X_tup F_len F_repr F_min F_max F_sum F_sorted F_int F_isi X_str V_addB V_subB V_subI F_lenT F_min2 F_max2 F_intB F_intI jV iV G_nil G_cons sl_0 sl_s dr_0 dr_s pk_nil pk_none pk_some K_str K_int fx_cells fx_at fx_left fx_turn fs_at fs_left".splitOn " ").toArray.mapM λs=>`(ZU| $(Lean.mkIdent s.toName):ident)
  `(tactic| try simp only[Le,Lp,List.cons_append,ah,Nh,Uu,List.set_cons_zero,List.set_cons_succ,List.zip_cons_cons,List.zip_nil_right,List.zip_nil_left,Ny,List.foldl_nil,List.getElem?_cons_zero,List.getElem?_cons_succ,Option.join_some,ite_true,ite_false,Jp,Hl,$ys:simpLemma,*,$xs,*])

def Vc    (hf:Fd G f c)(h0:0<m)(h1:m<1073741824)(q:∀r Z ,0<=r->r<m->Fd Z f c->Sm f G Z->Q (.int r) Z):db T (k+1) Tc [.loc f,.int m] G Q X:=by
 obtain⟨y,a,l,t,R,Y,hn⟩:=hf.ex;have O:∀(z J j F:Int),Q (.int (z%m)) (Wc G f (.dK (Ld c J j F))):=λz J j F=>q _ _ (uh z (by lia)) (rh z h0) (Fd.put ⟨rfl⟩ R Y hn) Sm.put
 have xa:0<y.length:=List.length_pos_iff.mpr hn;have gc:∀I,Wc G f (.dK I) c=la (.lst (y.map .int)):=λI=>by rw[mh (λz=>by rw[z,R]at Y;cases Y)];exact Y
 obtain⟨z,hz,ez⟩:=Go (l:=y) (r:=a%y.length) (uh _ (by lia)) (rh _ (by lia))
 refine⟨rfl,?_⟩;simp! only[mF,nc,Kb,ix_d R BB,Yv R,Xk,dN,aw,true_and,xi (gc _),Ua,ix_l (gc _) ((qj U.int y _).trans (congrArg _ ez))];have cut:∀(j J F:Int),(0<m/\0<m/\m<1073741824/\Q (.int (j%m)) (Wc G f (.dK (Ld c J (j/m) F)))):=λj J F=>⟨h0,h0,by lia,O _ _ _ _⟩
 by_cases hl:l=0
 ·rw[if_pos (by simpa using hl)]
  refine⟨by lia,by constructor<;>decide,?_⟩
  by_cases hc:z<10 ^ Uj 18
  ·rw[if_pos (by simpa using hc)]
   exact⟨by decide,.inl (by decide),.inr (by decide),by decide,by decide,by decide,.inl (by decide),.inr (by decide),by decide,by decide,by decide,h0,O _ _ _ _⟩
  ·rw[if_neg (by simpa using hc)]
   exact cut _ _ _
 ·rw[if_neg (by simpa using hl)]
  exact cut _ _ _
def fP   {ns:List Int}(ha:G a=la (.fro (ns.map .int)))(hl:ns.length<=63)(q:∀f c Z ,Fd Z f c->Q (.loc f) Z):db T (k+1) KE [.loc a] G Q X:=by
 have I:(cut ns Aa (la 63)).length<=63:=by rw[show(63:Int)=((63:Nat):Int)from rfl,cm];simp;lia
 refine⟨rfl,?_⟩;simp! only[nF,nc,Kb,sl_f ha,gQ];intro p1 G1 O;rw[it_l O.at];intro p2 G2 Y;refine⟨by decide,λp3 G3 y=>?_⟩
 simp! only[AL (y.sa _ _ (Y.sa _ _ (O.sa _ _ ha)))];obtain⟨j,ez,lz,hz⟩:∃j:List Int,(Kb (Uj (if decide (((ns.map U.int).length:Int)=0)=ma then 1 else 0)) [U.int 0]).flatten=j.map U.int/\j.length<=1/\(ns=[]->j≠[]):=by
  by_cases h:ns=[]
  ·subst h;exact⟨[0],rfl,by decide,λ_=>by simp⟩
  ·refine⟨[],?_,by decide,λz=>absurd z h⟩
   rw[if_neg (by simpa using h)]
   rfl
 refine⟨_,y.at,by split<;>decide,by split<;>decide,by split<;>decide,λp4 G4 F=>?_⟩
 rw[ez]at F;refine⟨_,_,F.sa _ _ (y.sa _ _ Y.at),F.at,?_,λp5 G5 R=>⟨by decide,λp6 G6 J=>?_⟩⟩
 ·rw[Ua,Ua];exact Fb (Nat.add_le_add I lz) (by decide:63+1<=Za)
 rw[yN]at J;rw[<- Oc]at R;refine q _ p5 _ ⟨_,0,0,0,J.at,J.sa _ _ R.at,λz=>?_⟩;obtain⟨z1,z2⟩:=List.append_eq_nil_iff.mp z;refine hz ?_ z2;rw[show(63:Int)=((63:Nat):Int)from rfl,cm]at z1;cases ns with
 |nil=>rfl
 |cons _ _=>cases z1

structure Nm (x:Str):Prop where
 l8:x.length<=8
 ch:∀c∈x.cps.toList,c<128
structure Qb where
 w:Str
 o:Nat
 t:Nat
 lo:Int
 hi:Int
noncomputable def Qb.u  (s:Qb):U:=.tup [.str s.w,.int s.o,.int s.t,.int s.lo,.int s.hi]
structure Qb.Ok (W:Nat)(s:Qb):Prop where
 w:s.w = "apart" \/ s.w = "span"
 o:s.o<W
 t:s.t<W
 lo:0<=s.lo/\s.lo<=9999
 hi:0<=s.hi/\s.hi<=9999
noncomputable def ub  (l:List Int):U:=.tup (l.map .int)
def GC  {x:Str}(h:x = "apart" \/ x = "span"):x.length<=8/\∀c∈x.cps.toList,c<128:=by
 rcases h with rfl|rfl
 ·exact⟨by decide +kernel,by decide +kernel⟩
 ·exact⟨by decide +kernel,by decide +kernel⟩
def zB   (h:-100000<=i/\i<=100000):Ft 1921 0 (.int i):=Ft.int (Eg (show i.natAbs<=100000 by lia) (by decide))
def Qb.Ok.ft   {s:Qb}(h:s.Ok W)(j:W<=8):Ft 10000 1 s.u:=by
 have:=h.o;have:=h.t;have:=h.lo;have:=h.hi;refine Ft.tup (n:=1921) (m:=5) (Db _) (λu hu=>?_) (by decide)
 simp only[Ic,Je,or_false]at hu;rcases hu with rfl|rfl|rfl|rfl|rfl
 ·exact(Ft.str (m:=8) (GC h.w).1 (GC h.w).2).mono (by decide) (Db _)
 all_goals exact zB (by lia)

noncomputable def menu  : List Str:=["a", "ab", "abc", "b", "ba", "works", "span", "apart", "at", "none", "hold", "zzzzzzzz", "z", "o", "find", "late", "n"]
def eQ  : ∀x∈menu,Nm x:=by
 have h:∀x∈menu,x.length<=8/\∀c∈x.cps.toList,c<128:=by decide +kernel
 exact λx f=>⟨(h x f).1,(h x f).2⟩
def Jb  (xs:List Str)(ss:List Qb):U:=.tup [.tup (xs.map .str),.tup (ss.map Qb.u)]
def wL        (g:G a=la (.lst xs)):ze .insert (.loc a) [.int i,v] G Q=(0<=i/\i<=xs.length/\xs.length<Za/\putO G a (.lst (xs.take i.toNat++v::xs.drop i.toNat)) (Q .non)):=by unfold ze Nw;dsimp only;rw[g]
def AN     (g:G a=la (.lst xs)):Se .insert (.loc a) G=la ("list", "list.insert"):=by unfold Se;dsimp only;rw[g]

def rR    (Z:Fd G f c)(h1:m<=8)(q:∀(xs:List Str) j ,xs.length=m->(∀x∈xs,Nm x)->Fd j f c->Sm f G j->Q (.tup (xs.map .str)) j):db T (k+2) Hx [.loc f,.int m] G Q X:=by
 refine⟨rfl,?_⟩;simp! only[eF,nc,Kb];refine⟨by decide,λp G1 O=>⟨by decide,λp2 G2 I=>⟨_,_,I.sa _ _ O.at,I.at,by decide,λp3 G3 J=>?_⟩⟩⟩
 have f3:=((Z.new O).new I).new J;have s3:Sm f G G3:=O.sa.sm.trans (I.sa.sm.trans J.sa.sm);have hp:=((Z.new O).new I).away J;have g3:G3 p3=la (.lst (menu.map .str)):=J.at
 refine Vc f3 (by decide) (by decide) λfirst G4 a4 b4 f4 s4=>Vc f4 (by decide) (by decide) λr5 G5 a5 b5 f5 s5=>?_
 have g5:=s5 _ _ hp.1 (s4 _ _ hp.1 g3);simp! only[];refine⟨by lia,by lia,by rw[Zd];exact Fb (show((m:Int)).toNat<=8 by lia) (by decide),?_⟩
 refine Ce (λi F j=>j=G5/\∃xs:List Str,F=xs.map .str/\xs.length=i/\∀x∈xs,Nm x) ?_ ?_ ⟨rfl,[],rfl,rfl,λ_ h=>nomatch h⟩
 ·rintro F j ⟨rfl,xs,rfl,hl,Y⟩;rw[Zd]at hl;refine⟨trivial,λp6 G6 R=>?_⟩;simp! only[it_l R.at];exact q xs G6 (by lia) Y (f5.new R) ((s3.trans (s4.trans s5)).nw R)
 ·rintro i x F j K Y ⟨rfl,xs,rfl,hl,hn⟩ hk _;obtain⟨hi,rfl⟩:=Xf Y;simp! only[];obtain⟨y,hy,ey⟩:=Go (l:=menu) (r:=(first+(1+r5)*(i:Int))%17) (uh _ (by decide)) (rh _ (by decide))
  refine⟨trivial,.inr (by constructor<;>lia),by decide,?_⟩
  rw[ix_l g5 ((qj U.str menu _).trans (congrArg _ ey))];exact hk _ _ ⟨rfl,xs++[y],by simp,by simp[hl],λz hz=>by
   rcases Fa.mp hz with z'|z'
   ·exact hn z z'
   ·rw[bc.mp z'];exact eQ y hy⟩
def Ro    (J:Fd G f c)(h1:1<=P)(h2:P<=600)(q:∀z y ,0<=z->z<=1801->Fd y f c->Sm f G y->Q (.int z) y):db T (k+2) lm [.loc f,.int P] G Q X:=by
 refine⟨rfl,?_⟩;simp! only[LF,nc,Kb];refine Vc J (by lia) (by lia) λr1 G1 a1 b1 f1 s1=>Vc f1 (by lia) (by lia) λr2 G2 a2 b2 O s2=>⟨.inl (by decide),Vc O (by lia) (by lia) λr3 G3 a3 b3 F Z=>⟨by decide,λp G4 j=>Vc (F.new j) (by decide) (by decide) λr5 G5 a5 b5 Y I=>?_⟩⟩
 refine Uo [0,r1,r2,r3] (I _ _ (F.away j).1 j.at) a5 b5 λz R=>?_;have:0<=z/\z<=1801:=by simp only[Ic,Je,or_false]at R;lia
 exact q z _ this.1 this.2 Y (((s1.trans (s2.trans Z)).nw j).trans I)
def kP     (hf:Fd G f c)(R:1<=P)(h2:P<=600)(w0:0<W)(w8:W<=8)(q:∀(s:Qb) G' ,s.Ok W->Fd G' f c->Sm f G G'->Q s.u G'):db T (k+3) NE [.loc f,.int W,.int P] G Q X:=by
 refine⟨rfl,?_⟩;simp! only[pF,nc,Kb];refine Vc hf (by lia) (by lia) λo' Ga aa ba fa sa=>Vc fa (by lia) (by lia) λt' Gb ab bb fb sb=>?_
 obtain⟨o,rfl⟩:=Gg aa;obtain⟨t,rfl⟩:=Gg ab;refine⟨trivial,?_⟩;refine Ro fb R h2 λF G1 a1 b1 f1 s1=>?_;refine Vc f1 (by decide) (by decide) λr G2 a2 b2 J s2=>?_
 have Z:=sa.trans (sb.trans (s1.trans s2));simp! only[];by_cases O:r=0
 ·rw[if_pos (by simpa using O)]
  refine Ro J R h2 λhi G3 a3 b3 I y=>⟨by decide,?_⟩
  exact q ⟨"apart",o,t,F,hi⟩ _ ⟨.inl rfl,by dsimp only;lia,by dsimp only;lia,by dsimp only;lia,by dsimp only;lia⟩ I (Z.trans y)
 ·rw[if_neg (by simpa using O)]
  refine Vc J (by lia) (by lia) λr3 G3 a3 b3 I y=>Vc I (by decide) (by decide) λr4 G4 a4 b4 f4 s4=>⟨by decide,λp G5 j=>Vc (f4.new j) (by decide) (by decide) λr6 G6 a6 b6 f6 Y=>?_⟩
  refine Uo [0,0,1,r3,P-1,P+r4] (Y _ _ (f4.away j).1 j.at) a6 b6 λz hz=>?_;have xa:0<=z/\z<=700:=by simp only[Ic,Je,or_false]at hz;lia
  simp! only[];exact⟨by decide,q ⟨"span",o,t,F,F+z⟩ _ ⟨.inr rfl,by dsimp only;lia,by dsimp only;lia,by dsimp only;lia,by dsimp only;lia⟩ f6 ((Z.trans (y.trans s4)).nw j |>.trans Y)⟩
def QE     {bs:List Int}(hf:Fd G f c)(h1:1<=P)(h2:P<=600)(gb:G pb=la (.lst (bs.map .int)))(hb:pb≠f)(bl:bs.length=W)(w0:0<W)(w8:W<=8)(q:∀(s:Qb) G' ,s.Ok W->(s.w = "span" -> s.lo<=s.hi)->Fd G' f c->Sm f G G'->Q s.u G'):db T (k+3) Nx [.loc f,.loc pb,.int P] G Q X:=by
 refine⟨rfl,?_⟩;simp! only[DF,nc,Kb,xi gb,Ua,bl];refine Vc hf (by lia) (by lia) λo' Ga aa ba fa sa=>?_
 have ga:=sa _ _ hb gb;simp! only[xi ga,Ua,bl];refine Vc fa (by lia) (by lia) λt' Gb ab bb fb sb=>?_
 have I:=sb _ _ hb ga;obtain⟨o,rfl⟩:=Gg aa;obtain⟨t,rfl⟩:=Gg ab;obtain⟨x,hx,ex⟩:=Go (l:=bs) (r:=(t:Int)) ab (by lia)
 obtain⟨y,hy,ey⟩:=Go (l:=bs) (r:=(o:Int)) aa (by lia)
 simp! only[ix_l I ((qj U.int bs _).trans (congrArg _ ex)),ix_l I ((qj U.int bs _).trans (congrArg _ ey))];refine⟨trivial,by lia,Vc fb (by decide) (by decide) λr G2 a2 b2 f2 s2=>?_⟩
 have S2:=sa.trans (sb.trans s2);obtain⟨j,Y⟩:∃j,j=(x-y)%P:=⟨_,rfl⟩;have g0:0<=j:=by rw[Y];exact uh _ (by lia)
 have g1:j<P:=by rw[Y];exact rh _ (by lia)
 rw[<- Y];simp! only[];by_cases hr:r=0
 ·rw[if_pos (by simpa using hr)]
  refine Vc f2 (by lia) (by lia) λF G3 a3 b3 f3 Z=>Vc f3 (by lia) (by lia) λhi G4 a4 b4 O R=>⟨by decide,?_⟩
  exact q ⟨"apart",o,t,F,hi⟩ _ ⟨.inl rfl,by dsimp only;lia,by dsimp only;lia,by dsimp only;lia,by dsimp only;lia⟩ (λz=>absurd (show("apart" : Str) = "span" from z) (by decide +kernel)) O (S2.trans (Z.trans R))
 ·rw[if_neg (by simpa using hr)]
  refine Ro f2 h1 h2 λF G3 a3 b3 f3 Z=>⟨by lia,Vc f3 (by lia) (by lia) λr4 G4 a4 b4 O R=>⟨by decide,λp G5 J=>Vc (O.new J) (by decide) (by decide) λr6 G6 a6 b6 f6 s6=>?_⟩⟩
  refine Uo [0,0,1,r4] (s6 _ _ (O.away J).1 J.at) a6 b6 λz hz=>?_;have xa:0<=z/\z<=700:=by simp only[Ic,Je,or_false]at hz;lia
  have e0:0<=(j-F)%P:=uh _ (by lia)
  have e1:(j-F)%P<P:=rh _ (by lia)
  simp! only[];exact⟨by decide,q ⟨"span",o,t,F,F+(j-F)%P+z⟩ _ ⟨.inr rfl,by dsimp only;lia,by dsimp only;lia,by dsimp only;lia,by dsimp only;lia⟩ (λ_=>by dsimp only;lia) f6 ((S2.trans (Z.trans R)).nw J |>.trans s6)⟩


def rT  {X: KX}{ss:List Qb}{G0 Y:Gp}(s0:Sm f G G0)(n0:G0 J=Aa)(hf:Fd Y f c)(h5:J≠f/\J≠c)(g5:Y J=la (.lst (ss.map Qb.u)))(sl:ss.length<=24)(R:∀s∈ss,s.Ok W)(w8:W<=8)(s3:Sm f G Y)
  (q:∀(xs:List Str) (ss:List Qb) F ,xs.length=W->(∀x∈xs,Nm x)->ss.length<=24->(∀s∈ss,s.Ok W)->Fd F f c->Sm f G F->Q (Jb xs ss) F) :
  He T.gs (db T (k+3)) Rx ⟨λ_ F=>Q .non F,Q,λx _ F=>X x F⟩ [la (.loc f),la (.int W),la (.int m),la (.int P),la (.loc pb),la (.loc J),o6] Y:=by
 have y:∀(ss:List Qb) (I:Gp),I J=la (.lst (ss.map Qb.u))->ss.length<=24->(∀s∈ss,s.Ok W)->Fd I f c->Sm f G I->db T (k+3) Hx [.loc f,.int W] I (λx G1=>Pf (.loc J) G1 λxs _=>0+1+1<=Za/\Q (.tup [x,.tup xs]) G1) X:=λss I O l4 o4 f4 Z=>by
  refine rR f4 w8 λxs G5 lx nx f5 s5=>?_;rw[it_l (s5 _ _ h5.1 O)];exact⟨by decide,q xs ss _ lx nx l4 o4 f5 (Z.trans s5)⟩
 simp! only[Rx,xi g5,Ua];by_cases z1:(0:Int)<ss.length
 ·rw[if_pos (by simpa using z1)]
  by_cases z2:(ss.length:Int)<24
  ·rw[if_pos (by simpa using z2)]
   refine Vc hf (by decide) (by decide) λr I a4 b4 f4 Z=>?_
   have O:=Z _ _ h5.1 g5;simp! only[];by_cases hr:r=0
   ·rw[if_pos (by simpa using hr)]
    simp! only[AN O,xi O,Ua];refine Vc f4 (by lia) (by lia) λr5 G5 a5 b5 f5 s5=>?_
    have xa:=s5 _ _ h5.1 O;obtain⟨x,hx⟩:∃x,ss[0]?=la x:=⟨ss[0]'(by lia),ac _⟩
    have ox:=R x (Cd hx);rw[ix_l xa (show atI (ss.map Qb.u) 0=la x.u from(qj Qb.u ss _).trans (congrArg _ (tf (j:=0) hx))),wL xa];obtain⟨j,rfl⟩:=Gg a5;refine⟨by lia,by rw[Ua];lia,by rw[Ua];exact Eg sl (by decide),λG6 p6=>?_⟩
    have e:(ss.map Qb.u).take (j:Int).toNat++x.u::(ss.map Qb.u).drop (j:Int).toNat=(ss.take j++x::ss.drop j).map Qb.u:=by
     rw[Hl,Oc,ju,Le,Sy]
    rw[e]at p6;refine y (ss.take j++x::ss.drop j) G6 p6.at ?_ (λs hs=>?_) (f5.off h5 p6) (Sm.wr s0 n0 (s3.trans (Z.trans s5)) p6)
    ·simp;lia
    ·rcases Fa.mp hs with z|z
     ·exact R s (Bu z)
     ·rcases Ic.mp z with rfl|z
      ·exact ox
      ·exact R s (List.mem_of_mem_drop z)
   ·rw[if_neg (by simpa using hr)]
    exact y ss I O sl R f4 (s3.trans Z)
  ·rw[if_neg (by simpa using z2)]
   exact y ss Y g5 sl R hf s3
 ·rw[if_neg (by simpa using z1)]
  exact y ss Y g5 sl R hf s3
def iP     (hf:Fd G f c)(h1:1<=P)(h2:P<=600)(w0:0<W)(w8:W<=8)(m0:0<=m)(m1:m<=24)
  (q:∀(xs:List Str) (ss:List Qb) j ,xs.length=W->(∀x∈xs,Nm x)->ss.length<=24->(∀s∈ss,s.Ok W)->Fd j f c->Sm f G j->Q (Jb xs ss) j):db T (k+4) ME [.loc f,.int W,.int m,.int P] G Q X:=by
 refine⟨rfl,?_⟩;simp! only[oF,nc,Kb];refine⟨by lia,by lia,by rw[Zd];exact Fb w8 (by decide),?_⟩
 refine Ce (λi I j=>Fd j f c/\Sm f G j/\∃bs:List Int,I=bs.map .int/\bs.length=i) ?_ ?_ ⟨hf,Sm.refl,[],rfl,rfl⟩
 ·rintro I G1 ⟨f1,s1,bs,rfl,hl⟩;rw[Zd]at hl;refine⟨trivial,λpb G2 O=>?_⟩;simp! only[];refine⟨by decide,λJ G3 y=>?_⟩
  have f2:=f1.new O;have hb:=f1.away O;have Z:=f2.away y;have s2:=s1.nw O;refine Vc (f2.new y) (by lia) (by lia) λm' G4 a4 b4 f4 s4=>?_
  have xa:J≠pb:=Bg O.at y.no;refine⟨by lia,by lia,?_⟩
  refine Ze (λi ς j=>∃(ss:List Qb) (o6:Option U),ς=[la (.loc f),la (.int W),la (.int m),la (.int P),la (.loc pb),la (.loc J),o6]/\Fd j f c/\Sm f G j/\j pb=la (.lst (bs.map .int))/\j J=la (.lst (ss.map Qb.u))/\ss.length=i/\∀s∈ss,s.Ok W) ?_ ?_
   ⟨[],_,rfl,f4,(s2.nw y).trans s4,s4 _ _ hb.1 (y.sa _ _ O.at),s4 _ _ Z.1 y.at,rfl,λ_ h=>nomatch h⟩
  ·rintro ς G5 ⟨ss,o6,rfl,f5,s5,gb,g5,l5,o5⟩;rw[Zd]at l5;exact⟨trivial,rT s2 y.no f5 Z g5 (by lia) o5 w8 s5 q⟩
  ·rintro i x ς G5 K hx ⟨ss,o6,rfl,f5,s5,gb,g5,l5,o5⟩ hk;obtain⟨hi,rfl⟩:=Xf hx;refine⟨trivial,?_⟩;simp! only[];have add:∀(s:Qb) (Y:Gp),s.Ok W->Fd Y f c->Sm f G5 Y->ze .append (.loc J) [s.u] Y λ_ G1=>K [la (.loc f),la (.int W),la (.int m),la (.int P),la (.loc pb),la (.loc J),la (.int i)] G1:=λs Y R f6 F=>by
    have g6:=F _ _ Z.1 g5;rw[xg g6];refine⟨by rw[Ua];exact bf (show ss.length<25 by lia) (by decide),λG7 p7=>?_⟩
    refine hk _ _ ⟨ss++[s],_,rfl,f6.off Z p7,Sm.wr s2 y.no (s5.trans F) p7,p7.sm _ _ (Qa xa) (F _ _ hb.1 gb),by rw[Oc];exact p7.at,by simp[l5],λz hz=>?_⟩
    rcases Fa.mp hz with z'|z'
    ·exact o5 z z'
    ·rw[bc.mp z'];exact R
   refine Vc f5 (by decide) (by decide) λr Y a6 b6 f6 F=>?_
   have g6:=F _ _ Z.1 g5;simp! only[];by_cases hr:0<r
   ·rw[if_pos (by simpa using hr)]
    simp! only[Of g6];exact QE f6 h1 h2 (F _ _ hb.1 gb) hb.1 hl w0 w8 λs G7 R _ f7 s7=>add s G7 R f7 (F.trans s7)
   ·rw[if_neg (by simpa using hr)]
    simp! only[Of g6];exact kP f6 h1 h2 w0 w8 λs G7 R f7 s7=>add s G7 R f7 (F.trans s7)
 ·rintro i x I G1 K hx ⟨f1,s1,bs,rfl,hl⟩ hk _;exact⟨trivial,Vc f1 (by lia) (by lia) λr G2 a2 b2 f2 s2=>hk _ _ ⟨f2,s1.trans s2,bs++[r],by simp,by simp[hl]⟩⟩

inductive Con (es:List (Int×Int)):Int->Int->Prop
 |refl (x:Int):Con es x x
 |step {x a b:Int}:Con es x a->((a,b)∈es\/(b,a)∈es)->Con es x b
def Con.trans    (h:Con es x y)(g:Con es y z):Con es x z:=by
 induction g with
 |refl=>exact h
 |step _ e j=>exact .step j e
def Con.one    (e:(a,b)∈es\/(b,a)∈es):Con es a b:=.step (.refl a) e
theorem Con.symm    (h:Con es x y):Con es y x:=by
 induction h with
 |refl=>exact .refl _
 |step _ e j=>exact(Con.one (pA e)).trans j
def Con.mono   (h:∀a b,(a,b)∈es->(a,b)∈j\/(b,a)∈j)(g:Con es x y):Con j x y:=by
 induction g with
 |refl=>exact .refl _
 |step _ e q=>
  rcases e with e|e
  ·exact .step q (h _ _ e)
  ·exact .step q (pA (h _ _ e))
def Con.closed   {S:Int->Prop}(j:∀a b,S a->((a,b)∈es\/(b,a)∈es)->S b)(h:Con es x y)(F:S x):S y:=by
 induction h with
 |refl=>exact F
 |step _ e q=>exact j _ _ q e
abbrev Sl  : List Int->List Int->Prop:=λa b=>HT.lexLt a b=ma
theorem pw_ext  {q:Type}{r:q->q->Prop}(as:∀a b,r a b->r b a->False):∀{l j:List q},l.Pairwise r->j.Pairwise r->(∀x,x∈l↔x∈j)->l=j
 |[],[],_,_,_=>rfl
 |[],b::j,_,_,h=>absurd ((h b).mpr (by simp)) (by simp)
 |a::l,[],_,_,h=>absurd ((h a).mp (by simp)) (by simp)
 |a::l,b::j,h1,h2,h=>by
  obtain⟨F,I⟩:=Wa.mp h1;obtain⟨q1,q2⟩:=Wa.mp h2;have e:a=b:=by
   rcases Ic.mp ((h a).mp (by simp))with z|z
   ·exact z
   ·rcases Ic.mp ((h b).mpr (by simp))with y|y
    ·exact y.symm
    ·exact(as _ _ (F b y) (q1 a z)).elim
  subst e;rw[pw_ext as I q2 λx=>?_];constructor
  ·intro f;rcases Ic.mp ((h x).mp (Pd _ f))with z|z
   ·subst z;exact(as _ _ (F x f) (F x f)).elim
   ·exact z
  ·intro f;rcases Ic.mp ((h x).mpr (Pd _ f))with z|z
   ·subst z;exact(as _ _ (q1 x f) (q1 x f)).elim
   ·exact z
def BL  (a b:Int)(h:a<b)(g:b<a):False:=by lia
def EM   a b (h:Sl a b)(g:Sl b a):False:=by
 have:=Hs a b a h g;rw[Vv]at this;cases this
structure Vd (W:Nat)(es:List (Int×Int))(ps:List (List Int)):Prop where
 ne:∀p∈ps,p≠[]
 as:∀p∈ps,p.Pairwise (·< ·)
 bd:∀p∈ps,∀x∈p,0<=x/\x<W
 al:∀x:Int,0<=x->x<W->∃p∈ps,x∈p
 un:∀p∈ps,∀q∈ps,∀x,x∈p->x∈q->p=q
 nd:ps.Nodup
 ed:∀a b,(a,b)∈es->∃p∈ps,a∈p/\b∈p
 co:∀p∈ps,∀x∈p,∀y∈p,Con es x y
def Vd.part     (h:Vd W es ps)(J:p∈ps)(R:x∈p)(g:Con es x y):y∈p:=by
 refine g.closed (S:=λz=>z∈p) (λa b O e=>?_) R;rcases e with e|e
 ·obtain⟨q,j,I,F⟩:=h.ed a b e;rw[h.un p J q j a O I];exact F
 ·obtain⟨q,j,I,F⟩:=h.ed b a e;rw[h.un p J q j a O F];exact I
theorem iw {j:Type}{r:j->j->Prop}(y:∀a b c,r a b->r b c->r a c):∀{l:List j},(∀i (h:i+1<l.length),r l[i] l[i+1])->l.Pairwise r
 |[],_=>.nil
 |[a],_=>Ju _ _
 |a::b::l,h=>by
  have q:=iw y (l:=b::l) λi z=>h (i+1) (by simpa using z)
  refine Wa.mpr ⟨λx f=>?_,q⟩;have h0:=h 0 (by simp)
  rcases Ic.mp f with rfl|f
  ·exact h0
  ·exact y _ _ _ h0 ((Wa.mp q).1 x f)
def gE  {q:Type}(l:List q) d {f:List Nat}(h:f.Perm (Qc l.length)):(f.map λi=>l.getD i d).Perm l:=by
 have:=h.map λi=>l.getD i d;have e:(Qc l.length).map (λi=>l.getD i d)=l:=by
  refine xz (by simp) λi y j=>?_
  simp[Xc,j]
 rw[e]at this;exact this
section
variable {G:Gp}{Q:K1}{a:Ca}
def iB   (g:G a=la (.lst (ns.map .int)))(nd:ns.Nodup)(I:ns.length<64)(q:∀zs:List Int,zs.Perm ns->zs.Pairwise (·< ·)->newO G (.lst (zs.map .int)) Q):uj [.loc a] G Q:=by
 unfold uj;dsimp only;rw[g];refine⟨ns.map λn=>[n],?_,by rw[Ua];exact bf I (by decide),by rw[Ua,Ua],.inl ⟨ns,rfl,rfl⟩,λf F J=>?_⟩
 ·exact Qe.mpr (nd.imp λh z=>h (Lz z).1)
 ·rw[Ua]at F J;have y:∀i∈f,i<ns.length:=λi j=>Ra.mp (F.mem_iff.mp j);have pl:f.length=ns.length:=by rw[F.length_eq,ci]
  have e:(f.map λi=>(ns.map U.int).getD i .non)=(f.map λi=>ns.getD i 0).map .int:=by
   rw[Pe];refine ul λi j=>?_;simp[Xc,y i j]
  rw[e];refine q _ (gE ns 0 F) (iw (r:=λa b:Int=>a<b) (λ_ _ _ h g=>Int.lt_trans h g) λi j=>?_);have j:i+1<ns.length:=by simpa[pl]using j
  have Z:i<f.length:=by lia
  have O:i+1<f.length:=by lia
  have Y:=y _ (Mh Z);have R:=y _ (Mh O);have:=J i j;rw[show f.getD i 0=f[i] by simp[Xc,Z],show f.getD (i+1) 0=f[i+1] by simp[Xc,O]]at this
  have k1:(ns.map λn=>[n]).getD f[i] []=[ns[f[i]]]:=by simp[Xc,Y]
  have k2:(ns.map λn=>[n]).getD f[i+1] []=[ns[f[i+1]]]:=by simp[Xc,R]
  rw[k1,k2]at this;have l1:HT.lexLt [ns[f[i]]] [ns[f[i+1]]]=decide (ns[f[i]]<ns[f[i+1]]):=by
   rw[HT.lexLt_cons];split
   ·rename_i z;rw[z,HT.lexLt_nil_nil];simp
   ·rfl
  rw[l1]at this;simpa[Xc,Y,R]using of_decide_eq_true this
structure Ls (G:Gp)(p:Ca)(as:List Ca)(ks:List (List Int)):Prop where
 gp:G p=la (.lst (as.map .loc))
 l:as.length=ks.length
 ga:∀(i:Nat) a k,as[i]?=la a->ks[i]?=la k->G a=la (.lst (k.map .int))
end

def Bf  {j:Type}{f:j->U}{l:List j}{n:Nat}{a:j}(h:l[n]?=la a):atI (l.map f) (n:Int)=la (f a):=(qj f l _).trans (congrArg _ (tf h))
noncomputable def ce  (ss:List Qb):List (Int×Int):=ss.map λs=>((s.o:Int),(s.t:Int))
def MR     (g:G a=la o):G=Wc G a o:=by
 funext b;unfold Wc;split
 ·rename_i z;rw[z];exact g
 ·rfl
theorem Pg  : ∀(W:Nat) (l:List Int),l.Nodup->(∀x∈l,0<=x/\x<W)->l.length<=W
 |0,l,_,h=>by
  cases l with
  |nil=>exact Db _
  |cons a l=>have:=h a (by simp);lia
 |W+1,l,nd,h=>by
  have j:=Pg W (l.erase (W:Int)) (nd.erase _) λx q=>by
   obtain⟨z,y⟩:=nd.mem_erase_iff.mp q;have:=h x y
   lia
  by_cases f:(W:Int)∈l
  ·rw[List.length_erase_of_mem f]at j;lia
  ·rw[List.erase_of_not_mem f]at j;lia
abbrev Ent:=Nat×Int
noncomputable def eu  (e:Ent):U:=.tup [.int e.1,.int e.2]
noncomputable def eS  (ss:List Qb)(e:Ent):Int:=match ss[e.1]? with|some s=>if e.2=1 then s.o else s.t|none=>0
noncomputable def eD  (ss:List Qb)(e:Ent):Int:=match ss[e.1]? with|some s=>if e.2=1 then s.t else s.o|none=>0
def Be  (ss:List Qb)(e:Ent):Prop:=e.1<ss.length/\(e.2=1\/e.2=-1)
def oi  (ss:List Qb)(e:Ent):U:=.tup [.int e.1,.int e.2,.int (eS ss e)]
section
variable {ss:List Qb}{s:Qb}{i:Nat}
def eS_1  (h:ss[i]?=la s):eS ss (i,1)=s.o:=by unfold eS;dsimp only;rw[h];rfl
def eS_m  (h:ss[i]?=la s):eS ss (i,-1)=s.t:=by unfold eS;dsimp only;rw[h];rfl
def eD_1  (h:ss[i]?=la s):eD ss (i,1)=s.t:=by unfold eD;dsimp only;rw[h];rfl
def eD_m  (h:ss[i]?=la s):eD ss (i,-1)=s.o:=by unfold eD;dsimp only;rw[h];rfl
def Be.get   (h:Be ss e):∃s,ss[e.1]?=la s/\((e=(e.1,1)/\eS ss e=s.o/\eD ss e=s.t)\/(e=(e.1,-1)/\eS ss e=s.t/\eD ss e=s.o)):=by
 obtain⟨j,w⟩:=e;refine⟨ss[j]'h.1,ac h.1,?_⟩;rcases h.2 with z|z
 ·have z:w=1:=z;subst z;exact .inl ⟨rfl,eS_1 (ac h.1),eD_1 (ac h.1)⟩
 ·have z:w=-1:=z;subst z;exact .inr ⟨rfl,eS_m (ac h.1),eD_m (ac h.1)⟩
def Be.adj   (h:Be ss e):(eS ss e,eD ss e)∈ce ss\/(eD ss e,eS ss e)∈ce ss:=by
 obtain⟨s,F,z⟩:=h.get;have y:((s.o:Int),(s.t:Int))∈ce ss:=Ea.mpr ⟨s,Cd F,rfl⟩;rcases z with⟨_,q,j⟩|⟨_,q,j⟩
 ·rw[q,j];exact .inl y
 ·rw[q,j];exact .inr y
end

def fU  {w:Nat}(sl:ss.length<=24)(q:∀p (y:List Ent) R ,Sa G R->G p=Aa->R p=la (.lst (y.map (oi ss)))->y.length<=48->(∀e∈y,Be ss e/\eD ss e=w)->
  (∀j s,ss[j]?=la s->(s.t=w->(j,1)∈y)/\(s.o=w->(j,-1)∈y))->Q (.loc p) R):db T (k+1) QF [Jb xs ss,.int w] G Q X:=by
 refine⟨rfl,?_⟩;simp! only[IF,nc,Kb];refine⟨by decide,λp G1 n1=>?_⟩
 simp! only[Jb,ix_t (Ad _ _ _)];refine Ze (λi ς R=>∃(y:List Ent) (o3 o4 o5 o6 o7 o8:Option U),ς=[la (Jb xs ss),la (.int w),la (.loc p),o3,o4,o5,o6,o7,o8]/\R=Wc G1 p (.lst (y.map (oi ss)))/\y.length<=2*i/\(∀e∈y,Be ss e/\eD ss e=w)/\∀j s,j<i->ss[j]?=la s->(s.t=w->(j,1)∈y)/\(s.o=w->(j,-1)∈y)) ?_ ?_ ⟨[],_,_,_,_,_,_,rfl,MR n1.at,Db _,λ_ h=>(nomatch h),λj s h=>by lia⟩
 ·rintro ς G2 ⟨y,o3,o4,o5,o6,o7,o8,rfl,rfl,hl,he,hz⟩;rw[So,Ua]at hl hz;refine⟨trivial,?_⟩;simp! only[];refine q p y _ (λb o hb=>?_) n1.no wf (by lia) he λj s e=>hz j s (Ba.mp e).1 e
  rw[mh (λz=>by rw[z,n1.no]at hb;cases hb)]
  exact n1.sa _ _ hb
 ·rintro i x ς G2 K hx ⟨y,o3,o4,o5,o6,o7,o8,rfl,rfl,hl,he,hz⟩ hk;obtain⟨u,hu,rfl⟩:=Po hx;rw[Lc]at hu;cases J:ss[i]? with
  |none=>rw[J]at hu;cases hu
  |some s=>
   rw[J]at hu;have hu:=(Zc hu).symm;subst hu;have il:i<ss.length:=(Ba.mp J).1;refine⟨trivial,?_⟩;simp! only[Qb.u,Of wf,xg wf,Xk,dm];refine⟨trivial,trivial,?_⟩;have F:∀f:List Ent,f.length<=2*i+1->(∀e∈f,Be ss e/\eD ss e=w)->(∀e∈y,e∈f)->(s.t=w->(i,1)∈f)->(if decide ((s.o:Int)=(w:Int))=ma then
     0+1+1+1<=Za/\(match Se .append (.loc p) (Wc G1 p (.lst (f.map (oi ss))))with
      |some _=>ze .append (.loc p) [U.tup [.int ((0+i:Nat):Int),.int (-1),.int s.t]] (Wc G1 p (.lst (f.map (oi ss)))) λ_ R=>K [la (Jb xs ss),la (.int w),la (.loc p),la (.int ((0+i:Nat):Int)),la (.str s.w),la (.int s.o),la (.int s.t),la (.int s.lo),la (.int s.hi)] R
      |none=>False)
     else K [la (Jb xs ss),la (.int w),la (.loc p),la (.int ((0+i:Nat):Int)),la (.str s.w),la (.int s.o),la (.int s.t),la (.int s.lo),la (.int s.hi)] (Wc G1 p (.lst (f.map (oi ss))))):=λf xa Y I Z=>by
    by_cases c:s.o=w
    ·rw[if_pos (by simp;lia),Of wf,xg wf,Xk,dm]
     refine⟨by decide,by rw[Ua];exact Eg (show f.length<=48 by lia) (by decide),hk _ _ ⟨f++[(i,-1)],_,_,_,_,_,_,rfl,by rw[Oc];simp[oi,eS_m J],by simp;lia,λe h=>?_,λj s' hj O=>?_⟩⟩
     ·rcases Fa.mp h with h|h
      ·exact Y e h
      ·rw[bc.mp h,eD_m J];exact⟨⟨il,.inr rfl⟩,by lia⟩
     ·by_cases e:j=i
      ·subst e;rw[J]at O;cases O;exact⟨λh=>Cf _ (Z h),λ_=>Ee _ (bc.mpr rfl)⟩
      ·have:=hz j s' (by lia) O
       exact⟨λh=>Cf _ (I _ (this.1 h)),λh=>Cf _ (I _ (this.2 h))⟩
    ·rw[if_neg (by simp;lia)]
     refine hk _ _ ⟨f,_,_,_,_,_,_,rfl,rfl,by lia,Y,λj s' hj O=>?_⟩
     by_cases e:j=i
     ·subst e;rw[J]at O;cases O;exact⟨Z,λh=>absurd h c⟩
     ·have:=hz j s' (by lia) O
      exact⟨λh=>I _ (this.1 h),λh=>I _ (this.2 h)⟩
   by_cases c:s.t=w
   ·rw[if_pos (by simp;lia)]
    refine⟨by decide,by rw[Ua];exact Eg (show y.length<=48 by lia) (by decide),?_⟩
    have:=F (y++[(i,1)]) (by simp;lia) (λe h=>by
     rcases Fa.mp h with h|h
     ·exact he e h
     ·rw[bc.mp h,eD_1 J];exact⟨⟨il,.inl rfl⟩,by lia⟩) (λe h=>Cf _ h) λ_=>Ee _ (bc.mpr rfl)
    rw[Of wf,xg wf,Xk,dm,Oc]at this;simp only[Le,Lp,oi,eS_1 J]at this ⊢;simpa using this
   ·rw[if_neg (by simp;lia)]
    have:=F y (by lia) he (λ_ h=>h) λh=>absurd h c
    rw[Of wf,xg wf,Xk,dm]at this;exact this

def KO        (g:G a=la (.dK kvs)):setU (.loc a) (.int z) v G Q=(kvs.length<Za/\putO G a (.dK (dPut kvs (.inl z) v)) Q):=by unfold setU;dsimp only;rw[g];rfl
def Xg   z (l:List Int):((l.map U.int).any λy=>nh y (.int z))=decide (z∈l):=by
 rw[Ej,ny,decide_eq_true_eq];constructor
 ·rintro⟨y,j,e⟩;obtain⟨x,f,rfl⟩:=Ea.mp j;have:x=z:=by simpa[nh]using e
  rw[<- this];exact f
 ·intro h;exact⟨.int z,Ea.mpr ⟨z,h,rfl⟩,by simp[nh]⟩
def Zg  (l:List Int):(l.map U.int).all flat=ma:=by simp[flat]
structure eA (W:Nat)(es:List (Int×Int))(w:Nat)(rs:List Int):Prop where
 nd:((w:Int)::rs).Nodup
 bd:∀x∈(w:Int)::rs,0<=x/\x<W
 co:∀x∈(w:Int)::rs,Con es w x
def Wd  (fs:List (Int×Ent)):List (Ub×U):=fs.map λf=>(Wb f.1,eu f.2)
noncomputable def Hb  (fs:List (Int×Ent)):List Int:=fs.map (·.1)
structure Jf (W:Nat)(ss:List Qb)(rts:List Int)(fs:List (Int×Ent)):Prop where
 nd:(rts++Hb fs).Nodup
 bd:∀x∈rts++Hb fs,0<=x/\x<W
 en:∀j f,fs[j]?=la f->Be ss f.2/\eS ss f.2=f.1/\eD ss f.2∈rts++Hb (fs.take j)
section
variable {W:Nat}{ss:List Qb}{w:Nat}{rts:List Int}{fs:List (Int×Ent)}
def To    (h:x∈Hb (fs.take j)):∃i f,i<j/\fs[i]?=la f/\f.1=x:=by
 obtain⟨f,q,rfl⟩:=Ea.mp h;obtain⟨i,y,e⟩:=bg q;rw[Zh]at y;refine⟨i,f,by lia,?_,rfl⟩
 rw[<- e,nI];exact ac (by lia)
def Lo  {j:Nat}(h:fs[j]?=la f):f.1∈Hb fs:=Ea.mpr ⟨f,Cd h,rfl⟩
def kC    (h:x∈rts++Hb (fs.take j)):x∈rts++Hb fs:=by
 rcases Fa.mp h with z|z
 ·exact Cf _ z
 ·obtain⟨i,f,_,e,rfl⟩:=To z;exact Ee _ (Lo e)
theorem Jf.con  (h:Jf W ss rts fs):∀(n j:Nat) (f:Int×Ent),j<n->fs[j]?=la f->∃w∈rts,Con (ce ss) w f.1
 |0,_,_,hj,_=>by lia
 |n+1,j,f,hj,e=>by
  obtain⟨q,O,F⟩:=h.en j f e;have:∃w∈rts,Con (ce ss) w (eD ss f.2):=by
   rcases Fa.mp F with z|z
   ·exact⟨_,z,.refl _⟩
   ·obtain⟨i,g,R,J,y⟩:=To z;rw[<- y];exact h.con n i g (by lia) J
  obtain⟨w,I,c⟩:=this;refine⟨w,I,?_⟩;rw[<- O];exact .step c (pA q.adj)
def Jf.all  (h:Jf W ss rts fs)(y:x∈rts++Hb fs):∃w∈rts,Con (ce ss) w x:=by
 rcases Fa.mp y with z|z
 ·exact⟨x,z,.refl _⟩
 ·obtain⟨f,F,rfl⟩:=Ea.mp z;obtain⟨j,q,e⟩:=bg F;exact h.con (j+1) j f (by lia) (by rw[ac q,e])
def Jf.rch  (h:Jf W ss [(w:Int)] fs):eA W (ce ss) w (Hb fs):=⟨h.nd,h.bd,λx q=>by
 obtain⟨v,j,c⟩:=h.all q;rw[bc.mp j]at c;exact c⟩
def Jf.add  (h:Jf W ss rts fs)(O:Be ss e)(hd:eD ss e∈rts++Hb fs)(hs:0<=eS ss e/\eS ss e<W)(Z:eS ss e∉rts++Hb fs):Jf W ss rts (fs++[(eS ss e,e)]):=by
 have F:rts++Hb (fs++[(eS ss e,e)])=(rts++Hb fs)++[eS ss e]:=by simp[Hb]
 refine⟨?_,λx y=>?_,λj f q=>?_⟩
 ·rw[F];refine Ec.mpr ⟨h.nd,by simp,λa R b J=>?_⟩
  rw[bc.mp J];exact λz=>Z (z ▸ R)
 ·rw[F]at y;rcases Fa.mp y with z|z
  ·exact h.bd x z
  ·rw[bc.mp z];exact hs
 ·by_cases Y:j<fs.length
  ·rw[Lh Y]at q;rw[yJ (by lia)]
   exact h.en j f q
  ·have I:=(Ba.mp q).1;rw[Ae,aA]at I;have:j=fs.length:=by lia
   subst this;rw[bq (Db _),zy]at q;cases q;refine⟨O,rfl,?_⟩;rw[yJ (Db _),Ke];exact hd
def lQ  (z:rts.Nodup)(q:∀x∈rts,0<=x/\x<W):Jf W ss rts []:=⟨by simpa[Hb]using z,λx y=>q x (by simpa[Hb]using y),λj f e=>by simp at e⟩
def xQ  {kvs:List (Ub×U)}(q:∀f∈kvs,f.1≠Wb z):dPut kvs (.inl z) v=kvs++[(.inl z,v)]:=by
 unfold dPut;rw[if_neg λy=>?_];obtain⟨f,j,e⟩:=ny.mp y;exact q f j (of_decide_eq_true e)
end
section
variable {k:Nat}{G:Gp}{Q:K1}{X:KX}{xs:List Str}{ss:List Qb}{W:Nat}
def LA   (f:∀s∈ss,s.Ok W):∀a b,(a,b)∈ce ss->(0<=a/\a<W)/\0<=b/\b<W:=λa b h=>by
 obtain⟨s,j,e⟩:=Ea.mp h;have o:=f s j;have o1:=o.o;have o2:=o.t;obtain⟨y,q⟩:=aq e
 lia
def oA  (ss:List Qb)(rts rs:List Int):Prop:=∀x y,x∈rts++rs->((x,y)∈ce ss\/(y,x)∈ce ss)->y∈rts++rs
def zx  {rts:List Int}(so:∀s∈ss,s.Ok W)(sl:ss.length<=24)(hn:rts.Nodup)(hb:∀x∈rts,0<=x/\x<W)(w8:W<=8)(hr:∀G1,Sa G G1->∀k:List U->Prop,k (rts.map .int)->Pf r G1 λxs _=>k xs)
  (q:∀pf fs J ,Sa G J->G pf=Aa->J pf=la (.dK (Wd fs))->Jf W ss rts fs->oA ss rts (Hb fs)->Q (.loc pf) J) :
  db T (k+2) Nt [Jb xs ss,r] G Q X:=by
 refine⟨rfl,?_⟩;simp! only[CF,nc,Kb];refine⟨by decide,λpf G1 Y=>?_⟩
 simp! only[];refine hr G1 Y.sa _ ?_;intro Z G2 n2;simp! only[rH];have ya:pf≠Z:=Qa (Bg Y.at n2.no);have R:∀{Ga Gb:Gp} {p:Ca} {o:MO},(p=pf\/p=Z)->Sa G Ga->qg Ga p o Gb->Sa G Gb:=λ{Ga Gb p o} hp s w b u e=>w.sm _ _ (λz=>by
  rcases hp with rfl|rfl
  ·rw[z,Y.no]at e;cases e
  ·rw[z]at e;have:=Y.sa _ _ e;rw[n2.no]at this;cases this) (s b u e)
 rw[S_wh];refine⟨λn ς J=>∃(fs:List (Int×Ent)) (i:Nat) (o5 o6 o7:Option U),ς=[la (Jb xs ss),la r,la (.loc pf),la (.loc Z),la (.int i),o5,o6,o7]/\n=W-i/\Sa G J/\J pf=la (.dK (Wd fs))/\J Z=la (.lst ((rts++Hb fs).map .int))/\Jf W ss rts fs/\i<=rts.length+fs.length/\
   ∀j x y,j<i->(rts++Hb fs)[j]?=la x->((x,y)∈ce ss\/(y,x)∈ce ss)->y∈rts++Hb fs,⟨_,[],0,_,_,_,rfl,rfl,Y.sa.trans n2.sa,n2.sa _ _ Y.at,by rw[show rts++Hb []=rts from vh _];exact n2.at,lQ hn hb,og _,λj x y h=>by lia⟩,?_⟩
 rintro n ς G3 ⟨fs,i,o5,o6,o7,rfl,rfl,s3,gf,gr,rc,il,cl⟩;have rl:=Pg W _ rc.nd rc.bd;simp only[Hb,Ae,Ua]at rl;have kl:(Hb fs).length=fs.length:=Ua _;simp! only[xi gr,Ua,Ae,kl];by_cases c:(i:Int)<((rts.length+fs.length:Nat):Int)
 ·rw[if_pos (by simpa using c)]
  have hi:i<(rts++Hb fs).length:=by rw[Ae,kl];lia
  obtain⟨x,hx⟩:∃x,(rts++Hb fs)[i]?=la x:=⟨_,ac hi⟩;have bx:=rc.bd x (Cd hx);obtain⟨xn,rfl⟩:=Gg bx.1;rw[ix_l gr (show atI ((rts++Hb fs).map U.int) (i:Int)=la (.int (xn:Int))from Bf hx)];refine fU sl λpe tr G4 s4 ne g4 tl te tm=>?_;rw[it_l g4];have wa:pe≠pf:=λz=>by rw[z,gf]at ne;cases ne
  have ja:pe≠Z:=λz=>by rw[z,gr]at ne;cases ne
  refine Ze (λj ς J=>∃(F:List (Int×Ent)) (o5 o6 o7:Option U),ς=[la (Jb xs ss),la r,la (.loc pf),la (.loc Z),la (.int i),o5,o6,o7]/\Sa G J/\J pe=la (.lst (tr.map (oi ss)))/\J pf=la (.dK (Wd F))/\J Z=la (.lst ((rts++Hb F).map .int))/\Jf W ss rts F/\(∃ext,F=fs++ext)/\∀e∈tr.take j,eS ss e∈rts++Hb F)
   ?_ ?_ ⟨fs,_,_,_,rfl,s3.trans s4,g4,s4 _ _ gf,s4 _ _ gr,rc,⟨[],by simp⟩,λe he=>by simp at he⟩
  ·rintro ς G5 ⟨F,o5,o6,o7,rfl,s5,ge,gf',gr',rc',⟨ext,hext⟩,hm⟩;rw[Ua,Ke]at hm;refine⟨by unfold Bc;rw[ge],?_⟩
   simp! only[];have ll:F.length=fs.length+ext.length:=by rw[hext,Ae]
   refine⟨W-(i+1),by lia,F,i+1,_,_,_,rfl,rfl,s5,gf',gr',rc',by lia,λj x' y hj I e=>?_⟩
   have xb:(rts++Hb F)[j]?=(rts++Hb fs)[j]?:=by
    rw[hext,show(rts++Hb (fs++ext))=(rts++Hb fs)++Hb ext by simp[Hb],Lh (by rw[Ae,kl];lia)]
   rw[xb]at I;have up:∀z,z∈rts++Hb fs->z∈rts++Hb F:=λz hz=>by
    rw[hext,show(rts++Hb (fs++ext))=(rts++Hb fs)++Hb ext by simp[Hb]]
    exact Cf _ hz
   by_cases ej:j=i
   ·subst ej;rw[hx]at I;cases I;rcases e with e|e
    ·obtain⟨s,hs,es⟩:=Ea.mp e;obtain⟨e1,e2⟩:=aq es;obtain⟨jj,xa,za⟩:=bg hs;have hg:ss[jj]?=la s:=by rw[ac xa,za]
     have:=hm _ ((tm jj s hg).2 (by lia))
     rw[eS_m hg,e2]at this;exact this
    ·obtain⟨s,hs,es⟩:=Ea.mp e;obtain⟨e1,e2⟩:=aq es;obtain⟨jj,xa,za⟩:=bg hs;have hg:ss[jj]?=la s:=by rw[ac xa,za]
     have:=hm _ ((tm jj s hg).1 (by lia))
     rw[eS_1 hg,e1]at this;exact this
   ·exact up _ (cl j x' y (by lia) I e)
  ·rintro j u ς G5 K hu ⟨F,o5,o6,o7,rfl,s5,ge,gf',gr',rc',⟨ext,hext⟩,hm⟩ hk2;rw[Lc]at hu;cases et:tr[j]? with
   |none=>rw[et]at hu;cases hu
   |some e=>
    rw[et]at hu;have hu:=(Zc hu).symm;subst hu;refine⟨by unfold Bc;rw[ge],?_⟩
    obtain⟨oe,ed⟩:=te e (Cd et);have ka:=Pg W _ rc'.nd rc'.bd;simp only[Hb,Ae,Ua]at ka;have I:(xn:Int)∈rts++Hb F:=by
     rw[hext,show(rts++Hb (fs++ext))=(rts++Hb fs)++Hb ext by simp[Hb]]
     exact Cf _ (Cd hx)
    simp! only[oi];refine⟨trivial,in_l gr' rfl (Zg _) ?_⟩;rw[Xg];by_cases cz:eS ss e∈rts++Hb F
    ·rw[if_neg (by rw[decide_eq_true cz];decide)]
     refine hk2 _ _ ⟨F,_,_,_,rfl,s5,ge,gf',gr',rc',⟨ext,hext⟩,λe' O=>?_⟩;rw[Ve,et]at O;rcases Fa.mp O with z|z
     ·exact hm e' z
     ·rw[bc.mp z];exact cz
    ·rw[if_pos (by rw[decide_eq_false cz];decide),KO gf']
     have fl:(Wd F).length=F.length:=Ua _;refine⟨by decide,by rw[fl];exact Eg (show F.length<=8 by lia) (by decide),λG6 p6=>?_⟩
     have va:=p6.sm _ _ (Qa ya) gr';simp! only[Of va,xg va];refine⟨Eg (show _<=9 by simp[Hb];lia) (by decide),λG7 p7=>?_⟩
     have bz:0<=eS ss e/\eS ss e<(W:Int):=by
      rcases oe.adj with z|z
      ·exact(LA so _ _ z).1
      ·exact(LA so _ _ z).2
     have pn:dPut (Wd F) (.inl (eS ss e)) (.tup [.int e.1,.int e.2])=Wd (F++[(eS ss e,e)]):=by
      rw[xQ λkv ha z=>?_]
      ·simp[Wd,eu]
      ·obtain⟨f,hf,rfl⟩:=Ea.mp ha;have z:=Wb.inj z;exact cz (Ee _ (Ea.mpr ⟨f,hf,z⟩))
     rw[pn]at p6;refine hk2 _ _ ⟨F++[(eS ss e,e)],_,_,_,rfl,R (.inr rfl) (R (.inl rfl) s5 p6) p7,p7.sm _ _ ja (p6.sm _ _ wa ge),p7.sm _ _ ya p6.at,?_,rc'.add oe (by rw[ed];exact I) bz cz,⟨ext++[(eS ss e,e)],by rw[hext,Kz]⟩,λe' O=>?_⟩
     ·have:=p7.at
      rw[this];simp[Hb]
     ·rw[Ve,et]at O;rw[show(rts++Hb (F++[(eS ss e,e)]))=(rts++Hb F)++[eS ss e] by simp[Hb]]
      rcases Fa.mp O with z|z
      ·exact Cf _ (hm e' z)
      ·rw[bc.mp z];exact Ee _ (bc.mpr rfl)
 ·rw[if_neg (by simpa using c)]
  refine q pf fs G3 s3 Y.no gf rc λx y hx e=>?_;obtain⟨j,hj,ej⟩:=bg hx;refine cl j x y ?_ (by rw[ac hj,ej]) e
  rw[Ae,kl]at hj
  lia
def ZS    (J:∀s∈ss,s.Ok W)(R:ss.length<=24)(hw:w<W)(Y:W<=8)(O:G j=la (.lst [.int w]))
  (q:∀pf (kvs:List (Ub×U)) (rs:List Int) f ,Sa G f->f pf=la (.dK kvs)->kvs.map (·.1)=rs.map (λx=>(Wb x:Ub))->eA W (ce ss) w rs->(∀x y,x∈(w:Int)::rs->((x,y)∈ce ss\/(y,x)∈ce ss)->y∈(w:Int)::rs)->Q (.loc pf) f) :
  db T (k+2) Nt [Jb xs ss,.loc j] G Q X:=
 zx (rts:=[(w:Int)]) J R (by simp) (λx F=>by rw[bc.mp F];lia) Y (λG1 s1 k h=>by rw[it_l (s1 _ _ O)];exact h) λpf fs f s' _ z Z I=>q pf (Wd fs) (Hb fs) f s' z (by simp[Wd,Hb]) Z.rch I
end

def Ho     (g:G a=la (.lst xs)):Se .extend (.loc a) G=la ("list", "list.extend"):=by unfold Se;dsimp only;rw[g]
def Bo      (g:G a=la (.lst xs))(g':G b=la (.lst ys)):ze .extend (.loc a) [.loc b] G Q=(xs.length+ys.length<=Za/\putO G a (.lst (xs++ys)) (Q .non)):=by unfold ze Jw;dsimp only;rw[g,g']
def CL    {ns:List Int}{G:Gp}(g:G a=la (.dK kvs))(h:kvs.map (·.1)=ns.map (λz=>(Wb z:Ub)))(q:newO G (.lst (ns.map .int)) Q):mkDU (.loc a) G Q:=by unfold mkDU;dsimp only;rw[g];exact⟨ns,h,q⟩
def tw  (ps:List (List Int)):U:=.tup (ps.map ub)
structure Pp (W:Nat)(es:List (Int×Int))(i:Nat)(ps:List (List Int))(pl:List Int):Prop where
 hd:∀p∈ps,∃h r,p=h::r/\h<(i:Int)
 as:∀p∈ps,p.Pairwise (·< ·)
 bd:∀p∈ps,∀x∈p,0<=x/\x<W
 co:∀p∈ps,∀x∈p,∀y∈p,Con es x y
 cl:∀p∈ps,∀x∈p,∀y,Con es x y->y∈p
 so:ps.Pairwise Sl
 me:∀x,x∈pl↔∃p∈ps,x∈p
 up:∀x:Int,0<=x->x<i->x∈pl
 l1:ps.length<=i
 l2:pl.length<=8*i
section
variable {W:Nat}{es:List (Int×Int)}
def Pp.nil  : Pp W es 0 [] []:=⟨λ_ h=>(nomatch h),λ_ h=>(nomatch h),λ_ h=>(nomatch h),λ_ h=>(nomatch h),λ_ h=>(nomatch h),.nil,λx=>by simp,λx q j=>by lia,Db _,Db _⟩
def Pp.skip     (h:Pp W es i ps j)(hi:(i:Int)∈j):Pp W es (i+1) ps j:=by
 refine⟨λp q=>?_,h.as,h.bd,h.co,h.cl,h.so,h.me,λx y F=>?_,by have:=h.l1;lia,by have:=h.l2;lia⟩
 ·obtain⟨a,r,e,l⟩:=h.hd p q;exact⟨a,r,e,by lia⟩
 ·by_cases e:x=i
  ·rw[e];exact hi
  ·exact h.up x y (by lia)
def Pp.add     (h:Pp W es i ps pl)(hi:(i:Int)∉pl)(w8:W<=8)(I:eA W es i rs)(cl:∀x y,x∈(i:Int)::rs->((x,y)∈es\/(y,x)∈es)->y∈(i:Int)::rs)
  (q:zs.Perm ((i:Int)::rs)) (hs:zs.Pairwise (·< ·)):Pp W es (i+1) (ps++[zs]) (pl++zs):=by
 have F:∀y,y∈zs↔y∈(i:Int)::rs:=λy=>q.mem_iff;have zc:∀x∈zs,∀y,Con es x y->y∈zs:=λx j y g=>(F y).mpr (g.closed (S:=λz=>z∈(i:Int)::rs) (λa b ha e=>cl a b ha e) ((F x).mp j));have R:(i:Int)∈zs:=(F _).mpr (by simp)
 have Z:∀y∈zs,(i:Int)<=y:=λy O=>by
  by_cases c:(i:Int)<=y
  ·exact c
  ·have za:=I.bd y ((F y).mp O);obtain⟨p,J,xa⟩:=(h.me y).mp (h.up y za.1 (by lia))
   exact absurd ((h.me _).mpr ⟨p,J,h.cl p J y xa i (I.co y ((F y).mp O)).symm⟩) hi
 obtain⟨r,ez⟩:∃r,zs=(i:Int)::r:=by
  cases zs with
  |nil=>cases R
  |cons a r=>
   refine⟨r,?_⟩;rcases Ic.mp R with z|z
   ·rw[z]
   ·have:=(Wa.mp hs).1 _ z;have:=Z a (by simp)
    lia
 have lz:zs.length<=8:=by
  rw[q.length_eq];exact Fb (Pg W _ I.nd I.bd) w8
 have one:∀{P:List Int->Prop},(∀p∈ps,P p)->P zs->∀p∈ps++[zs],P p:=λ{P} Y h2 p q=>by
  rcases Fa.mp q with z|z
  ·exact Y p z
  ·rw[bc.mp z];exact h2
 refine⟨one (λp q=>?_) ⟨_,r,ez,by lia⟩,one h.as hs,one h.bd λx j=>I.bd x ((F x).mp j),one h.co λx j y O=>(I.co x ((F x).mp j)).symm.trans (I.co y ((F y).mp O)),one h.cl zc,?_,λx=>?_,λx Y h2=>?_,by have:=h.l1;simp;lia,by have:=h.l2;simp;lia⟩
 ·obtain⟨a,r,e,l⟩:=h.hd p q;exact⟨a,r,e,by lia⟩
 ·refine List.pairwise_append.mpr ⟨h.so,Ju _ _,λp q z hz=>?_⟩;rw[bc.mp hz,ez];obtain⟨a,r',e,l⟩:=h.hd p q;rw[e];show HT.lexLt _ _=ma;rw[HT.lexLt_cons,if_neg (by lia)]
  exact decide_eq_true l
 ·rw[Fa,h.me x];constructor
  ·rintro(⟨p,q,j⟩|j)
   ·exact⟨p,Cf _ q,j⟩
   ·exact⟨zs,Ee _ (bc.mpr rfl),j⟩
  ·rintro⟨p,q,j⟩;rcases Fa.mp q with z|z
   ·exact .inl ⟨p,z,j⟩
   ·rw[bc.mp z]at j;exact .inr j
 ·by_cases e:x=i
  ·rw[e];exact Ee _ R
  ·exact Cf _ (h.up x Y (by lia))
def Pp.isP    (h:Pp W es W ps pl)(J:∀a b,(a,b)∈es->0<=a/\a<W):Vd W es ps:=by
 refine⟨λp j=>?_,h.as,h.bd,λx I F=>(h.me x).mp (h.up x I F),λp j q O x I F=>?_,?_,λa b e=>?_,h.co⟩
 ·obtain⟨a,r,e,_⟩:=h.hd p j;rw[e];simp
 ·exact pw_ext BL (h.as p j) (h.as q O) λy=>⟨λR=>h.cl q O x F y (h.co p j x I y R),λR=>h.cl p j x I y (h.co q O x F y R)⟩
 ·exact h.so.imp λ{a b} g e=>by rw[e]at g;exact EM _ _ g g
 ·have Z:=J a b e;obtain⟨p,j,Y⟩:=(h.me a).mp (h.up a Z.1 Z.2);exact⟨p,j,Y,h.cl p j a Y b (Con.one (.inl e))⟩
end

def QL  {W:Nat}(f:∀s∈ss,s.Ok W):∀a b,(a,b)∈ce ss->(0<=a/\a<W)/\0<=b/\b<W:=λa b h=>by
 obtain⟨s,j,e⟩:=Ea.mp h;have o:=f s j;have o1:=o.o;have o2:=o.t;obtain⟨y,q⟩:=aq e
 lia
def IE  (so:∀s∈ss,s.Ok xs.length)(sl:ss.length<=24)(w8:xs.length<=8)(q:∀(ps:List (List Int)) j ,Vd xs.length (ce ss) ps->ps.Pairwise Sl->ps.length<=8->Sa G j->Q (tw ps) j):db T (k+3) xx [Jb xs ss] G Q X:=by
 refine⟨rfl,?_⟩;simp! only[rF,nc,Kb];refine⟨by decide,λY G1 F=>?_⟩
 simp! only[];refine⟨by decide,λJ G2 I=>?_⟩
 have Z:J≠Y:=Bg F.at I.no;have f:∀{Ga Gb:Gp} {p:Ca} {o:MO},(p=Y\/p=J)->Sa G Ga->qg Ga p o Gb->Sa G Gb:=λ{Ga Gb p o} hp s w b u e=>w.sm _ _ (λz=>by
  rcases hp with rfl|rfl
  ·rw[z,F.no]at e;cases e
  ·rw[z]at e;have:=F.sa _ _ e;rw[I.no]at this;cases this) (s b u e)
 simp! only[AF,Jb,ix_t (Td _ _),Ua];refine⟨by lia,by lia,?_⟩
 refine Ze (λi ς j=>∃(ps:List (List Int)) (ls:List Int) (o3 o4:Option U),ς=[la (Jb xs ss),la (.loc Y),la (.loc J),o3,o4]/\Sa G j/\j Y=la (.lst (ps.map ub))/\j J=la (.lst (ls.map .int))/\Pp xs.length (ce ss) i ps ls) ?_ ?_ ⟨[],[],_,_,rfl,F.sa.trans I.sa,I.sa _ _ F.at,I.at,Pp.nil⟩
 ·rintro ς G3 ⟨ps,ls,o3,o4,rfl,s3,gp,gl,h⟩;rw[Zd]at h;refine⟨trivial,?_⟩;simp! only[it_l gp];exact q ps _ (h.isP λa b e=>(QL so a b e).1) h.so (by have:=h.l1;lia) s3
 ·rintro i x ς G3 K hx ⟨ps,ls,o3,o4,rfl,s3,gp,gl,h⟩ hk;obtain⟨hi,rfl⟩:=Xf hx;refine⟨trivial,?_⟩;simp! only[];refine in_l gl rfl (Zg _) ?_;rw[Xg];by_cases c:(i:Int)∈ls
  ·rw[if_neg (by rw[decide_eq_true c];decide)]
   exact hk _ _ ⟨ps,ls,_,_,rfl,s3,gp,gl,h.skip c⟩
  ·rw[if_pos (by rw[decide_eq_false c];decide)]
   refine⟨by decide,λp4 G4 n4=>⟨by decide,λp5 G5 n5=>?_⟩⟩
   refine ZS so sl hi w8 n5.at λpf va rs G6 s6 gf xa rc cl=>?_;refine CL gf xa λp7 G7 n7=>?_;have g4:=n7.sa _ _ (s6 _ _ (n5.sa _ _ n4.at));have rl:=Pg _ _ rc.nd rc.bd;simp only[Nh]at rl;refine⟨_,_,g4,n7.at,Fb (show _<=9 by simp;lia) (by decide),λp8 G8 n8=>?_⟩
   have e8:[U.int (i:Int)]++rs.map .int=((i:Int)::rs).map .int:=rfl;rw[e8]at n8;simp! only[];refine iB n8.at rc.nd (by simp;lia) λzs hp hs p9 G9 y=>?_
   have s8:Sa G3 G8:=(((n4.sa.trans n5.sa).trans s6).trans n7.sa).trans n8.sa;have s9:Sa G3 G9:=s8.trans y.sa;have q1:p9≠J:=Bg (s8 _ _ gl) y.no;have q2:p9≠Y:=Bg (s8 _ _ gp) y.no;have ja:=s9 _ _ gp;have O:=s9 _ _ gl;have h':=h.add c w8 rc cl hp hs;have lz:zs.length<=8:=by rw[hp.length_eq];simp;lia
   have l2:=h.l2;have l1:=h.l1;simp! only[Ho O,Bo O y.at];refine⟨Fb (show _<=100 by simp;lia) (by decide),λGa pa=>?_⟩
   have R:=pa.sm _ _ (Qa Z) ja;have za:=pa.sm _ _ q1 y.at
   simp! only[Of R,it_l za,xg R];refine⟨by rw[Ua];exact Eg (show ps.length<=8 by lia) (by decide),λGb pb=>?_⟩
   refine hk _ _ ⟨ps++[zs],ls++zs,_,_,rfl,f (.inl rfl) (f (.inr rfl) (s3.trans s9) pa) pb,?_,?_,h'⟩
   ·rw[Oc];exact pb.at
   ·rw[Oc];exact pb.sm _ _ Z pa.at

noncomputable def hit  (o t:Int)(k:List Int):Bool:=decide (o∈k)||decide (t∈k)
def sj    : hit o t k=ma↔o∈k\/t∈k:=by unfold hit;simp
section
variable {W:Nat}{es:List (Int×Int)}{ks:List (List Int)}
def Vd.perm   (h:Vd W es ks)(p:j.Perm ks):Vd W es j:=by
 have m:∀k,k∈j↔k∈ks:=λk=>p.mem_iff;refine⟨λk hk=>h.ne k ((m k).mp hk),λk hk=>h.as k ((m k).mp hk),λk hk=>h.bd k ((m k).mp hk),λx J I=>?_,λk hk q F=>h.un k ((m k).mp hk) q ((m q).mp F),p.nodup_iff.mpr h.nd,λa b e=>?_,λk hk=>h.co k ((m k).mp hk)⟩
 ·obtain⟨k,hk,y⟩:=h.al x J I;exact⟨k,(m k).mpr hk,y⟩
 ·obtain⟨k,hk,y⟩:=h.ed a b e;exact⟨k,(m k).mpr hk,y⟩
def Vd.zero  : Vd W [] ((Qc W).map λ(i:Nat)=>[(i:Int)]):=by
 have m:∀k,k∈(Qc W).map (λ(i:Nat)=>[(i:Int)])↔∃i:Nat,i<W/\k=[(i:Int)]:=λk=>by
  rw[Ea];constructor
  ·rintro⟨i,F,rfl⟩;exact⟨i,Ra.mp F,rfl⟩
  ·rintro⟨i,F,rfl⟩;exact⟨i,Ra.mpr F,rfl⟩
 refine⟨λk hk=>?_,λk hk=>?_,λk hk x I=>?_,λx J O=>?_,λk hk q R x J O=>?_,?_,λ_ _ h=>(nomatch h),λk hk x I y Y=>?_⟩
 ·obtain⟨i,_,rfl⟩:=(m k).mp hk;simp
 ·obtain⟨i,_,rfl⟩:=(m k).mp hk;exact Ju _ _
 ·obtain⟨i,F,rfl⟩:=(m k).mp hk;rw[bc.mp I];lia
 ·obtain⟨n,rfl⟩:=Gg J;exact⟨[(n:Int)],(m _).mpr ⟨n,by lia,rfl⟩,by simp⟩
 ·obtain⟨i,_,rfl⟩:=(m k).mp hk;obtain⟨j,_,rfl⟩:=(m q).mp R;rw[<- bc.mp J,<- bc.mp O]
 ·refine Qe.mpr (List.nodup_range.imp λ{a b} h e=>h ?_);have:=(Lz e).1
  lia
 ·obtain⟨i,_,rfl⟩:=(m k).mp hk;rw[bc.mp I,bc.mp Y];exact .refl _
def Vd.flat  (h:Vd W es ks):(ks.filter (hit o t)).flatten.Nodup/\∀x∈(ks.filter (hit o t)).flatten,0<=x/\x<W:=by
 refine⟨List.pairwise_flatten.mpr ⟨λl q=>(h.as l (Ff.mp q).1).imp λ{a b} g e=>by lia,?_⟩,λx j=>?_⟩
 ·refine(h.nd.sublist YH).imp_of_mem λ{a b} J I F x j y O e=>F ?_;exact h.un a (Ff.mp J).1 b (Ff.mp I).1 x j (e ▸ O)
 ·obtain⟨l,q,j⟩:=List.mem_flatten.mp j;exact h.bd l (Ff.mp q).1 x j
def Vd.step  (h:Vd W es ks){o t:Int}(ho:0<=o/\o<W)(ht:0<=t/\t<W)(hp:zs.Perm (ks.filter (hit o t)).flatten)(hs:zs.Pairwise (·< ·)):Vd W (es++[(o,t)]) (ks.filter (λk=>!hit o t k)++[zs]):=by
 have O:∀x,x∈zs↔∃k∈ks,hit o t k=ma/\x∈k:=λx=>by
  rw[hp.mem_iff,List.mem_flatten];constructor
  ·rintro⟨l,hl,j⟩;exact⟨l,(Ff.mp hl).1,(Ff.mp hl).2,j⟩
  ·rintro⟨l,F,I,j⟩;exact⟨l,Ff.mpr ⟨F,I⟩,j⟩
 have mf:∀k,k∈ks.filter (λk=>!hit o t k)↔k∈ks/\¬hit o t k=ma:=λk=>by rw[Ff];simp
 obtain⟨ko,xa,Z⟩:=h.al o ho.1 ho.2;obtain⟨kt,ja,R⟩:=h.al t ht.1 ht.2;have oz:o∈zs:=(O o).mpr ⟨ko,xa,sj.mpr (.inl Z),Z⟩;have tz:t∈zs:=(O t).mpr ⟨kt,ja,sj.mpr (.inr R),R⟩;have up:∀{x y},Con es x y->Con (es++[(o,t)]) x y:=λg=>g.mono λa b e=>.inl (Cf _ e);have ot:Con (es++[(o,t)]) o t:=Con.one (.inl (Ee _ (bc.mpr rfl)));have zo:∀x∈zs,Con (es++[(o,t)]) o x:=λx j=>by
  obtain⟨k,hk,hh,J⟩:=(O x).mp j;rcases sj.mp hh with z|z
  ·exact up (h.co k hk o z x J)
  ·exact ot.trans (up (h.co k hk t z x J))
 have one:∀{P:List Int->Prop},(∀k∈ks,¬hit o t k=ma->P k)->P zs->∀p∈ks.filter (λk=>!hit o t k)++[zs],P p:=λ{P} F I p hp=>by
  rcases Fa.mp hp with z|z
  ·exact F p ((mf p).mp z).1 ((mf p).mp z).2
  ·rw[bc.mp z];exact I
 have put:∀{k:List Int},k∈ks->∀{P:List Int->Prop},P k->(hit o t k=ma->P zs)->∃p∈ks.filter (λk=>!hit o t k)++[zs],P p:=λ{k} hk {P} F I=>by
  by_cases c:hit o t k=ma
  ·exact⟨zs,Ee _ (bc.mpr rfl),I c⟩
  ·exact⟨k,Cf _ ((mf k).mpr ⟨hk,c⟩),F⟩
 refine⟨one (λk hk _=>h.ne k hk) (λz=>by rw[z]at oz;cases oz),one (λk hk _=>h.as k hk) hs,one (λk hk _=>h.bd k hk) λx j=>?_,λx F I=>?_,?_,?_,λa b e=>?_,one (λk hk _ x j y hy=>up (h.co k hk x j y hy)) λx j y hy=>(zo x j).symm.trans (zo y hy)⟩
 ·obtain⟨k,hk,_,J⟩:=(O x).mp j;exact h.bd k hk x J
 ·obtain⟨k,hk,j⟩:=h.al x F I;exact put hk (P:=λp=>x∈p) j λc=>(O x).mpr ⟨k,hk,c,j⟩
 ·have no:∀k∈ks,¬hit o t k=ma->∀x,x∈k->x∈zs->False:=λk hk c x j hz=>by
   obtain⟨k',za,c',va⟩:=(O x).mp hz;rw[h.un k hk k' za x j va]at c;exact c c'
  refine one (λk hk c=>one (λq hq _ x F I=>h.un k hk q hq x F I) λx F I=>(no k hk c x F I).elim) (one (λq hq c x F I=>(no q hq c x I F).elim) λ_ _ _=>rfl)
 ·refine Ec.mpr ⟨h.nd.sublist YH,by simp,λa Y b hb e=>?_⟩
  rw[bc.mp hb]at e;rw[e]at Y;exact((mf zs).mp Y).2 (sj.mpr (.inl oz))
 ·rcases Fa.mp e with e|e
  ·obtain⟨k,hk,Y,hb⟩:=h.ed a b e;exact put hk (P:=λp=>a∈p/\b∈p) ⟨Y,hb⟩ λc=>⟨(O a).mpr ⟨k,hk,c,Y⟩,(O b).mpr ⟨k,hk,c,hb⟩⟩
  ·have e:=bc.mp e;obtain⟨rfl,rfl⟩:=aq e;exact⟨zs,Ee _ (bc.mpr rfl),oz,tz⟩
def Vd.fewer  (h:Vd W es ks){o t:Int}(y:0<=o/\o<W):(ks.filter (λk=>!hit o t k)).length<ks.length:=by
 obtain⟨F,q,j⟩:=h.al o y.1 y.2;have:=sj (t:=t) |>.mpr (.inl j);exact List.length_filter_lt_length_iff_exists.mpr ⟨F,q,by simp[this]⟩
end
structure Lq (G:Gp)(p:Ca)(el:List (Ca×List Int)):Prop where
 gp:G p=la (.lst (el.map λe=>.loc e.1))
 ga:∀e∈el,G e.1=la (.lst (e.2.map .int))
def Lq.sa     (h:Lq G p q)(s:Sa G G'):Lq G' p q:=⟨s _ _ h.gp,λe j=>s _ _ (h.ga e j)⟩
def Lq.ls     (h:Lq G p y):Ls G p (y.map (·.1)) (y.map (·.2)):=by
 refine⟨by rw[h.gp,Pe];rfl,by simp,λi a k j q=>?_⟩
 rw[Lc]at j q;cases e:y[i]? with
 |none=>rw[e]at j;cases j
 |some x=>
  rw[e]at j q;cases j;cases q;exact h.ga x (Cd e)
theorem jt   : ∀l:List Int,Hg G (l.map .int) (l.map .int)
 |[]=>.nil
 |_::r=>.cons (.int _) (jt r)
def jE  (l:List Int):Small (.list (l.map .int)):=⟨(tj l).1,by show Yh (l.map .int)+1<=100;rw[(tj l).2.1];decide⟩
def GP       (J:G b=la (.lst (j.map .int)))(h:Lq G p f)(q:k (decide (j∈f.map (·.2)))):ig (.loc b) (.loc p) G k:=by
 unfold ig;dsimp only;rw[h.gp];refine .inr ⟨.list (j.map .int),f.map λe=>.list (e.2.map .int),.lst (by unfold Bc;rw[J]) (jt _),?_,jE j,λe y=>?_,?_⟩
 ·have I:=h.ga;clear h q
  induction f with
  |nil=>exact .nil
  |cons e f R=>exact .cons (.lst (by unfold Bc;rw[I e cf]) (jt _)) (R λe y=>I e (Pd _ y))
 ·obtain⟨z,_,rfl⟩:=Ea.mp y;exact jE z.2
 ·have:(f.map λe=>Va.list (e.2.map .int)).any (λe=>Ud e (.list (j.map .int)))=decide (j∈f.map (·.2)):=by
   rw[Ej,ny,decide_eq_true_eq];constructor
   ·rintro⟨d,hd,e⟩;obtain⟨z,F,rfl⟩:=Ea.mp hd;rw[Hw]at e;exact Ea.mpr ⟨z,F,of_decide_eq_true e⟩
   ·intro O;obtain⟨z,F,e⟩:=Ea.mp O;exact⟨_,Ea.mpr ⟨z,F,rfl⟩,by rw[Hw];exact decide_eq_true e⟩
  rw[this];exact q
def Bi    (s:Sa G G')(h:G' p=Aa):G p=Aa:=by
 cases e:G p with
 |none=>rfl
 |some o=>rw[s _ _ e]at h;cases h

def IT  {X: KX}{s:Qb}(os:s.Ok W)(w8:W<=8)(hq:Lq G3 p f)(hP:Vd W es (f.map (·.2)))(ll:f.length<=8)(s3:Sa G G3)(fr:∀e∈f,G e.1=Aa)
  (kk:∀p' (O:List (Ca×List Int)) I o7 o8 o9 ,Lq I p' O->Vd W (es++[((s.o:Int),(s.t:Int))]) (O.map (·.2))->O.length<=8->Sa G I->(∀e∈O,G e.1=Aa)->K [u0,la (.loc p'),u2,la (.int s.o),la (.int s.t),u5,u6,o7,o8,o9] I) :
  He T.gs (db T k) dy ⟨K,Q,λx _ I=>X x I⟩ [u0,la (.loc p),u2,la (.int s.o),la (.int s.t),u5,u6,o7,o8,o9] G3:=by
 have bo:0<=(s.o:Int)/\(s.o:Int)<W:=by have:=os.o;lia
 have bt:0<=(s.t:Int)/\(s.t:Int)<W:=by have:=os.t;lia
 simp! only[dy,it_l hq.gp];refine⟨by rw[Ua];exact Fb ll (by decide),?_⟩
 refine Ce (λi q I=>I=G3/\q=((f.take i).filter λe=>hit s.o s.t e.2).map λe=>U.loc e.1) ?_ ?_ ⟨rfl,rfl⟩
 ·rintro q G4 ⟨rfl,rfl⟩;rw[Ua,Ke];refine⟨by unfold Bc;rw[hq.gp],λpm G5 n5=>?_⟩
  have hm:Lq G5 pm (f.filter λe=>hit s.o s.t e.2):=⟨n5.at,λe J=>n5.sa _ _ (hq.ga e (Ff.mp J).1)⟩;have F:=hq.sa n5.sa;have em:(f.filter λe=>hit s.o s.t e.2).map (·.2)=(f.map (·.2)).filter (hit s.o s.t):=by rw[List.filter_map];rfl
  simp! only[fH,it_l F.gp];refine⟨by rw[Ua];exact Fb ll (by decide),?_⟩
  refine Ce (λi q I=>I=G5/\q=((f.take i).filter λe=>!hit s.o s.t e.2).map λe=>U.loc e.1) ?_ ?_ ⟨rfl,rfl⟩
  ·rintro q G6 ⟨rfl,rfl⟩;rw[Ua,Ke];refine⟨by unfold Bc;rw[F.gp],λpn G7 n7=>?_⟩
   have hn:Lq G7 pn (f.filter λe=>!hit s.o s.t e.2):=⟨n7.at,λe J=>n7.sa _ _ (F.ga e (Ff.mp J).1)⟩;have va:=hm.sa n7.sa;have en:(f.filter λe=>!hit s.o s.t e.2).map (·.2)=(f.map (·.2)).filter (λk=>!hit s.o s.t k):=by rw[List.filter_map];rfl
   simp! only[gH];refine⟨by decide,λp8 G8 n8=>?_⟩
   have R:=va.sa n8.sa;have ya:=hn.sa n8.sa;have s8:Sa G G8:=((s3.trans n5.sa).trans n7.sa).trans n8.sa;have fl:=hP.flat (o:=s.o) (t:=s.t);simp! only[iH,it_l R.gp];refine Ze (λi ς I=>∃(pw:Ca) (o9:Option U),ς=[u0,la (.loc pn),u2,la (.int s.o),la (.int s.t),u5,u6,la (.loc pm),la (.loc pw),o9]/\Sa G8 I/\I pw=la (.lst ((((f.filter λe=>hit s.o s.t e.2).take i).map (·.2)).flatten.map .int))) ?_ ?_ ⟨p8,_,rfl,Sa.refl,n8.at⟩
   ·rintro ς G9 ⟨pw,o9,rfl,s9,gw⟩;rw[Ua,Ke,em]at gw;refine⟨by unfold Bc;rw[s9 _ _ R.gp],?_⟩
    have Z:=ya.sa s9;simp! only[jH,Of Z.gp];have lf:=Pg W _ fl.1 fl.2;refine iB gw fl.1 (by lia) λzs hp hs pz Ga Y=>?_
    have xa:=Z.sa Y.sa;rw[xg xa.gp];have fw:=hP.fewer (t:=s.t) bo;rw[<- en,Ua,Ua]at fw;refine⟨by rw[Ua];exact Eg (show _<=8 by lia) (by decide),λGb pb=>?_⟩
    have fresh:G pn=Aa:=Bi (s3.trans n5.sa) n7.no;have ja:∀e∈f,e.1≠pn:=λe J=>Qa (Bg (F.ga e J) n7.no);refine kk pn ((f.filter λe=>!hit s.o s.t e.2)++[(pz,zs)]) Gb _ _ _ ⟨by rw[Oc];exact pb.at,λe J=>?_⟩ ?_ (by rw[Ae];simp;lia) (λb o e=>pb.sm _ _ (λz=>by rw[z,fresh]at e;cases e) (Y.sa _ _ (s9 _ _ (s8 _ _ e)))) ?_
    ·rcases Fa.mp J with z|z
     ·exact pb.sm _ _ (ja e (Ff.mp z).1) (xa.ga e z)
     ·rw[bc.mp z];exact pb.sm _ _ (Bg Z.gp Y.no) Y.at
    ·rw[Oc,en];exact hP.step bo bt hp hs
    ·intro e J;rcases Fa.mp J with z|z
     ·exact fr e (Ff.mp z).1
     ·rw[bc.mp z];exact Bi (s8.trans s9) Y.no
   ·rintro i x ς G9 K9 j ⟨pw,o9,rfl,s9,gw⟩ hk;rw[Lc]at j;cases y:(f.filter λe=>hit s.o s.t e.2)[i]? with
    |none=>rw[y]at j;cases j
    |some e=>
     rw[y]at j;have j:=(Zc j).symm;subst j;refine⟨by unfold Bc;rw[s9 _ _ R.gp],?_⟩
     have ge:=s9 _ _ (R.ga e (Cd y));simp! only[];have e1:(((f.filter λe=>hit s.o s.t e.2).take (i+1)).map (·.2)).flatten=(((f.filter λe=>hit s.o s.t e.2).take i).map (·.2)).flatten++e.2:=by
      rw[Ve,y,Oc,ZH];simp
     have lf:=Pg W _ fl.1 fl.2;have l1:((((f.filter λe=>hit s.o s.t e.2).take i).map (·.2)).flatten++e.2).length<=8:=by
      rw[<- e1];refine Fb ?_ (Fb lf w8);rw[<- em]
      conv=>rhs;rw[<- List.take_append_drop (i+1) (f.filter λe=>hit s.o s.t e.2)]
      rw[Oc,ZH,Ae]
      lia
     rw[Ae]at l1;refine⟨_,_,gw,ge,by rw[Ua,Ua];exact Fb l1 (by decide),λpz Ga Y=>hk _ _ ⟨pz,_,rfl,s9.trans Y.sa,?_⟩⟩
     rw[e1,Oc];exact Y.at
  ·rintro i x q G6 K6 j ⟨rfl,rfl⟩ hk hn;rw[Lc]at j;cases y:f[i]? with
   |none=>rw[y]at j;cases j
   |some e=>
    rw[y]at j;have j:=(Zc j).symm;subst j;have J:=Cd y;refine⟨by unfold Bc;rw[F.gp],?_⟩
    simp! only[];refine GP (F.ga e J) hm ?_;have e0:decide (e.2∈(f.filter λe=>hit s.o s.t e.2).map (·.2))=hit s.o s.t e.2:=by
     rw[em,Ej,decide_eq_true_eq,Ff];exact⟨λz=>z.2,λz=>⟨Ea.mpr ⟨e,J,rfl⟩,z⟩⟩
    rw[e0];have et:f.take (i+1)=f.take i++[e]:=by rw[Ve,y];rfl
    cases c:hit s.o s.t e.2 with
    |true=>
     rw[if_neg (by decide)]
     exact hn _ ⟨rfl,by rw[et,Ii,XI (by simp[c])];simp⟩
    |false=>
     rw[if_pos (by decide)]
     exact hk _ _ ⟨rfl,by rw[et,Ii,YI (by simp[c]),Oc];rfl⟩
 ·rintro i x q G4 K4 j ⟨rfl,rfl⟩ hk hn;rw[Lc]at j;cases y:f[i]? with
  |none=>rw[y]at j;cases j
  |some e=>
   rw[y]at j;have j:=(Zc j).symm;subst j;have ge:=hq.ga e (Cd y);refine⟨by unfold Bc;rw[hq.gp],?_⟩
   simp! only[];have et:f.take (i+1)=f.take i++[e]:=by rw[Ve,y];rfl
   have za:hit s.o s.t e.2=ma->K4 (la (.loc e.1)) G4:=λc=>hk _ _ ⟨rfl,by rw[et,Ii,YI (by simpa using c),Oc];rfl⟩
   have no:¬hit s.o s.t e.2=ma->K4 Aa G4:=λc=>hn _ ⟨rfl,by rw[et,Ii,XI (by simpa using c)];simp⟩
   refine in_l ge rfl (Zg _) ?_;rw[Xg];by_cases c1:(s.o:Int)∈e.2
   ·rw[if_pos (decide_eq_true c1)];exact za (sj.mpr (.inl c1))
   ·rw[if_neg (by rw[decide_eq_false c1];decide)]
    refine in_l ge rfl (Zg _) ?_;rw[Xg];by_cases c2:(s.t:Int)∈e.2
    ·rw[if_pos (decide_eq_true c2)];exact za (sj.mpr (.inr c2))
    ·rw[if_neg (by rw[decide_eq_false c2];decide)]
     exact no λz=>(sj.mp z).elim c1 c2

def GM       (h:Ls G a as ks)(nd:ks.Nodup)(Z:ks.length<64)(q:∀p as' (I:List (List Int)) J ,I.Perm ks->I.Pairwise Sl->Sa G J->Ls J p as' I->(∀b∈as',b∈as)->Q (.loc p) J):uj [.loc a] G Q:=by
 unfold uj;dsimp only;rw[h.gp];refine⟨ks,nd,by rw[Ua,h.l];exact bf Z (by decide),by rw[Ua,h.l],.inr (.inl ⟨as,rfl,h.ga⟩),λf Y hs=>?_⟩
 rw[Ua,h.l]at Y hs;have z:∀i∈f,i<ks.length:=λi y=>Ra.mp (Y.mem_iff.mp y);have pl:f.length=ks.length:=by rw[Y.length_eq,ci]
 have e:(f.map λi=>(as.map U.loc).getD i .non)=(f.map λi=>as.getD i a).map .loc:=by
  rw[Pe];refine ul λi y=>?_;have:=z i y;rw[<- h.l]at this;simp[Xc,this]
 rw[e];intro p J n;refine q p _ (f.map λi=>ks.getD i []) J (gE ks [] Y) (iw Hs λi y=>?_) n.sa ⟨n.at,by simp,λi a' k F R=>n.sa _ _ ?_⟩ λb hb=>?_
 ·have y:i+1<ks.length:=by simpa[pl]using y
  have h1:i<f.length:=by lia
  have h2:i+1<f.length:=by lia
  have:=hs i y;rw[show f.getD i 0=f[i] by simp[Xc,h1],show f.getD (i+1) 0=f[i+1] by simp[Xc,h2]]at this
  simpa using this
 ·rw[Lc]at F R;cases ep:f[i]? with
  |none=>rw[ep]at F;cases F
  |some j=>
   rw[ep]at F R;have hj:=z j (Cd ep);have O:j<as.length:=by rw[h.l];exact hj
   have F:=Zc F;have R:=Zc R;refine h.ga j a' k ?_ ?_
   ·rw[ac O,<- F];simp[Xc,O]
   ·rw[ac hj,<- R];simp[Xc,hj]
 ·obtain⟨i,y,rfl⟩:=Ea.mp hb;have:=z i y;rw[<- h.l]at this;rw[show as.getD i a=as[i] by simp[Xc,this]]
  exact Mh this

def uF  (so:∀s∈ss,s.Ok xs.length)(w8:xs.length<=8)(q:∀p as (ks:List (List Int)) j ,Sa G j->Ls j p as ks->Vd xs.length (ce ss) ks->ks.Pairwise Sl->ks.length<=8->(∀a∈as,G a=Aa)->Q (.loc p) j):db T (k+1) Ix [Jb xs ss] G Q X:=by
 refine⟨rfl,?_⟩;simp! only[fF,nc,Kb,Jb,ix_t (Td _ _),Ua];refine⟨by lia,by lia,by rw[Zd];exact Fb w8 (by decide),?_⟩
 refine Ce (λi I j=>∃f:List (Ca×List Int),I=f.map (λe=>.loc e.1)/\Sa G j/\(∀e∈f,j e.1=la (.lst (e.2.map .int)))/\f.map (·.2)=((Qc i).map λ(i:Nat)=>[(i:Int)])/\∀e∈f,G e.1=Aa) ?_ ?_ ⟨[],rfl,Sa.refl,λ_ h=>(nomatch h),rfl,λ_ h=>(nomatch h)⟩
 ·rintro I G1 ⟨f,rfl,s1,ga,ek,fr⟩;rw[Zd]at ek;refine⟨trivial,λp G2 F=>?_⟩;have O:Lq G2 p f:=⟨F.at,λe J=>F.sa _ _ (ga e J)⟩;have R:f.length<=8:=by
   have:=congrArg Cp ek;rw[Ua,Ua,ci]at this
   lia
  simp! only[wG,ix_t (Ad _ _ _)];refine Ze (λi Z j=>∃(p:Ca) (f:List (Ca×List Int)) (o2 o3 o4 o5 o6 o7 o8 o9:Option U),Z=[la (Jb xs ss),la (.loc p),o2,o3,o4,o5,o6,o7,o8,o9]/\Lq j p f/\Vd xs.length (ce (ss.take i)) (f.map (·.2))/\f.length<=8/\Sa G j/\∀e∈f,G e.1=Aa) ?_ ?_ ⟨p,f,_,_,_,_,_,_,_,_,rfl,O,by rw[ek];exact Vd.zero,R,s1.trans F.sa,fr⟩
  ·rintro Z G3 ⟨p,f,o2,o3,o4,o5,o6,o7,o8,o9,rfl,O,hP,R,s3,fr⟩;rw[Ua,Ke]at hP;refine⟨trivial,?_⟩;simp! only[xG];refine GM O.ls hP.nd (by rw[Ua];lia) λp' za ja G4 hp hs s4 h4 hm=>?_
   exact q p' za ja G4 (s3.trans s4) h4 (hP.perm hp) hs (by rw[hp.length_eq,Ua];exact R) λa ha=>by
    obtain⟨e,J,rfl⟩:=Ea.mp (hm a ha);exact fr e J
  ·rintro i x Z G3 K y ⟨p,f,o2,o3,o4,o5,o6,o7,o8,o9,rfl,O,hP,R,s3,fr⟩ hk;rw[Lc]at y;cases Y:ss[i]? with
   |none=>rw[Y]at y;cases y
   |some s=>
    rw[Y]at y;have y:=(Zc y).symm;subst y;refine⟨trivial,?_⟩;simp! only[Qb.u];refine⟨trivial,IT (so s (Cd Y)) w8 O hP R s3 fr λp' xa j o7 o8 o9 h1 h2 h3 h4 h5=>hk _ _ ⟨p',xa,_,_,_,_,_,_,_,_,rfl,h1,?_,h3,h4,h5⟩⟩;have:ce (ss.take (i+1))=ce (ss.take i)++[((s.o:Int),(s.t:Int))]:=by unfold ce;rw[Ve,Y,Oc];rfl
    rw[this];exact h2
 ·rintro i x I G1 K y ⟨f,rfl,s1,ga,ek,fr⟩ hk _;obtain⟨hi,rfl⟩:=Xf y;refine⟨trivial,?_⟩;simp! only[];refine⟨by decide,λp G2 F=>hk _ _ ⟨f++[(p,[(i:Int)])],by rw[Oc];rfl,s1.trans F.sa,λe J=>?_,by rw[Oc,ek,Dp,Oc];rfl,λe J=>?_⟩⟩
  rcases Fa.mp J with z|z
  ·exact F.sa _ _ (ga e z)
  ·rw[bc.mp z];exact F.at
  rcases Fa.mp J with z|z
  ·exact fr e z
  ·rw[bc.mp z];exact Bi s1 F.no
def mQ    (q:xs.length<=8)(nm:∀x∈xs,Nm x)(F:ss.length<=24)(z:∀s∈ss,s.Ok xs.length):Ft 600000 3 (Jb xs ss):=by
 refine(Ft.tup (n:=260000) (k:=2) (m:=2) (Db _) (λu hu=>?_) (by decide)).mono (Db _) (Db _)
 simp only[Ic,Je,or_false]at hu;rcases hu with rfl|rfl
 ·refine(Ft.tup (n:=82) (k:=0) (m:=8) (by rw[Ua];exact q) (λv f=>?_) (by decide:_<=1000)).mono (by decide) (by decide)
  obtain⟨x,j,rfl⟩:=Ea.mp f;exact Ft.str (nm x j).l8 (nm x j).ch
 ·refine Ft.tup (n:=10000) (k:=1) (m:=25) (by rw[Ua];lia) (λv f=>?_) (by decide)
  obtain⟨s,y,rfl⟩:=Ea.mp f;exact(z s y).ft q
def IC     (h:k ua):cmpU .NotEq (.str x) (.str x) G k:=by
 show k (!decide (x=x));rw[decide_eq_true rfl];exact h

def Wk  (ss:List Qb):List Ent->Int->Int->Prop
 |[],a,b=>a=b
 |e::r,a,b=>Be ss e/\eS ss e=a/\Wk ss r (eD ss e) b
noncomputable def Nf  (e:Ent):Ent:=(e.1,-e.2)
section
variable {ss:List Qb}
theorem Wk.app  : ∀{r r' } {a m b },Wk ss r a m->Wk ss r' m b->Wk ss (r++r') a b
 |[],_,_,_,_,h,g=>by rw[show _=_ from h];exact g
 |_::r,_,_,_,_,⟨h1,h2,h3⟩,g=>⟨h1,h2,Wk.app h3 g⟩
theorem Wk.last  : ∀{r } {e } {a b },Wk ss (r++[e]) a b->Wk ss r a (eS ss e)/\Be ss e/\eD ss e=b
 |[],e,a,b,⟨h1,h2,h3⟩=>⟨h2.symm,h1,h3⟩
 |_::r,e,a,b,⟨h1,h2,h3⟩=>let ⟨j,q⟩:=Wk.last h3;⟨⟨h1,h2,j⟩,q⟩
def Be.flip   (h:Be ss e):Be ss (Nf e)/\eS ss (Nf e)=eD ss e/\eD ss (Nf e)=eS ss e:=by
 obtain⟨s,j,z⟩:=h.get;rcases z with⟨z,y,q⟩|⟨z,y,q⟩
 ·rw[y,q,z];exact⟨⟨h.1,.inr rfl⟩,eS_m j,eD_m j⟩
 ·rw[y,q,z];exact⟨⟨h.1,.inl rfl⟩,eS_1 j,eD_1 j⟩
theorem Wk.rev  : ∀{r } {a b },Wk ss r a b->Wk ss (r.reverse.map Nf) b a
 |[],_,_,h=>Eq.symm h
 |e::r,a,b,⟨h1,h2,h3⟩=>by
  rw[Ip,Oc];refine(Wk.rev h3).app ?_;obtain⟨y,q,j⟩:=h1.flip;exact⟨y,q,j.trans h2⟩
def vL        (g:G a=la (.frk o kvs))(q:k (dGet kvs (.inl z)).isSome):ig (.int z) (.loc a) G k:=by unfold ig;dsimp only;rw[g];exact q
def WA         (g:G a=la (.frk o kvs))(h:dGet kvs (.inl z)=la u):af (.loc a) (.int z) G Q=Q u G:=by unfold af;dsimp only;rw[g];dsimp only[kU];rw[h]
def DP       (g:G a=la (.dK kvs)):kh f (.loc a) G Q=∀o j,qg G a (.frk o kvs) j->Q (f kvs) (λj=>j a=la (.frk o kvs)) j:=by unfold kh;dsimp only;rw[g]
def pC        (g:G a=la (.frk o kvs)):kh f (.loc a) G Q=Q (f kvs) (λj=>j a=la (.frk o kvs)) G:=by unfold kh;dsimp only;rw[g]
theorem iC  : ∀{fs } {z },z∉Hb fs->dGet (Wd fs) (.inl z)=Aa
 |[],_,_=>rfl
 |f::fs,z,h=>by
  have q:¬f.1=z:=λe=>h (by rw[<- e];simp[Hb])
  have j:z∉Hb fs:=λe=>h (Pd _ e);have:=iC j;unfold dGet Wd at this ⊢;rw[Le,pJ (by simpa using q)]
  exact this
theorem jC  : ∀{fs } {j:Nat} {f },(Hb fs).Nodup->fs[j]?=la f->dGet (Wd fs) (.inl f.1)=la (eu f.2)
 |[],_,_,_,h=>by simp at h
 |g::fs,0,f,_,h=>by
  simp at h;subst h;unfold dGet Wd;rw[Le,List.find?_cons_of_pos (by simp)];rfl
 |g::fs,j+1,f,q,h=>by
  simp at h;have q:=Rb.mp (show(g.1::Hb fs).Nodup from q);have y:¬g.1=f.1:=λe=>q.1 (by rw[e];exact Lo h)
  have:=jC q.2 h;unfold dGet Wd at this ⊢;rw[Le,pJ (by simpa using y)]
  exact this
def kQ    (F:(rts++Hb fs).Nodup)(h:z∈rts++Hb (fs.take n)) :
  (z∈rts/\dGet (Wd fs) (.inl z)=Aa)\/∃j f,j<n/\fs[j]?=la f/\f.1=z/\dGet (Wd fs) (.inl z)=la (eu f.2):=by
 obtain⟨_,q,I⟩:=Ec.mp F;rcases Fa.mp h with z'|z'
 ·exact .inl ⟨z',iC λy=>I z z' z y rfl⟩
 ·obtain⟨i,f,J,e,rfl⟩:=To z';exact .inr ⟨i,f,J,e,rfl,jC q e⟩
end

def KC   (h:Be ss e)(q:Q (.tup [.int (eS ss e),.int (eD ss e)]) G):db T (k+1) sx [Jb xs ss,eu e] G Q X:=by
 obtain⟨s,y,z⟩:=h.get;refine⟨rfl,?_⟩;simp! only[FD,nc,Kb,eu,Jb,ix_t (Ad _ _ _),ix_t (Bf y),Qb.u];refine⟨trivial,trivial,?_⟩;rcases z with⟨z,j,f⟩|⟨z,j,f⟩
 ·rw[show e.2=1 by rw[z],if_pos (by decide)]
  rw[j,f]at q;exact⟨by decide,q⟩
 ·rw[show e.2=-1 by rw[z],if_neg (by decide)]
  rw[j,f]at q;exact⟨by decide,q⟩
def LC       (R:Jf W ss rts fs)(w8:W<=8)(gf:G pf=la (.frk o (Wd fs)))(hz:z∈rts++Hb fs)
  (q:∀p (F:List Ent) w J ,w∈rts->Sa G J->G p=Aa->J p=la (.lst (F.map eu))->Wk ss F z w->F.length<=fs.length->(∀e∈F,∃f∈fs,f.2=e)->Q (.tup [.loc p,.int w]) J) :
  db T (k+2) Lx [Jb xs ss,.loc pf,.int z] G Q X:=by
 have rl:=Pg W _ R.nd R.bd;simp only[Hb,Ae,Ua]at rl;refine⟨rfl,?_⟩;simp! only[cG,nc,Kb];refine⟨by decide,λp G1 O=>?_⟩
 simp! only[oH];rw[S_wh];refine⟨λn ς J=>∃(F:List Ent) (y:Int),ς=[la (Jb xs ss),la (.loc pf),la (.int y),la (.loc p)]/\Sa G J/\J p=la (.lst (F.map eu))/\Wk ss F z y/\y∈rts++Hb (fs.take n)/\n<=fs.length/\F.length+n<=fs.length/\∀e∈F,∃f∈fs,f.2=e,
  ⟨fs.length,[],z,rfl,O.sa,O.at,rfl,by rw[Ke];exact hz,Db _,by simp,λ_ h=>(nomatch h)⟩,?_⟩
 rintro n ς G2 ⟨F,y,rfl,s2,gp,wk,hy,hn,hl,hm⟩;have I:=s2 _ _ gf;simp! only[];refine vL I ?_;rcases kQ R.nd hy with⟨hw,e⟩|⟨j,f,hj,ef,rfl,e⟩
 ·rw[e,if_neg (by decide)]
  simp! only[];exact⟨by decide,q p F y G2 hw s2 O.no gp wk (by lia) hm⟩
 ·obtain⟨h1,h2,h3⟩:=R.en j f ef;rw[e,if_pos (by rfl)]
  simp! only[Of gp,WA I e,xg gp];refine⟨by rw[Ua];exact Eg (show F.length<=8 by lia) (by decide),λG3 p3=>?_⟩
  have Z:pf≠p:=λz=>by rw[z,O.no]at gf;cases gf
  have Y:=p3.sm _ _ Z I;simp! only[WA Y e];refine KC h1 ?_;rw[ix_t (Ad _ _ _)];refine⟨j,hj,F++[f.2],eD ss f.2,rfl,λb u hb=>p3.sm _ _ (λz=>by rw[z,O.no]at hb;cases hb) (s2 _ _ hb),by rw[Oc];exact p3.at,wk.app ⟨h1,h2,rfl⟩,h3,by lia,by simp;lia,λe he=>?_⟩
  rcases Fa.mp he with z|z
  ·exact hm e z
  ·rw[bc.mp z];exact⟨f,Cd ef,rfl⟩

def mt_pop     (g:G p=la (.lst us)):Se .pop (.loc p) G=la ("list", "list.pop"):=by unfold Se;dsimp only;rw[g]
def jD       (g:G p=la (.lst ((es++[e]).map eu)))(q:∀f,qg G p (.lst (es.map eu)) f->Q (eu e) f):ze .pop (.loc p) [] G Q:=by
 dsimp only[ze];unfold popU;dsimp only;rw[g];dsimp only;have y:((es++[e]).map eu)[((es++[e]).map eu).length-1]?=la (eu e):=by simp
 have j:((es++[e]).map eu).dropLast=es.map eu:=by simp
 rw[y,j];exact λf h=>q f h
def vC    : atI ((es++[e]).map eu) (-1)=la (eu e):=by
 refine(qj eu _ _).trans ?_;unfold atI;rw[show gg (es++[e]).length (-1)=la es.length by unfold gg;simp;lia]
 simp
def pL     (q:k (decide (e=f))):cmpU .Eq (eu e) (eu f) G k:=by
 refine(?_:eqU (eu e) (eu f) G k);have d:∀x:Ent,DU G (eu x) (.tuple ([(x.1:Int),x.2].map .int)):=λx=>.tup (jt [(x.1:Int),x.2]);have sm:∀l:List Int,Small (.tuple (l.map .int)):=λl=>⟨(tj l).1,by show Yh (l.map .int)+1<=100;rw[(tj l).2.1];decide⟩
 refine⟨_,_,d e,d f,sm _,sm _,?_⟩;have:Ud (.list ([(e.1:Int),e.2].map .int)) (.list ([(f.1:Int),f.2].map .int))=decide (e=f):=by
  rw[Hw,Ej,decide_eq_true_eq,decide_eq_true_eq];constructor
  ·intro h;injection h with h1 h2
   injection h2 with h2 _
   exact Aj (by lia) h2
  ·intro h;rw[h]
 rw[show Ud (.tuple ([(e.1:Int),e.2].map .int)) (.tuple ([(f.1:Int),f.2].map .int))=decide (e=f)from this];exact q
def Js     {kk:Bool->Prop}(g:G a=la (.lst us)):truU (.loc a) G kk=kk (!us.isEmpty):=by unfold truU;dsimp only;rw[g]
def AM      (g:G a=la (.lst us)):revU (.loc a) (.int (-1)) G Q=newO G (.lst us.reverse) Q:=by
 unfold revU Bc;dsimp only;rw[g];simp
def Tf  (fs:List (Int×Ent))(e:Ent):Prop:=∃f∈fs,f.2=e\/f.2=Nf e
abbrev Hn:=Ent ⊕ (Int×Int)
def hU  : Hn->U
 |.inl e=>eu e
 |.inr h=>.tup [.str "home",.int h.1,.int h.2]
def hSs  (ss:List Qb):Hn->Int
 |.inl e=>eS ss e
 |.inr h=>h.1
def hDd  (ss:List Qb):Hn->Int
 |.inl e=>eD ss e
 |.inr h=>h.2
def Xh  (ss:List Qb)(sts:List Int):Hn->Prop
 |.inl e=>Be ss e
 |.inr h=>h.1∈sts/\h.2∈sts
def HW  (ss:List Qb)(sts:List Int):List Hn->Int->Int->Prop
 |[],a,b=>a=b
 |e::r,a,b=>Xh ss sts e/\hSs ss e=a/\HW ss sts r (hDd ss e) b
theorem HW.of   {sts:List Int}:∀{r } {a b },Wk ss r a b->HW ss sts (r.map .inl) a b
 |[],_,_,h=>h
 |_::_,_,_,⟨h1,h2,h3⟩=>⟨h1,h2,HW.of h3⟩
theorem HW.app   {sts:List Int}:∀{r r' } {a m b },HW ss sts r a m->HW ss sts r' m b->HW ss sts (r++r') a b
 |[],_,_,_,_,h,g=>by rw[show _=_ from h];exact g
 |_::_,_,_,_,_,⟨h1,h2,h3⟩,g=>⟨h1,h2,h3.app g⟩
theorem HW.all   {sts:List Int}:∀{r } {a b },HW ss sts r a b->∀e∈r,Xh ss sts e
 |_::_,_,_,⟨h1,_,h3⟩,e,he=>by
  rcases Ic.mp he with z|z
  ·rw[z];exact h1
  ·exact h3.all e z
def DJ  (fs:List (Int×Ent)):Hn->Prop
 |.inl e=>Tf fs e
 |.inr _=>True
def Mg  (r:List Hn):U:=.tup (r.map hU)
structure CR (ss:List Qb)(sts:List Int)(fs:List (Int×Ent))(i:Nat)(s:Qb)(ring:List Hn):Prop where
 at':ss[i]?=la s
 wk:HW ss sts ring s.o s.o
 l:ring.length<=2+2*fs.length
 tl:∃r,ring=.inl (i,1)::r/\∀e∈r,DJ fs e
theorem snoc  {f:Type}:∀l:List f,l=[]\/∃r e,l=r++[e]
 |[]=>.inl rfl
 |a::l=>.inr (by
  rcases snoc l with z|⟨r,e,z⟩
  ·exact⟨[],a,by rw[z];rfl⟩
  ·exact⟨a::r,e,by rw[z];rfl⟩)

def iR    {sts rts:List Int}(hF:Jf W ss rts fs)(w8:W<=8)(gf:G pf=la (.frk o (Wd fs)))(hs:ss[i]?=la s)(h1:(s.o:Int)∈rts++Hb fs)(h2:(s.t:Int)∈rts++Hb fs)(zb:∀a∈rts,∀b∈rts,a≠b->a∈sts/\b∈sts)
  (q:∀xa F ,Sa G F->CR ss sts fs i s xa->Q (Mg xa) F):db T (k+3) eG [Jb xs ss,.loc pf,.int i] G Q X:=by
 have rl:=Pg W _ hF.nd hF.bd;simp only[Hb,Ae,Ua]at rl;have il:=(Ba.mp hs).1;refine⟨rfl,?_⟩;simp! only[aG,nc,Kb,Jb,ix_t (Ad _ _ _),ix_t (Bf hs),Qb.u];refine⟨trivial,?_⟩;simp! only[ZG];refine LC (xs:=xs) hF w8 gf h2 λpt ts Y G1 qc s1 nt g1 J lt mt=>?_;simp! only[];refine⟨trivial,?_⟩;refine LC (xs:=xs) hF w8 (s1 _ _ gf) h1 λpb bs Z G2 yb s2 nb g2 O lb mb=>?_;simp! only[aH];refine⟨trivial,?_⟩;rw[S_wh];have wa:pt≠pb:=λz=>by rw[z]at g1;rw[nb]at g1;cases g1
 refine⟨λn ς F=>∃(ts bs:List Ent) (m1 m2:Int),ς=[la (Jb xs ss),la (.loc pf),la (.int i),la (.str s.w),la (.int s.o),la (.int s.t),la (.int s.lo),la (.int s.hi),la (.loc pt),la (.int Y),la (.loc pb),la (.int Z),Aa]/\n=ts.length/\Sa G F/\F pt=la (.lst (ts.map eu))/\F pb=la (.lst (bs.map eu))/\Wk ss ts s.t m1/\Wk ss bs s.o m2/\((Y=Z/\m1=m2)\/(Y≠Z/\m1=Y/\m2=Z))/\ts.length<=fs.length/\bs.length<=fs.length/\(∀e∈ts,∃f∈fs,f.2=e)/\∀e∈bs,∃f∈fs,f.2=e,
  ⟨_,ts,bs,Y,Z,rfl,rfl,s1.trans s2,s2 _ _ g1,g2,J,O,?_,lt,lb,mt,mb⟩,?_⟩
 ·by_cases c:Y=Z
  ·exact .inl ⟨c,c⟩
  ·exact .inr ⟨c,rfl,rfl⟩
 have jb:G pb=Aa:=Bi s1 nb;clear s1 g1 J lt mt s2 g2 O lb mb nb;rintro n ς G3 ⟨ts,bs,m1,m2,rfl,rfl,s3,gt,gb,J,O,hm,lt,lb,mt,mb⟩;have za:∀(j:List Hn) (ph:Ca) (R:Gp),Sa G3 R->R ph=la (.lst (j.map hU))->j.length<=1->HW ss sts j m1 m2->(∀h∈j,∃z,h=.inr z)->He T.gs (db T (k+2)) Zx ⟨λ_ F=>Q .non F,Q,λx _ F=>X x F⟩ [la (Jb xs ss),la (.loc pf),la (.int i),la (.str s.w),la (.int s.o),la (.int s.t),la (.int s.lo),la (.int s.hi),la (.loc pt),la (.int Y),la (.loc pb),la (.int Z),la (.loc ph)] R:=λj ph R s4 g4 l4 w4 i4=>by
  simp! only[Zx];refine⟨by decide,by decide,λp5 G5 n5=>?_⟩
  refine⟨_,_,n5.at,n5.sa _ _ (s4 _ _ gt),Fb (show _<=20 by simp;lia) (by decide),λp6 G6 n6=>?_⟩
  refine⟨_,_,n6.at,n6.sa _ _ (n5.sa _ _ g4),Fb (show _<=20 by simp;lia) (by decide),λp7 G7 n7=>?_⟩
  have kb:=n7.sa _ _ (n6.sa _ _ (n5.sa _ _ (s4 _ _ gb)));dsimp only;rw[AM kb];intro p8 G8 n8;rw[it_l n8.at];refine⟨Fb (show _<=20 by simp;lia) (by decide),?_⟩
  rw[<- PH];refine Yg (λu=>match u with|.tup [.int a,.int b]=>.tup [.int a,.int (-b)]|u=>u) (by unfold Bc;rw[n8.at,PH]) (λu hu K hK=>?_) ?_
  ·obtain⟨e,he,rfl⟩:=Ea.mp hu;simp! only[eu];exact⟨trivial,by decide,hK⟩
  ·intro p9 G9 n9;have e9:[]++(bs.reverse.map eu).map (λu=>match u with|.tup [.int a,.int b]=>.tup [.int a,.int (-b)]|u=>u)=(bs.reverse.map Nf).map eu:=by
    rw[ah,Pe,Pe];rfl
   rw[e9]at n9;refine⟨_,_,n9.sa _ _ (n8.sa _ _ n7.at),n9.at,Fb (show _<=30 by simp;lia) (by decide),λpa Ga na=>?_⟩
   dsimp only;rw[it_l na.at];have vb:[U.tup [.int i,.int 1]]++ts.map eu++j.map hU++(bs.reverse.map Nf).map eu=((.inl (i,1)::(ts.map .inl++(j++(bs.reverse.map Nf).map .inl))):List Hn).map hU:=by
    simp[eu,hU,Function.comp_def]
   rw[vb];have ha:Be ss (i,1):=⟨il,.inl rfl⟩;refine q _ Ga (s3.trans (((((s4.trans n5.sa).trans (n6.sa.trans n7.sa)).trans n8.sa).trans n9.sa).trans na.sa)) ⟨hs,⟨ha,eS_1 hs,?_⟩,by simp;lia,_,rfl,λe he=>?_⟩
   ·rw[show hDd ss (.inl (i,1))=eD ss (i,1)from rfl,eD_1 hs];exact(HW.of J).app (w4.app (HW.of O.rev))
   ·rcases Fa.mp he with z|z
    ·obtain⟨e',ja,rfl⟩:=Ea.mp z;obtain⟨f,hf,rfl⟩:=mt e' ja;exact⟨f,hf,.inl rfl⟩
    ·rcases Fa.mp z with z|z
     ·obtain⟨y,rfl⟩:=i4 e z;trivial
     ·obtain⟨e',ja,rfl⟩:=Ea.mp z;obtain⟨xb,ka,rfl⟩:=Ea.mp ja;obtain⟨f,hf,rfl⟩:=mb xb (List.mem_reverse.mp ka);exact⟨f,hf,.inr (by simp[Nf])⟩
 have I:He T.gs (db T (k+2)) Mx ⟨λ_ F=>Q .non F,Q,λx _ F=>X x F⟩ [la (Jb xs ss),la (.loc pf),la (.int i),la (.str s.w),la (.int s.o),la (.int s.t),la (.int s.lo),la (.int s.hi),la (.loc pt),la (.int Y),la (.loc pb),la (.int Z),Aa] G3:=by
  simp! only[Mx];rcases hm with⟨c,e⟩|⟨c,rfl,rfl⟩
  ·rw[if_pos (by simpa using c)]
   refine⟨by decide,λph R n4=>?_⟩
   exact za [] ph R n4.sa n4.at (by decide) e λ_ h=>(nomatch h)
  ·rw[if_neg (by simpa using c)]
   refine⟨by decide,by decide,λph R n4=>?_⟩
   exact za [.inr (m1,m2)] ph R n4.sa n4.at (by simp) ⟨zb _ qc _ yb c,rfl,rfl⟩ λh hh=>⟨_,bc.mp hh⟩
 simp! only[];rw[Js gt];rcases snoc ts with rfl|⟨ts',et,rfl⟩
 ·rw[if_neg (by simp)];exact I
 rw[if_pos (by simp),Js gb]
 rcases snoc bs with rfl|⟨bs',eb,rfl⟩
 ·rw[if_neg (by simp)];exact I
 rw[if_pos (by simp),ix_l gt vC,ix_l gb vC]
 refine pL ?_;by_cases c:et=eb
 ·subst c;rw[if_pos (by simp),mt_pop gt]
  refine jD gt λR p4=>?_;have ya:=p4.sm _ _ (Qa wa) gb;rw[mt_pop ya];refine jD ya λG5 p5=>?_;obtain⟨w1,w2,w3⟩:=J.last;obtain⟨v1,v2,v3⟩:=O.last;have va:Y=Z:=by
   rcases hm with⟨z,_⟩|⟨_,z1,z2⟩
   ·exact z
   ·rw[<- z1,<- z2,<- w3,<- v3]
  refine⟨ts'.length,by simp,ts',bs',eS ss et,eS ss et,trivial,rfl,λb u hb=>p5.sm _ _ (λz=>by rw[z,jb]at hb;cases hb) (p4.sm _ _ (λz=>by rw[z,nt]at hb;cases hb) (s3 _ _ hb)),p5.sm _ _ wa p4.at,p5.at,w1,v1,.inl ⟨va,rfl⟩,by simp at lt;lia,by simp at lb;lia,λe he=>mt e (Cf _ he),λe he=>mb e (Cf _ he)⟩
 ·rw[if_neg (by simpa using c)];exact I


def YS  {sts rts:List Int}(hF:Jf W ss rts fs)(w8:W<=8)(sl:ss.length<=24)(gf:G pf=la (.dK (Wd fs)))(hc:oA ss rts (Hb fs))(hp:∀x∈ps,x∈rts++Hb fs)(ja:∀a∈rts,∀b∈rts,a≠b->a∈sts/\b∈sts)
  (q:∀p (rs:List (List Hn)) o O ,Sm pf G O->G p=Aa->O p=la (.lst (rs.map Mg))->O pf=la (.frk o (Wd fs))->(∀r∈rs,∃i s,CR ss sts fs i s r)->(∀i s,ss[i]?=la s->(s.o:Int)∈ps->(∃f∈fs,f.2.1=i)\/∃r∈rs,CR ss sts fs i s r)->rs.length<=24->Q (.loc p) O) :
  db T (k+4) oG [Jb xs ss,ub ps,.loc pf] G Q X:=by
 have rl:=Pg W _ hF.nd hF.bd;simp only[Hb,Ae,Ua]at rl;refine⟨rfl,?_⟩;simp! only[mG,nc,Kb,DP gf];intro o G1 p1;have ev:Dh (Wd fs)=fs.map λf=>eu f.2:=by unfold Dh Wd;rw[Pe];rfl
 refine⟨by rw[ev,Ua];exact Fb (show fs.length<=8 by lia) (by decide),?_⟩
 refine Yg (λu=>match u with|.tup (a::_)=>a|u=>u) p1.at (λu hu K hK=>?_) ?_
 ·rw[ev]at hu;obtain⟨f,hf,rfl⟩:=Ea.mp hu;simp! only[eu];exact⟨trivial,hK⟩
 intro pu G2 n2;have va:[]++(Dh (Wd fs)).map (λu=>match u with|.tup (a::_)=>a|u=>u)=(fs.map λf=>((f.2.1:Nat):Int)).map U.int:=by
  rw[ev,ah,Pe,Pe];rfl
 rw[va]at n2;simp! only[Jb,ix_t (Ad _ _ _),Ua];refine⟨by lia,by lia,by rw[Zd];exact Fb (show((ss.length:Int)).toNat<=24 by lia) (by decide),?_⟩
 refine Ce (λn F O=>O=G2/\∃I:List Nat,F=I.map (λ(i:Nat)=>U.int (i:Int))/\I.length<=n/\(∀i∈I,∃s,ss[i]?=la s/\(s.o:Int)∈ps)/\∀i s,i<n->ss[i]?=la s->(s.o:Int)∈ps->(∃f∈fs,f.2.1=i)\/i∈I) ?_ ?_ ⟨rfl,[],rfl,Db _,λ_ h=>(nomatch h),λi s h=>by lia⟩
 ·rintro F O ⟨rfl,I,rfl,il,h1,h2⟩;rw[Zd]at il h2;refine⟨trivial,λp3 G3 n3=>?_⟩;simp! only[it_l n3.at];refine⟨by rw[Ua];exact Fb (show I.length<=24 by lia) (by decide),?_⟩
  have xa:G3 pf=la (.frk o (Wd fs)):=n3.sa _ _ (n2.sa _ _ p1.at);refine Ce (λn F O=>Sa G3 O/\∃rs:List (List Hn),F=rs.map Mg/\rs.length<=n/\(∀r∈rs,∃i s,CR ss sts fs i s r)/\∀i∈I.take n,∃s,∃r∈rs,CR ss sts fs i s r) ?_ ?_ ⟨Sa.refl,[],rfl,Db _,λ_ h=>(nomatch h),λi h=>by simp at h⟩
  ·rintro F G4 ⟨s4,rs,rfl,rl4,c1,c2⟩;rw[Ua]at rl4 c2;rw[Ke]at c2;refine⟨by unfold Bc;rw[s4 _ _ n3.at],λp5 G5 n5=>?_⟩
   have sm:Sm pf G G4:=λb u hb e=>s4 _ _ (n3.sa _ _ (n2.sa _ _ (p1.sm _ _ hb e)));refine q p5 rs o G5 (λb u hb e=>n5.sa _ _ (sm b u hb e)) ?_ n5.at (n5.sa _ _ (s4 _ _ xa)) c1 (λi s R J=>?_) (by lia)
   ·cases e:G p5 with
    |none=>rfl
    |some u=>
     by_cases z:p5=pf
     ·have:=s4 _ _ xa;rw[<- z,n5.no]at this;cases this
     ·have:=sm _ _ z e;rw[n5.no]at this;cases this
   ·rcases h2 i s (by have:=(Ba.mp R).1;lia) R J with z|z
    ·exact .inl z
    ·obtain⟨Y,r,hr,h⟩:=c2 i z;have:=h.at';rw[R]at this;cases this;exact .inr ⟨r,hr,h⟩
  ·rintro n x F G4 K hx ⟨s4,rs,rfl,rl4,c1,c2⟩ hk _;rw[Lc]at hx;cases ei:I[n]? with
   |none=>rw[ei]at hx;cases hx
   |some i=>
    rw[ei]at hx;cases hx;obtain⟨s,R,J⟩:=h1 i (Cd ei);have za:=hp _ J;have ht:=hc _ _ za (.inl (Ea.mpr ⟨s,Cd R,rfl⟩));refine⟨by unfold Bc;rw[s4 _ _ n3.at],?_⟩
    simp! only[];refine iR (xs:=xs) hF w8 (s4 _ _ xa) R za ht ja λr G5 s5 h5=>hk _ _ ⟨s4.trans s5,rs++[r],by rw[Oc];rfl,by simp;lia,λr' Z=>?_,λi' j=>?_⟩
    ·rcases Fa.mp Z with z|z
     ·exact c1 r' z
     ·rw[bc.mp z];exact⟨i,s,h5⟩
    ·rw[Ve,ei]at j;rcases Fa.mp j with z|z
     ·obtain⟨Y,r',Z,h⟩:=c2 i' z;exact⟨Y,r',Cf _ Z,h⟩
     ·rw[bc.mp z];exact⟨s,r,Ee _ (bc.mpr rfl),h5⟩
 ·rintro n x F O K hx ⟨rfl,I,rfl,il,h1,h2⟩ hk hn;obtain⟨hi,rfl⟩:=Xf hx;obtain⟨s,R⟩:∃s,ss[n]?=la s:=⟨ss[n]'(by lia),ac _⟩
  refine⟨trivial,?_⟩;simp! only[ix_t (Ad _ _ _),ix_t (Bf R),Qb.u];refine⟨rfl,Zg _,?_⟩;rw[Xg];dsimp only;by_cases c:(s.o:Int)∈ps
  ·rw[if_pos (by rw[decide_eq_true c])]
   refine in_l n2.at rfl (Zg _) ?_;rw[Xg];by_cases d:((n:Nat):Int)∈fs.map λf=>((f.2.1:Nat):Int)
   ·rw[if_neg (by rw[decide_eq_true d];decide)]
    refine hn _ ⟨rfl,I,rfl,by lia,h1,λi Y j y J=>?_⟩
    by_cases e:i=n
    ·obtain⟨f,hf,ef⟩:=Ea.mp d;exact .inl ⟨f,hf,by lia⟩
    ·exact h2 i Y (by lia) y J
   ·rw[if_pos (by rw[decide_eq_false d];decide)]
    refine hk _ _ ⟨rfl,I++[n],by simp,by simp;lia,λi j=>?_,λi Y j y J=>?_⟩
    ·rcases Fa.mp j with z|z
     ·exact h1 i z
     ·rw[bc.mp z];exact⟨s,R,c⟩
    ·by_cases e:i=n
     ·exact .inr (Ee _ (bc.mpr e))
     ·rcases h2 i Y (by lia) y J with z|z
      ·exact .inl z
      ·exact .inr (Cf _ z)
  ·rw[if_neg (by rw[decide_eq_false c];decide)]
   refine hn _ ⟨rfl,I,rfl,by lia,h1,λi Y j y J=>?_⟩
   by_cases e:i=n
   ·subst e;rw[R]at y;cases y;exact absurd J c
   ·exact h2 i Y (by lia) y J

abbrev Wn:=List (Int×Int)
noncomputable def wu  (w:Int×Int):U:=.tup [.int w.1,.int w.2]
def Nc  (ws:Wn):U:=.tup (ws.map wu)
noncomputable def vg  (ws:Wn)(e:Ent):Int:=if e.2=1 then (ws.getD e.1 (0,0)).1 else -(ws.getD e.1 (0,0)).2
noncomputable def wg  (ws:Wn)(e:Ent):Int:=if e.2=1 then (ws.getD e.1 (0,0)).2 else -(ws.getD e.1 (0,0)).1
noncomputable def bt  (bs:List Int)(x:Int):Int:=bs.getD x.toNat 0
def Vg  {bs:List Int}{x:Int}(h0:0<=x)(q:x<bs.length):atI (bs.map U.int) x=la (.int (bt bs x)):=by
 obtain⟨j,rfl⟩:=Gg h0;have f:j<bs.length:=by lia
 have:bs[j]?=la (bt bs (j:Int)):=by unfold bt;simp[Xc,f]
 exact Bf this
def hlo  (ws:Wn)(B:List Int):Hn->Int
 |.inl e=>vg ws e
 |.inr h=>bt B h.2-bt B h.1
def jg  (ws:Wn)(B:List Int):Hn->Int
 |.inl e=>wg ws e
 |.inr h=>bt B h.2-bt B h.1
def Xe  (ws:Wn)(B:List Int)(r:List Hn):Int:=(r.map (hlo ws B)).sum
def Re  (ws:Wn)(B:List Int)(r:List Hn):Int:=(r.map (jg ws B)).sum
def ji  (P:Int)(ws:Wn)(B:List Int)(r:List Hn):Prop:=Re ws B r/P*P<Xe ws B r
noncomputable instance {P:Int} {ws:Wn} {B:List Int} {r:List Hn}:Decidable (ji P ws B r):=inferInstanceAs (Decidable (_<_))
def Sb  (sts B:List Int):Prop:=∀x∈sts,0<=x/\x<B.length
def getW  {ws:Wn}(h:ws[i]?=la w):ws.getD i (0,0)=w:=by simp[Xc,h]
def XA   {l:List Int}(g:G a=la (.lst (l.map .int))):sumU [.loc a] G Q=Q (.int l.sum) G:=by
 unfold sumU;dsimp only;rw[g];dsimp only;rw[UC]

def kR  {sts: List Int}(wl:ws.length=ss.length)(j:Sb sts B)(f:Xh ss sts h)(q:Q (.tup [.int (hlo ws B h),.int (jg ws B h)]) G):db T (k+1) RF [ub B,Nc ws,hU h] G Q X:=by
 cases h with
 |inr h=>
  have I:=j _ f.1;have F:=j _ f.2;refine⟨rfl,?_⟩;simp! only[Fx,nc,Kb,hU,ub];rw[if_pos (by decide)]
  simp! only[];rw[ix_t (show atI [U.str "home",.int h.1,.int h.2] 2=la (.int h.2)from rfl),ix_t (Vg F.1 F.2),ix_t (Ad _ _ _),ix_t (Vg I.1 I.2)];simp! only[];exact⟨by decide,q⟩
 |inl e=>
  have f:Be ss e:=f;have J:e.1<ws.length:=by rw[wl];exact f.1
  have y:ws[e.1]?=la ws[e.1]:=ac J;have q:Q (.tup [.int (vg ws e),.int (wg ws e)]) G:=q;refine⟨rfl,?_⟩;simp! only[Fx,nc,Kb,hU,eu,Nc,ix_t (Bf y),wu];rw[if_neg (by decide)]
  refine⟨trivial,trivial,?_⟩;unfold vg wg at q;rw[getW y]at q;rcases f.2 with z|z
  ·rw[z,if_pos (by decide)]
   rw[if_pos z,if_pos z]at q;exact⟨by decide,q⟩
  ·rw[z,if_neg (by decide)]
   rw[if_neg (by lia),if_neg (by lia)]at q
   exact⟨by decide,q⟩
noncomputable def Vj  : U->Hn
 |.tup [.int a,.int b]=>.inl (a.toNat,b)
 |.tup [.str _,.int a,.int b]=>.inr (a,b)
 |_=>.inl (0,0)
def aB   h:Vj (hU h)=h:=by
 cases h with
 |inl e=>show Wb ((e.1:Int).toNat,e.2)=_;rw[Hl]
 |inr h=>rfl
def lP  {sts: List Int}(wl:ws.length=ss.length)(R:Sb sts B)(Z:∀e∈r,Xh ss sts e)(z:r.length<=30)(q:∀J,Sa G J->Q (.tup [.int (Xe ws B r),.int (Re ws B r)]) J):db T (k+2) fE [Jb xs ss,.int P,ub B,Nc ws,Mg r] G Q X:=by
 refine⟨rfl,?_⟩;simp! only[KD,nc,Kb,Mg];refine⟨by rw[Ua];exact Fb z (by decide),?_⟩
 refine Yg (λu=>.tup [.int (hlo ws B (Vj u)),.int (jg ws B (Vj u))]) trivial (λu hu K j=>?_) ?_
 ·obtain⟨e,I,rfl⟩:=Ea.mp hu;rw[aB]at j;simp! only[];exact kR wl R (Z e I) j
 intro p1 G1 f;have O:[]++(r.map hU).map (λu=>U.tup [.int (hlo ws B (Vj u)),.int (jg ws B (Vj u))])=r.map λe=>U.tup [.int (hlo ws B e),.int (jg ws B e)]:=by
  rw[ah,Pe];exact ul λe _=>by show U.tup [.int (hlo ws B (Vj (hU e))),.int (jg ws B (Vj (hU e)))]=_;rw[aB]
 rw[O]at f;simp! only[it_l f.at];refine⟨by rw[Ua];exact Fb z (by decide),?_⟩
 refine Yg (λu=>match u with|.tup [a,_]=>a|u=>u) (by unfold Bc;rw[f.at]) (λu hu K j=>?_) ?_
 ·obtain⟨e,I,rfl⟩:=Ea.mp hu;simp! only[];exact⟨trivial,j⟩
 intro p2 G2 y;have t1:[]++(r.map λe=>U.tup [.int (hlo ws B e),.int (jg ws B e)]).map (λu=>match u with|.tup [a,_]=>a|u=>u)=(r.map (hlo ws B)).map .int:=by
  rw[ah,Pe,Pe];rfl
 rw[t1]at y;rw[XA y.at,it_l (y.sa _ _ f.at)];refine⟨by rw[Ua];exact Fb z (by decide),?_⟩
 refine Yg (λu=>match u with|.tup [_,b]=>b|u=>u) (by unfold Bc;rw[y.sa _ _ f.at]) (λu hu K j=>?_) ?_
 ·obtain⟨e,I,rfl⟩:=Ea.mp hu;simp! only[];exact⟨trivial,j⟩
 intro p3 Y F;have t2:[]++(r.map λe=>U.tup [.int (hlo ws B e),.int (jg ws B e)]).map (λu=>match u with|.tup [_,b]=>b|u=>u)=(r.map (jg ws B)).map .int:=by
  rw[ah,Pe,Pe];rfl
 rw[t2]at F;rw[XA F.at];exact⟨by decide,q Y ((f.sa.trans y.sa).trans F.sa)⟩
def dP  {sts: List Int}(wl:ws.length=ss.length)(y:Sb sts B)(F:∀e∈r,Xh ss sts e)(j:r.length<=30)(J:1<=P)(I:P<=600)(q:∀f,Sa G f->Q (.bl (decide (ji P ws B r))) f):db T (k+3) GE [Jb xs ss,.int P,ub B,Nc ws,Mg r] G Q X:=by
 refine⟨rfl,?_⟩;simp! only[wE,nc,Kb];refine lP wl y F j λz s1=>?_;simp! only[];exact⟨trivial,by lia,by lia,.inr (by constructor<;>lia),q z s1⟩

noncomputable def eL  (L:List Int)(e:Ent):Int:=e.2*L.getD e.1 0
def eL_1    (h:e.2=1):eL L e=L.getD e.1 0:=by unfold eL;rw[h];lia
def eL_m    (h:e.2=-1):eL L e=-L.getD e.1 0:=by unfold eL;rw[h];lia
def iQ   L e:eL L (Nf e)=-eL L e:=by unfold eL Nf;simp[Int.neg_mul]
def nC  {L:List Int}(h:L[i]?=la x):L.getD i 0=x:=by simp[Xc,h]
structure Wi (L:List Int)(ws:Wn):Prop where
 l:L.length=ws.length
 b:∀(i:Nat) (w:Int×Int),ws[i]?=la w->w.1<=L.getD i 0/\L.getD i 0<=w.2
def Wi.ent     (h:Wi L ws)(wl:ws.length=ss.length)(j:Be ss e):vg ws e<=eL L e/\eL L e<=wg ws e:=by
 have q:ws[e.1]?=la (ws[e.1]'(by rw[wl];exact j.1)):=ac _
 have:=h.b _ _ q;unfold vg wg;rw[getW q];rcases j.2 with z|z
 ·rw[if_pos z,if_pos z,eL_1 z];exact this
 ·rw[if_neg (by lia),if_neg (by lia),eL_m z];lia
def hL  (L B:List Int):Hn->Int
 |.inl e=>eL L e
 |.inr h=>bt B h.2-bt B h.1
def sumH  (L B:List Int)(r:List Hn):Int:=(r.map (hL L B)).sum
def ow     : sumH L B (e::r)=hL L B e+sumH L B r:=by simp[sumH]
def Fo      : Xe ws B (e::r)=hlo ws B e+Xe ws B r:=by simp[Xe]
def Do      : Re ws B (e::r)=jg ws B e+Re ws B r:=by simp[Re]
theorem Wi.sum  {L B sts:List Int}(h:Wi L ws)(wl:ws.length=ss.length):∀{r },(∀e∈r,Xh ss sts e)->Xe ws B r<=sumH L B r/\sumH L B r<=Re ws B r
 |[],_=>by simp[Xe,Re,sumH]
 |e::r,hr=>by
  have y:hlo ws B e<=hL L B e/\hL L B e<=jg ws B e:=by
   cases e with
   |inl e=>exact h.ent wl (hr (.inl e) cf)
   |inr z=>exact⟨Bp _,Bp _⟩
  have q:=Wi.sum (B:=B) h wl (r:=r) λx j=>hr x (Pd _ j);rw[Fo,Do,ow];lia
def ML    (h0:0<=x)(j:x<bs.length)(f:0<=y):bt (bs.set x.toNat v) y=if y=x then v else bt bs y:=by
 unfold bt;by_cases e:y=x
 ·subst e;rw[if_pos rfl];simp[Xc,show y.toNat<bs.length by lia]
 ·rw[if_neg e];simp only[Xc];rw[Cj (by lia)]
def mw    (h0:0<=x)(f:x<bs.length):bt bs x∈bs:=by
 unfold bt;have:x.toNat<bs.length:=by lia
 simp[Xc,this]
def Kp  (ss:List Qb)(L:List Int)(P:Int)(bs:List Int)(e:Ent):Prop:=P ∣ bt bs (eS ss e)+eL L e-bt bs (eD ss e)
def Lu  (ss:List Qb)(G:Gp)(f:U)(L:List Int):Prop:=L.length=ss.length/\((∃p,f=.loc p/\G p=la (.lst (L.map .int)))\/f=ub L)
def Lu.sa      (h:Lu ss G q L)(s:Sa G G'):Lu ss G' q L:=by
 obtain⟨j,⟨p,e,g⟩|y⟩:=h
 ·exact⟨j,.inl ⟨p,e,s _ _ g⟩⟩
 ·exact⟨j,.inr y⟩
def Lu.ix        (h:Lu ss G y L)(I:Be ss e)(q:Q (.int (L.getD e.1 0)) G):af y (.int e.1) G Q:=by
 have F:e.1<L.length:=by rw[h.1];exact I.1
 have j:L[e.1]?=la (L.getD e.1 0):=by simp[Xc,F]
 rcases h.2 with⟨p,rfl,g⟩|rfl
 ·rw[ix_l g (Bf j)];exact q
 ·rw[show ub L=.tup (L.map .int)from rfl,ix_t (Bf j)];exact q

def gR       (O:Jf W ss rts fs)(w8:W<=8)(ka:Lu ss G lu L)(p1:1<=P)(p2:P<=600)(bl:bs.length=W)(bb:∀b∈bs,0<=b/\b<P)(gf:G pf=la (.frk o (Wd fs)))
  (q:∀(F:List Int) G' ,Sa G G'->F.length=W->(∀b∈F,0<=b/\b<P)->(∀x,0<=x->x∉Hb fs->bt F x=bt bs x)->(∀f∈fs,Kp ss L P F f.2)->Q (ub F) G') :
  db T (k+2) KG [Jb xs ss,.int P,ub bs,.loc pf,lu] G Q X:=by
 have rl:=Pg W _ O.nd O.bd;simp only[Hb,Ae,Ua]at rl;refine⟨rfl,?_⟩;simp! only[BF,nc,Kb,ub];intro Z G1 n1;simp! only[pC (n1.sa _ _ gf)];have ei:pj (Wd fs)=fs.map λf=>U.tup [.int f.1,eu f.2]:=by unfold pj Wd;rw[Pe];rfl
 rw[ei];have zb:pf≠Z:=λz=>by rw[z,n1.no]at gf;cases gf
 refine Ze (λj ς G'=>∃(F:List Int) (o6 o7 o8 o9:Option U),ς=[la (Jb xs ss),la (.int P),la (.tup (bs.map .int)),la (.loc pf),la lu,la (.loc Z),o6,o7,o8,o9]/\Sa G G'/\G' Z=la (.lst (F.map .int))/\F.length=W/\(∀b∈F,0<=b/\b<P)/\(∀x,0<=x->x∉Hb (fs.take j)->bt F x=bt bs x)/\∀i f,i<j->fs[i]?=la f->Kp ss L P F f.2) ?_ ?_
  ⟨bs,_,_,_,_,rfl,n1.sa,n1.at,bl,bb,λ_ _ _=>rfl,λi f h=>by lia⟩
 ·rintro ς G2 ⟨F,o6,o7,o8,o9,rfl,s2,g2,l2,b2,k2,h2⟩;rw[Ua]at k2 h2;rw[Ke]at k2;refine⟨s2 _ _ gf,?_⟩;simp! only[it_l g2];exact q F G2 s2 l2 b2 k2 λf hf=>by
   obtain⟨i,hi,e⟩:=bg hf;exact h2 i f hi (by rw[ac hi,e])
 ·rintro j u ς G2 K hu ⟨F,o6,o7,o8,o9,rfl,s2,g2,l2,b2,k2,h2⟩ hk;rw[Lc]at hu;cases Y:fs[j]? with
  |none=>rw[Y]at hu;cases hu
  |some f=>
   rw[Y]at hu;cases hu;obtain⟨h1,hSs,hDd⟩:=O.en j f Y;have bx:=O.bd f.1 (Ee _ (Lo Y));have bD:=O.bd _ (kC hDd);obtain⟨_,za,dj⟩:=Ec.mp O.nd;have new:∀y,y∈rts++Hb (fs.take j)->y≠f.1:=λy R z=>by
    rcases Fa.mp R with z'|z'
    ·exact dj y z' f.1 (Lo Y) z
    ·obtain⟨i,f',hi,I,e'⟩:=To z';have a1:(Hb fs)[i]?=la f.1:=by unfold Hb;rw[Lc,I,pI,e',z]
     have a2:(Hb fs)[j]?=la f.1:=by unfold Hb;rw[Lc,Y];rfl
     have:=(JI (Ba.mp a1).1 za).mp (a1.trans a2.symm)
     lia
   refine⟨s2 _ _ gf,?_⟩;simp! only[eu];refine⟨trivial,trivial,by decide,?_⟩
   refine KC (e:=f.2) h1 ?_;rw[ix_t (Ad _ _ _)];simp! only[ix_l g2 (Vg bD.1 (show eD ss f.2<(F.length:Int) by omega))]
   refine(ka.sa s2).ix h1 ?_;refine⟨.inl (by rcases h1.2 with z|z<;>rw[z]<;>constructor<;>lia),by lia,?_⟩
   obtain⟨xn,ha⟩:=Gg bx.1;rw[ha,DM g2 (MP (by rw[Ua];lia))]
   intro G3 p3;obtain⟨v,hv⟩:∃v,v=(bt F (eD ss f.2)-f.2.2*L.getD f.2.1 0)%P:=⟨_,rfl⟩;have v0:0<=v:=by rw[hv];exact uh _ (by lia)
   have v1:v<P:=by rw[hv];exact rh _ (by lia)
   rw[<- hv,<- List.map_set]at p3;have J:∀y,0<=y->bt (F.set xn v) y=if y=f.1 then v else bt F y:=λy R=>by
    have:=ML (bs:=F) (v:=v) (y:=y) bx.1 (by lia) R
    rw[show f.1.toNat=xn by lia]at this
    exact this
   refine hk _ _ ⟨F.set xn v,_,_,_,_,rfl,λb u' hb=>p3.sm _ _ (λz=>by rw[z,n1.no]at hb;cases hb) (s2 _ _ hb),p3.at,by simp[l2],λb hb=>?_,λy R hn=>?_,λi f' hi I=>?_⟩
   ·rcases jJ hb with z|z
    ·exact b2 b z
    ·rw[z];exact⟨v0,v1⟩
   ·rw[Ve,Y]at hn;have ya:y∉Hb (fs.take j):=λz=>hn (by simp[Hb]at z ⊢;exact .inl z)
    have ja:y≠f.1:=λz=>hn (by simp[Hb,z])
    rw[J y R,if_neg ja,k2 y R ya]
   ·by_cases e:i=j
    ·subst e;rw[Y]at I;cases I;unfold Kp;rw[hSs,J _ bx.1,if_pos rfl,J _ bD.1,if_neg (new _ hDd)];refine⟨-((bt F (eD ss f.2)-f.2.2*L.getD f.2.1 0)/P),?_⟩;have:=vz (bt F (eD ss f.2)-f.2.2*L.getD f.2.1 0) P;rw[<- hv]at this;unfold eL;rw[Int.mul_neg]
     lia
    ·have xa:i<j:=by lia
     obtain⟨o1,oS,oD⟩:=O.en i f' I;have xb:=O.bd f'.1 (Ee _ (Lo I));have wa:=O.bd _ (kC oD);have va:∀y,y∈rts++Hb (fs.take i)->y∈rts++Hb (fs.take j):=λy R=>by
      rcases Fa.mp R with z|z
      ·exact Cf _ z
      ·obtain⟨i2,f2,jb,e2,e3⟩:=To z;refine Ee _ (Ea.mpr ⟨f2,?_,e3⟩);exact Cd (i:=i2) (by rw[Su,if_pos (by lia)];exact e2)
     have mS:f'.1∈rts++Hb (fs.take j):=by
      refine Ee _ (Ea.mpr ⟨f',?_,rfl⟩);exact Cd (i:=i) (by rw[Su,if_pos xa];exact I)
     have:=h2 i f' xa I;unfold Kp at this ⊢;rw[oS]at this ⊢;rw[J _ xb.1,if_neg (new _ mS),J _ wa.1,if_neg (new _ (va _ oD))];exact this

section
variable {ss:List Qb}{L:List Int}{P:Int}{bs:List Int}
def Kp.flip   (h:Kp ss L P bs e)(q:Be ss e):Kp ss L P bs (Nf e):=by
 obtain⟨_,y,j⟩:=q.flip;unfold Kp at h ⊢;rw[y,j,iQ];have:=Int.dvd_neg.mpr h;rw[show -(bt bs (eS ss e)+eL L e-bt bs (eD ss e))=bt bs (eD ss e) + -eL L e-bt bs (eS ss e) by lia]at this
 exact this
def UR   e:Nf (Nf e)=e:=by unfold Nf;simp
def Tf.kp    (h:Tf fs e)(q:Be ss e)(hk:∀f∈fs,Kp ss L P bs f.2):Kp ss L P bs e:=by
 obtain⟨f,j,z|z⟩:=h
 ·rw[<- z];exact hk f j
 ·have:=hk f j;rw[z]at this;have:=this.flip q.flip.1;rw[UR]at this;exact this
def Ag  (sts B b:List Int):Prop:=∀x∈sts,bt b x=bt B x
def GH  (ss:List Qb)(L:List Int)(P:Int)(bs:List Int):Hn->Prop
 |.inl e=>Kp ss L P bs e
 |.inr _=>True
theorem telH  {B sts:List Int}(ag:Ag sts B bs):∀{r } {a b },(∀e∈r,GH ss L P bs e)->HW ss sts r a b->P ∣ bt bs a+sumH L B r-bt bs b
 |[],a,b,_,h=>by
  rw[show a=b from h];exact⟨0,by simp[sumH]⟩
 |e::r,a,b,hk,⟨h1,h2,h3⟩=>by
  have j:=telH ag (λq f=>hk q (Pd _ f)) h3;have h0:P ∣ bt bs (hSs ss e)+hL L B e-bt bs (hDd ss e):=by
   cases e with
   |inl e=>exact hk (.inl e) cf
   |inr z=>
    refine⟨0,?_⟩;show bt bs z.1+(bt B z.2-bt B z.1)-bt bs z.2=P*0;rw[ag _ h1.1,ag _ h1.2,Int.mul_zero];lia
  have:=Int.dvd_add h0 j;rw[h2]at this;rw[ow];rw[show bt bs a+hL L B e-bt bs (hDd ss e)+(bt bs (hDd ss e)+sumH L B r-bt bs b)=bt bs a+(hL L B e+sumH L B r)-bt bs b by lia]at this
  exact this
def SS  {B sts:List Int}(ag:Ag sts B bs)(hk:∀i,i<ss.length->Kp ss L P bs (i,1))(j:HW ss sts r a a):P ∣ sumH L B r:=by
 have all:∀e∈r,GH ss L P bs e:=λe q=>?_
 ·have:=telH ag all j;rw[show bt bs a+sumH L B r-bt bs a=sumH L B r by lia]at this
  exact this
 ·have ok:=j.all e q;cases e with
  |inr _=>trivial
  |inl e=>
   have ok:Be ss e:=ok;have f:=hk e.1 ok.1;show Kp ss L P bs e;rcases ok.2 with z|z
   ·rw[show e=(e.1,1)from Aj rfl z];exact f
   ·have:=f.flip (e:=(e.1,1)) ⟨ok.1,.inl rfl⟩;rw[show Nf (e.1,1)=e from Aj rfl (by simp[Nf,z])]at this
    exact this
end
def Vd.apart     (h:Vd W es ps)(y:ps[n]?=la p)(j:F∈ps.take n)(R:x∈p)(O:x∈F):False:=by
 have e:=h.un p (Cd y) F (Bu j) x R O;subst e;obtain⟨i,J,q⟩:=bg j;rw[Zh]at J;rw[nI]at q;have I:ps[i]?=la p:=by rw[ac (by lia),q]
 have:=(JI (by lia) h.nd).mp (I.trans y.symm)
 lia

def Kw  (ss:List Qb)(P:Int)(ws:Wn)(b:List Int)(i:Nat):Prop:=∃l,(ws.getD i (0,0)).1<=l/\l<=(ws.getD i (0,0)).2/\P ∣ bt b (eS ss (i,1))+l-bt b (eD ss (i,1))
inductive Cs (ss:List Qb)(P:Int)(sts B:List Int):Nat->Nat->Wn->U->Prop
 |ring {n:Nat} {ws:Wn} {r:List Hn} {a:Int}:HW ss sts r a a->r≠[]->r.length<=30->ji P ws B r->Cs ss P sts B n 1 ws (.tup [.str "ring",Mg r])
 |split {n m1 m2:Nat} {ws:Wn} {s:Nat} {l h cut:Int} {c1 c2:U}:ws[s]?=la (l,h)->l<=cut->cut<h->Cs ss P sts B n m1 (ws.set s (l,cut)) c1->Cs ss P sts B n m2 (ws.set s (cut+1,h)) c2->Cs ss P sts B (n+1) (m1+m2+1) ws (.tup [.str "split",.int s,.int cut,c1,c2])
section
variable {ss:List Qb}{P:Int}{ws:Wn}{b sts B:List Int}
def UL  (wl:ws.length=ss.length)(h:∀i,i<ss.length->Kw ss P ws b i):∃L,Wi L ws/\∀i,i<ss.length->Kp ss L P b (i,1):=by
 have y:∀i,∃l,i<ss.length->(ws.getD i (0,0)).1<=l/\l<=(ws.getD i (0,0)).2/\P ∣ bt b (eS ss (i,1))+l-bt b (eD ss (i,1)):=λi=>by
  by_cases j:i<ss.length
  ·obtain⟨l,I⟩:=h i j;exact⟨l,λ_=>I⟩
  ·exact⟨0,λz=>absurd z j⟩
 obtain⟨f,q⟩:∃f:Nat->Int,∀i,i<ss.length->(ws.getD i (0,0)).1<=f i/\f i<=(ws.getD i (0,0)).2/\P ∣ bt b (eS ss (i,1))+f i-bt b (eD ss (i,1)):=⟨λi=>Classical.choose (y i),λi=>Classical.choose_spec (y i)⟩;have F:∀i,i<ss.length->((Qc ss.length).map f).getD i 0=f i:=λi j=>by simp[Xc,j]
 refine⟨(Qc ss.length).map f,⟨by simp[wl],λi w e=>?_⟩,λi j=>?_⟩
 ·have j:i<ss.length:=by rw[<- wl];exact(Ba.mp e).1
  have:=q i j;rw[F i j];rw[getW e]at this;exact⟨this.1,this.2.1⟩
 ·unfold Kp;rw[eL_1 rfl,F i j];exact(q i j).2.2
def Wi.set     (h:Wi L ws)(F:w.1<=L.getD s 0)(j:L.getD s 0<=w.2):Wi L (ws.set s w):=by
 refine⟨by rw[Hi];exact h.l,λi q e=>?_⟩
 by_cases c:i=s
 ·subst c;have y:i<ws.length:=by
   have:=(Ba.mp e).1
   rwa [Hi]at this
  rw[Dl y]at e;cases e;exact⟨F,j⟩
 ·rw[Cj (λz=>c z.symm)]at e;exact h.b i q e
theorem JB   (ag:Ag sts B f):∀{r },(∀e∈r,Xh ss sts e)->Xe ws f r=Xe ws B r/\Re ws f r=Re ws B r
 |[],_=>⟨rfl,rfl⟩
 |e::r,hr=>by
  obtain⟨F,y⟩:=JB ag (r:=r) λx q=>hr x (Pd _ q);have j:hlo ws f e=hlo ws B e/\jg ws f e=jg ws B e:=by
   cases e with
   |inl e=>exact⟨rfl,rfl⟩
   |inr z=>
    have ok:=hr (.inr z) cf;show bt f z.2-bt f z.1=bt B z.2-bt B z.1/\bt f z.2-bt f z.1=bt B z.2-bt B z.1;rw[ag _ ok.1,ag _ ok.2];exact⟨rfl,rfl⟩
  rw[Fo,Do,Fo,Do,F,y,j.1,j.2];exact⟨rfl,rfl⟩
theorem Cs.ag      (ag:Ag sts B Z)(h:Cs ss P sts Z n m ws c):Cs ss P sts B n m ws c:=by
 induction h with
 |ring F hn O y=>
  obtain⟨I,e2⟩:=JB ag (ws:=_) F.all;exact .ring F hn O (by unfold ji at y ⊢;rw[<- I,<- e2];exact y)
 |split Y J R _ _ q j=>exact .split Y J R q j
def Cs.no     (h:Cs ss P sts B n m ws c)(Z:1<=P)(ag:Ag sts B b):ws.length=ss.length->∀L,Wi L ws->(∀i,i<ss.length->Kp ss L P b (i,1))->False:=by
 induction h with
 |@ring n ws r a F _ _ I=>
  intro wl L hL hk;have s:=hL.sum (B:=B) wl F.all;obtain⟨q,J⟩:=SS ag hk F;unfold ji at I;have:q<=Re ws B r/P:=Int.le_ediv_of_mul_le (by lia) (by rw[tu,<- J];exact s.2)
  have:=xJ this (show 0<=P by lia)
  rw[tu q P]at this
  lia
 |@split n R m2 ws s l h cut c1 c2 O h1 Y _ _ y j=>
  intro wl L hL hk;have b:=hL.b s _ O;by_cases c:L.getD s 0<=cut
  ·exact y (by rw[Hi];exact wl) L (hL.set b.1 c) hk
  ·exact j (by rw[Hi];exact wl) L (hL.set (by show cut+1<=_;lia) b.2) hk
def aS   r:Hc 2 (Mg r):=Hc.tup λu hu=>by
 obtain⟨e,_,rfl⟩:=Ea.mp hu;cases e with
 |inl e=>
  exact Hc.tup λv f=>by
   simp only[Ic,Je,or_false]at f;rcases f with rfl|rfl<;>exact Hc.int _
 |inr h=>
  exact Hc.tup λv f=>by
   simp only[Ic,Je,or_false]at f;rcases f with rfl|rfl|rfl
   ·exact Hc.str (by decide +kernel)
   ·exact Hc.int _
   ·exact Hc.int _
def Cs.sml     (h:Cs ss P sts B n m ws c):Hc (n+3) c:=by
 induction h with
 |@ring n ws r a _ _ _ _=>
  refine(Hc.tup (n:=2) λu hu=>?_).mono (by lia)
  simp only[Ic,Je,or_false]at hu;rcases hu with rfl|rfl
  ·exact(Hc.str (by decide +kernel)).mono (by decide)
  ·exact aS r
 |@split n y F ws s l h cut c1 c2 _ _ _ _ _ q j=>
  refine(Hc.tup (n:=n+3) λu hu=>?_).mono (by lia)
  simp only[Ic,Je,or_false]at hu;rcases hu with rfl|rfl|rfl|rfl|rfl
  ·exact(Hc.str (by decide +kernel)).mono (by lia)
  ·exact(Hc.int _).mono (by lia)
  ·exact(Hc.int _).mono (by lia)
  ·exact q
  ·exact j
structure Tm (P:Int)(B:List Int)(fs:List (Int×Ent))(rs:List (List Hn))(ws ws':Wn):Prop where
 l:ws'.length=ws.length
 sub:∀(i:Nat) (w w':Int×Int),ws[i]?=la w->ws'[i]?=la w'->w.1<=w'.1/\w'.1<=w'.2/\w'.2<=w.2
 pt:∀f∈fs,∀w',ws'[f.2.1]?=la w'->w'.1=w'.2
 nb:∀r∈rs,¬ji P ws' B r
def Tm.kw       (h:Tm P B fs rs ws j)(wl:ws.length=ss.length)(p1:1<=P)(ag:Ag sts B b)(hk:∀f∈fs,Be ss f.2/\Kp ss (j.map (·.1)) P b f.2)(J:ss[i]?=la s)
  (O:(∃f∈fs,f.2.1=i)\/∃r∈rs,CR ss sts fs i s r):Kw ss P ws b i:=by
 have il:=(Ba.mp J).1;have R:ws[i]?=la (ws[i]'(by lia)):=ac _
 have q:j[i]?=la (j[i]'(by rw[h.l];lia)):=ac _
 generalize ws[i]'(by lia)=w at R
 generalize j[i]'(by rw[h.l];lia)=w' at q
 have sb:=h.sub i w w' R q;have lw:(j.map (·.1)).getD i 0=w'.1:=nC (by rw[Lc,q];rfl)
 unfold Kw;rw[getW R];rcases O with⟨f,y,rfl⟩|⟨r,O,cr⟩
 ·obtain⟨ok,kf⟩:=hk f y;have Y:Kp ss (j.map (·.1)) P b (f.2.1,1):=by
   rcases ok.2 with z|z
   ·rw[show(f.2.1,(1:Int))=f.2 from Aj rfl z.symm];exact kf
   ·have:=kf.flip ok;rw[show Nf f.2=(f.2.1,1)from Aj rfl (by simp[Nf,z])]at this
    exact this
  unfold Kp at Y;rw[eL_1 rfl,lw]at Y;exact⟨w'.1,sb.1,by lia,Y⟩
 ·have nb:=h.nb r O;obtain⟨F,rfl,ht⟩:=cr.tl;obtain⟨_,_,w3⟩:=cr.wk;have t:=telH ag (λe he=>by
   cases e with
   |inr _=>trivial
   |inl e=>exact(ht (.inl e) he).kp (w3.all (.inl e) he) λf y=>(hk f y).2) w3
  have Z:∀r:List Hn,(∀e∈r,DJ fs e)->(∀e∈r,Xh ss sts e)->Xe j B r=sumH (j.map (·.1)) B r/\Re j B r=sumH (j.map (·.1)) B r:=λr=>by
   induction r with
   |nil=>intros;exact⟨rfl,rfl⟩
   |cons e r ih=>
    intro h1 h2;obtain⟨i1,i2⟩:=ih (λx hx=>h1 x (Pd _ hx)) λx hx=>h2 x (Pd _ hx);have one:hlo j B e=hL (j.map (·.1)) B e/\jg j B e=hL (j.map (·.1)) B e:=by
     cases e with
     |inr z=>exact⟨rfl,rfl⟩
     |inl e=>
      obtain⟨f,y,z⟩:=h1 (.inl e) cf;have ok:Be ss e:=h2 (.inl e) cf;have ef:f.2.1=e.1:=by rcases z with z|z<;>rw[z]<;>rfl
      have I:j[e.1]?=la (j[e.1]'(by rw[h.l,wl];exact ok.1)):=ac _
      generalize j[e.1]'(by rw[h.l,wl];exact ok.1)=v at I
      have pv:=h.pt f y v (by rw[ef];exact I)
      have lv:(j.map (·.1)).getD e.1 0=v.1:=nC (by rw[Lc,I];rfl)
      show vg j e=eL (j.map (·.1)) e/\wg j e=eL (j.map (·.1)) e;unfold vg wg;rw[getW I];rcases ok.2 with z|z
      ·rw[if_pos z,if_pos z,eL_1 z,lv];lia
      ·rw[if_neg (by lia),if_neg (by lia),eL_m z,lv];lia
    rw[Fo,Do,ow,one.1,one.2,i1,i2];exact⟨rfl,rfl⟩
  obtain⟨q1,q2⟩:=Z F ht w3.all;generalize sumH (j.map (·.1)) B F=S at t q1 q2;have b1:Xe j B (.inl (i,1)::F)=w'.1+S:=by
   rw[Fo,q1];show vg j (i,1)+S=_;unfold vg;rw[if_pos rfl,getW q]
  have b2:Re j B (.inl (i,1)::F)=w'.2+S:=by
   rw[Do,q2];show wg j (i,1)+S=_;unfold wg;rw[if_pos rfl,getW q]
  unfold ji at nb;rw[b1,b2]at nb;have m1:=Int.ediv_mul_le (w'.2+S) (show P≠0 by lia)
  rw[show hDd ss (.inl (i,1))=eD ss (i,1)from rfl,eD_1 J]at t;refine⟨(w'.2+S)/P*P-S,by lia,by lia,?_⟩
  rw[eS_1 J,eD_1 J];have d1:P ∣ (w'.2+S)/P*P:=⟨(w'.2+S)/P,tu _ _⟩;have:=Int.dvd_sub d1 t;rw[show(w'.2+S)/P*P-(bt b s.t+S-bt b s.o)=bt b s.o+((w'.2+S)/P*P-S)-bt b s.t by lia]at this
  exact this
end


def mP   (z:f=ws)(q0:(∀w∈ws,w.1<=w.2)->Q .non G)(q1:∀(i:Nat) (w:Int×Int),ws[i]?=la w->w.2<w.1->Q (.int i) G):db T (k+1) SF [Nc f] G Q X:=by
 subst z;refine⟨rfl,?_⟩;simp! only[JF,nc,Kb,Nc];refine Ze (λi y J=>∃o1 o2 o3:Option U,y=[la (Nc f),o1,o2,o3]/\J=G/\∀j w,j<i->f[j]?=la w->w.1<=w.2) ?_ ?_ ⟨_,_,_,rfl,rfl,λj w h=>by lia⟩
 ·rintro y J ⟨o1,o2,o3,rfl,rfl,h⟩;rw[So,Ua]at h;refine⟨trivial,?_⟩;simp! only[];exact q0 λw z=>by
   obtain⟨j,I,e⟩:=bg z;exact h j w I (by rw[ac I,e])
 ·rintro i x y J K O ⟨o1,o2,o3,rfl,rfl,h⟩ hk;obtain⟨u,hu,rfl⟩:=Po O;rw[Lc]at hu;cases q:f[i]? with
  |none=>rw[q]at hu;cases hu
  |some w=>
   rw[q]at hu;have hu:=(Zc hu).symm;subst hu;refine⟨trivial,?_⟩;simp! only[wu];refine⟨trivial,trivial,?_⟩;by_cases c:w.2<w.1
   ·rw[if_pos (by simpa using c)]
    rw[show((0+i:Nat):Int)=(i:Int) by lia]
    exact q1 i w q c
   ·rw[if_neg (by simpa using c)]
    refine hk _ _ ⟨_,_,_,rfl,rfl,λj R I F=>?_⟩;by_cases e:j=i
    ·subst e;rw[q]at F;cases F
     lia
    ·exact h j R (by lia) F
def nP     (O:G pf=la (.frk o (Wd fs)))(wl:ws.length=ss.length)(hf:∀f∈fs,Be ss f.2)(q0:(∀f∈fs,∀w,ws[f.2.1]?=la w->¬w.1<w.2)->Q .non G)
  (q1:∀f∈fs,∀w,ws[f.2.1]?=la w->w.1<w.2->Q (.int f.2.1) G):db T (k+1) TF [.loc pf,Nc ws] G Q X:=by
 refine⟨rfl,?_⟩;simp! only[KF,nc,Kb,pC O];have Z:Dh (Wd fs)=fs.map λf=>eu f.2:=by unfold Dh Wd;rw[Pe];rfl
 rw[Z];refine Ze (λi J R=>∃o2 o3 o4 o5:Option U,J=[la (.loc pf),la (Nc ws),o2,o3,o4,o5]/\R=G/\∀f∈fs.take i,∀w,ws[f.2.1]?=la w->¬w.1<w.2) ?_ ?_ ⟨_,_,_,_,rfl,rfl,λf h=>by simp at h⟩
 ·rintro J R ⟨o2,o3,o4,o5,rfl,rfl,h⟩;rw[Ua,Ke]at h;refine⟨O,?_⟩;simp! only[];exact q0 h
 ·rintro i x J R K q ⟨o2,o3,o4,o5,rfl,rfl,h⟩ hk;rw[Lc]at q;cases F:fs[i]? with
  |none=>rw[F]at q;cases q
  |some f=>
   rw[F]at q;cases q;have Y:=Cd F;have il:f.2.1<ws.length:=by rw[wl];exact(hf f Y).1
   have I:ws[f.2.1]?=la ws[f.2.1]:=ac il;generalize ws[f.2.1]=w at I;refine⟨O,?_⟩;simp! only[eu,Nc,ix_t (Bf I),wu];refine⟨trivial,trivial,?_⟩;by_cases c:w.1<w.2
   ·rw[if_pos (by simpa using c)]
    exact q1 f Y w I c
   ·rw[if_neg (by simpa using c)]
    refine hk _ _ ⟨_,_,_,_,rfl,rfl,λf' y w' j=>?_⟩;rw[Ve,F]at y;rcases Fa.mp y with z|z
    ·exact h f' z w' j
    ·rw[bc.mp z,I]at j;cases j;exact c
def MC  {s:Nat}(hs:s<ws.length)(wl:ws.length<=24)(q:Q (Nc (ws.set s w)) G):db T (k+1) Ox [Nc ws,.int s,wu w] G Q X:=by
 refine⟨rfl,?_⟩;simp! only[GF,nc,Kb,Nc];have j:cut (ws.map wu) Aa (la (s:Int))=(ws.take s).map wu:=by rw[cm,ju]
 have f:cut (ws.map wu) (la ((s:Int)+1)) Aa=(ws.drop (s+1)).map wu:=by
  have:=xt (ws.map wu) (s+1);rw[Sy];exact this
 rw[j,f];refine⟨by decide,Fb (show _<=30 by simp;lia) (by decide),Fb (show _<=60 by simp;lia) (by decide),?_⟩
 have y:(ws.take s).map wu++[wu w]++(ws.drop (s+1)).map wu=(ws.set s w).map wu:=by
  rw[tJ,if_pos hs];simp
 rw[y];exact q
def aT  {s:Nat}(hs:ws[s]?=la w)(wl:ws.length<=24)(q:Q (.tup [.int ((w.1+w.2)/2),.tup [Nc (ws.set s (w.1,(w.1+w.2)/2)),Nc (ws.set s ((w.1+w.2)/2+1,w.2))]]) G):db T (k+2) YC [Nc ws,.int s] G Q X:=by
 have f:=(Ba.mp hs).1;refine⟨rfl,?_⟩;simp! only[vD,nc,Kb,Nc,ix_t (Bf hs)];show Yc _ (.tup [.int w.1,.int w.2]) _ _;simp! only[];refine⟨trivial,by decide,by decide,by decide,?_⟩
 refine MC (ws:=ws) (w:=(w.1,(w.1+w.2)/2)) f wl ?_
 simp! only[];refine⟨by decide,?_⟩
 refine MC (ws:=ws) (w:=((w.1+w.2)/2+1,w.2)) f wl ?_
 exact⟨by decide,by decide,q⟩

def Tm.of         (hs:ws[s]?=la w)(e:j=ws.set s v)(O:w.1<=v.1)(J:v.2<=w.2)(h:Tm P B fs rs j y):Tm P B fs rs ws y:=by
 subst e;have I:=(Ba.mp hs).1;refine⟨by rw[h.l,Hi],λi a b q F=>?_,h.pt,h.nb⟩
 by_cases c:i=s
 ·subst c;rw[hs]at q;cases q;have:=h.sub i v b (Dl I) F
  lia
 ·exact h.sub i a b (by rw[Cj (λz=>c z.symm)];exact q) F
def RQ   n:(2:Int) ^ (n+1)=2*2 ^ n:=by rw[Int.pow_succ,tu]
def xN  {l h:Int}(j:l<h)(f:h-l<2 ^ n):∃m,n=m+1/\(l+h)/2-l<2 ^ m/\h-((l+h)/2+1)<2 ^ m:=by
 cases n with
 |zero=>exact absurd f (by have:(2:Int) ^ 0=1:=rfl;lia)
 |succ m=>
  refine⟨m,rfl,?_⟩;rw[RQ]at f;generalize (2:Int) ^ m=x at f
  lia
noncomputable def mj  (e:Nat->Nat)(s m i:Nat):Nat:=if i=s then m else e i
theorem qD    (F:e s=m+1):∀{fs:List (Int×Ent)},(fs.map λf=>mj e s m f.2.1).sum<=(fs.map λf=>e f.2.1).sum/\((∃f∈fs,f.2.1=s)->(fs.map λf=>mj e s m f.2.1).sum<(fs.map λf=>e f.2.1).sum)
 |[]=>⟨Db _,λ⟨_,h,_⟩=>(nomatch h)⟩
 |f::fs=>by
  obtain⟨O,I⟩:=qD F (fs:=fs);simp only[Le,List.sum_cons];by_cases c:f.2.1=s
  ·have j:mj e s m f.2.1=m:=if_pos c;rw[j,c,F];exact⟨by lia,λ_=>by lia⟩
  ·have j:mj e s m f.2.1=e f.2.1:=if_neg c;rw[j];refine⟨by lia,λ⟨J,y,q⟩=>?_⟩
   rcases Ic.mp y with z|z
   ·rw[z]at q;exact absurd q c
   ·have:=I ⟨J,z,q⟩;lia
def Sk  (xs:List Str)(ss:List Qb)(P:Int)(sts B:List Int)(fs:List (Int×Ent))(rs:List (List Hn))(pf pr:Ca)(o:Obj)(n:Nat):Prop:=
 ∀(k:Nat) (G:Gp) (Q:K1) (X:KX) (ws:Wn) (e:Nat->Nat),ws.length=ss.length->(∀w∈ws,w.1<=w.2)->(∀f∈fs,∀v,ws[f.2.1]?=la v->v.2-v.1<2 ^ (e f.2.1))->(fs.map λf=>e f.2.1).sum<=n->G pf=la (.frk o (Wd fs))->G pr=la (.lst (rs.map Mg))->
  (∀(c:U) (m:Nat) (G':Gp),Sa G G'->Cs ss P sts B n m ws c->Q (.tup [.str "none",c]) G')->(∀(j:Wn) (G':Gp),Sa G G'->Tm P B fs rs ws j->Q (.tup [.str "times",Nc j]) G')->db T (k+n+4) Ps [Jb xs ss,.int P,ub B,.loc pf,.loc pr,Nc ws] G Q X

def iE  {sts: List Int}(hF:Jf W ss rts fs)(w8:W<=8)(hb:Sb sts B)(sl:ss.length<=24)(p1:1<=P)(p2:P<=600)(yb:∀r∈rs,∃i s,CR ss sts fs i s r)(ih:∀m,n=m+1->Sk xs ss P sts B fs rs pf pr o m):Sk xs ss P sts B fs rs pf pr o n:=by
 intro k G Q X ws e wl nv hm hs gf gr q1 q2;have hf:∀f∈fs,Be ss f.2:=λf hf=>by
  obtain⟨j,hj,ej⟩:=bg hf;exact(hF.en j f (by rw[ac hj,ej])).1
 have kb:=Pg _ _ hF.nd hF.bd;simp only[Hb,Ae,Ua]at kb;refine⟨rfl,?_⟩;simp! only[lB,nc,Kb,it_l gr];refine Ze (λi ς O=>∃o6:Option U,ς=[la (Jb xs ss),la (.int P),la (ub B),la (.loc pf),la (.loc pr),la (Nc ws),o6,Aa,Aa,Aa,Aa,Aa,Aa,Aa]/\Sa G O/\∀r∈rs.take i,¬ji P ws B r) ?_ ?_ ⟨_,rfl,Sa.refl,λr hr=>by simp at hr⟩
 ·rintro ς J ⟨o6,rfl,s1,nb⟩;rw[Ua,Ke]at nb;have ka:=s1 _ _ gf;refine⟨by unfold Bc;rw[s1 _ _ gr],?_⟩
  simp! only[PD];refine nP (ss:=ss) ka wl hf (λhn=>?_) λf fm v Y c=>?_
  ·have za:∀kk:Bool->Prop,kk ma->Wh .non .non kk:=λ_ h=>h;simp! only[fx];refine za _ ?_;rw[if_pos rfl];refine⟨by decide,q2 ws J s1 ⟨rfl,λi a b ea eb=>?_,λf xa v Y=>?_,nb⟩⟩
   ·rw[ea]at eb;cases eb;have:=nv a (Cd ea)
    lia
   ·have:=hn f xa v Y;have:=nv v (Cd Y)
    lia
  ·have za:∀kk:Bool->Prop,kk ua->Wh (.int (f.2.1:Int)) .non kk:=λ_ h=>h;simp! only[fx];refine za _ ?_;rw[if_neg (by decide)]
   obtain⟨m',zb,c1,c2⟩:=xN c (hm f fm v Y);have xc:=(qD (s:=f.2.1) zb (fs:=fs)).2 ⟨f,fm,rfl⟩;obtain⟨m,rfl⟩:∃m,n=m+1:=⟨n-1,by lia⟩
   have il:=(Ba.mp Y).1;generalize va:(v.1+v.2)/2=ct at c1 c2;have l1:v.1<=ct:=by lia
   have l2:ct<v.2:=by lia
   simp! only[QD];refine aT (ws:=ws) Y (by lia) ?_
   rw[va];simp! only[];refine⟨trivial,?_⟩;simp! only[RD];refine⟨by decide,λpc G2 n2=>?_⟩
   simp! only[SD];have ya:∀(x:Int×Int),v.1<=x.1->x.1<=x.2->x.2<=v.2->x.2-x.1<2 ^ m'->(ws.set f.2.1 x).length=ss.length/\(∀y∈ws.set f.2.1 x,y.1<=y.2)/\∀R∈fs,∀y,(ws.set f.2.1 x)[R.2.1]?=la y->y.2-y.1<2 ^ (mj e f.2.1 m' R.2.1):=λx x1 x2 x3 x4=>by
    refine⟨by rw[Hi];exact wl,λy hy=>?_,λR xa y ey=>?_⟩
    ·rcases jJ hy with z|z
     ·exact nv y z
     ·rw[z];exact x2
    ·by_cases z:R.2.1=f.2.1
     ·rw[z,Dl il]at ey;cases ey;rw[show mj e f.2.1 m' R.2.1=m' from if_pos z];exact x4
     ·rw[Cj (λy=>z y.symm)]at ey;rw[show mj e f.2.1 m' R.2.1=e R.2.1 from if_neg z];exact hm R xa y ey
   refine Ze (λj ς O=>∃(F:List U) (Bh o12 o13:Option U),ς=[la (Jb xs ss),la (.int P),la (ub B),la (.loc pf),la (.loc pr),la (Nc ws),o6,la (.int f.2.1),la (.int ct),la (.tup [Nc (ws.set f.2.1 (v.1,ct)),Nc (ws.set f.2.1 (ct+1,v.2))]),la (.loc pc),Bh,o12,o13]/\Sa G O/\O pc=la (.lst F)/\F.length=j/\(∀c,F[0]?=la c->∃n,Cs ss P sts B m n (ws.set f.2.1 (v.1,ct)) c)/\∀c,F[1]?=la c->∃n,Cs ss P sts B m n (ws.set f.2.1 (ct+1,v.2)) c) ?_ ?_ ⟨[],_,_,_,rfl,s1.trans n2.sa,n2.at,rfl,λc h=>by simp at h,λc h=>by simp at h⟩
   ·rintro ς G3 ⟨F,Bh,o12,o13,rfl,s3,g3,cl,h1,h2⟩;have cl:F.length=2:=cl;refine⟨trivial,?_⟩;obtain⟨ca,cb,rfl⟩:∃a b,F=[a,b]:=by
     match F,cl with
     |[a,b],_=>exact⟨a,b,rfl⟩
    obtain⟨n1,k1⟩:=h1 ca rfl;obtain⟨zc,k2⟩:=h2 cb rfl;simp! only[TD,ix_l g3 (Td _ _),ix_l g3 (Ad _ _ _)];exact⟨by decide,by decide,q1 _ _ G3 s3 (.split Y l1 l2 k1 k2)⟩
   ·rintro j x ς G3 K q ⟨F,Bh,o12,o13,rfl,s3,g3,cl,h1,h2⟩ hk;have wa:=s3 _ _ gf;have ha:=s3 _ _ gr;have wb:G pc=Aa:=Bi s1 n2.no;have vb:∀{Ga Gb:Gp} {u:MO},Sa G Ga->qg Ga pc u Gb->Sa G Gb:=λ{Ga Gb u} s w b z e=>w.sm _ _ (λy=>by rw[y,wb]at e;cases e) (s b z e)
    refine⟨trivial,?_⟩;simp! only[];have go:∀(y:Int×Int),v.1<=y.1->y.1<=y.2->y.2<=v.2->y.2-y.1<2 ^ m'->(∀(c:U) (n:Nat),Cs ss P sts B m n (ws.set f.2.1 y) c->∀O,Sa G O->O pc=la (.lst (F++[c]))->∀o12 o13,K [la (Jb xs ss),la (.int P),la (ub B),la (.loc pf),la (.loc pr),la (Nc ws),o6,la (.int f.2.1),la (.int ct),la (.tup [Nc (ws.set f.2.1 (v.1,ct)),Nc (ws.set f.2.1 (ct+1,v.2))]),la (.loc pc),la (Nc (ws.set f.2.1 y)),o12,o13] O)->
      db T (k+m+4) Ps [Jb xs ss,.int P,ub B,.loc pf,.loc pr,Nc (ws.set f.2.1 y)] G3 (λu J=>Yc (.t (.cons (.n 12) (.cons (.n 13) .nil))) u [la (Jb xs ss),la (.int P),la (ub B),la (.loc pf),la (.loc pr),la (Nc ws),o6,la (.int f.2.1),la (.int ct),la (.tup [Nc (ws.set f.2.1 (v.1,ct)),Nc (ws.set f.2.1 (ct+1,v.2))]),la (.loc pc),la (Nc (ws.set f.2.1 y)),o12,o13] λI=>slot I 12 λu=>cmpU .Eq u (.str "times") J λb=>if b=ma then slot I 13 λu=>0+1+1<=Za/\Q (.tup [.str "times",u]) J else slot I 10 λu=>match Se .append u J with
       |some _=>slot I 13 λjb=>ze .append u [jb] J λ_ J=>K I J
       |none=>False) λx J=>X x J:=λy y1 y2 y3 y4 add=>by
     obtain⟨a1,a2,a3⟩:=ya y y1 y2 y3 y4;refine ih m rfl k G3 _ _ _ (mj e f.2.1 m') a1 a2 a3 (by lia) wa ha (λc n' G4 Z hc=>?_) λxb G4 Z ht=>?_
     ·have g4:=Z _ _ g3;simp! only[];refine⟨trivial,?_⟩;rw[if_neg (by decide +kernel)]
      simp! only[Of g4,xg g4];refine⟨Eg (show F.length<=2 by have:=(Ba.mp q).1;simp at this;lia) (by decide),λG5 p5=>?_⟩
      exact add c n' hc G5 (vb (s3.trans Z) p5) p5.at _ _
     ·simp! only[];refine⟨trivial,?_⟩;rw[if_pos (by decide +kernel)]
      simp! only[];exact⟨by decide,q2 xb G4 (s3.trans Z) (Tm.of Y rfl y1 y3 ht)⟩
    rw[show k+(m+1)+3=k+m+4 by lia]
    match j,q,cl with
    |0,q,cl=>
     have q:Nc (ws.set f.2.1 (v.1,ct))=x:=Zc q;subst q;have e0:F=[]:=uc.mp cl;subst e0;refine go (v.1,ct) (Bp _) l1 (by show ct<=v.2;lia) c1 λc n' hc G4 Z g4 a b=>hk _ _ ⟨[c],_,_,_,rfl,Z,g4,rfl,λc' h=>?_,λc' h=>by simp at h⟩
     cases h;exact⟨n',hc⟩
    |1,q,cl=>
     have q:Nc (ws.set f.2.1 (ct+1,v.2))=x:=Zc q;subst q;obtain⟨c0,rfl⟩:∃c,F=[c]:=by
      match F,cl with
      |[c],_=>exact⟨c,rfl⟩
     refine go (ct+1,v.2) (by show v.1<=ct+1;lia) (by show ct+1<=v.2;lia) (Bp _) c2 λc n' hc G4 Z g4 a b=>hk _ _ ⟨[c0,c],_,_,_,rfl,Z,g4,rfl,λc' h=>?_,λc' h=>?_⟩
     ·cases h;exact h1 _ rfl
     ·cases h;exact⟨n',hc⟩
    |j+2,q,cl=>simp at q
 ·rintro i x ς J K q ⟨o6,rfl,s1,nb⟩ hk;rw[Lc]at q;cases er:rs[i]? with
  |none=>rw[er]at q;cases q
  |some r=>
   rw[er]at q;cases q;obtain⟨j,s,hr⟩:=yb r (Cd er);have qc:=hr.l;obtain⟨t,ht,_⟩:=hr.tl;refine⟨by unfold Bc;rw[s1 _ _ gr],?_⟩
   simp! only[];refine dP (xs:=xs) (k:=k+n) wl hb hr.wk.all (by lia) p1 p2 λG2 s2=>?_
   simp! only[];by_cases c:ji P ws B r
   ·rw[if_pos (by simpa using c)]
    exact⟨by decide,by decide,q1 _ 1 G2 (s1.trans s2) (.ring hr.wk (by rw[ht];simp) (by lia) c)⟩
   ·rw[if_neg (by simpa using c)]
    refine hk _ _ ⟨_,rfl,s1.trans s2,λr' ja=>?_⟩;rw[Ve,er]at ja;rcases Fa.mp ja with z|z
    ·exact nb r' z
    ·rw[bc.mp z];exact c
def jP  {sts: List Int} n (y:Jf W ss rts fs)(I:W<=8)(j:Sb sts B)(z:ss.length<=24)(F:1<=P)(q:P<=600)(f:∀r∈rs,∃i s,CR ss sts fs i s r):Sk xs ss P sts B fs rs pf pr o n:=by
 induction n with
 |zero=>exact iE y I j z F q f λm h=>(nomatch h)
 |succ n J=>exact iE y I j z F q f λm h=>by cases h;exact J

def gs24  : T.gs=[.int 300]:=rfl

noncomputable def stay  (sts p:List Int):List Int:=p.filter λx=>decide (x∈sts)
def Ci  {sts p:List Int}:x∈stay sts p↔x∈p/\x∈sts:=by unfold stay;rw[Ff,decide_eq_true_eq]
def RE  {p sts:List Int}(R:p.length<=8)(q:∀a y ,Sa G y->y a=la (.lst ((stay sts p).map .int))->Q (.loc a) y):db T (k+1) tx [ub p,ub sts] G Q X:=by
 refine⟨rfl,?_⟩;simp! only[JD,nc,Kb,ub];refine⟨by rw[Ua];exact Fb R (by decide),?_⟩
 refine Ce (λi j y=>y=G/\j=(stay sts (p.take i)).map .int) ?_ ?_ ⟨rfl,rfl⟩
 ·rintro j O ⟨rfl,rfl⟩;rw[Ua,Ke];exact⟨trivial,λa J I=>q a J I.sa I.at⟩
 ·rintro i x j O K f ⟨rfl,rfl⟩ hk hn;rw[Lc]at f;cases e:p[i]? with
  |none=>rw[e]at f;cases f
  |some z=>
   rw[e]at f;have f:=(Zc f).symm;subst f;have F:stay sts (p.take (i+1))=stay sts (p.take i)++if z∈sts then [z] else []:=by
    unfold stay;rw[Ve,e,Ii];by_cases c:z∈sts<;>simp[c]
   refine⟨trivial,?_⟩;simp! only[];refine⟨rfl,Zg _,?_⟩;rw[Xg];by_cases c:z∈sts
   ·rw[if_pos c]at F;rw[if_pos (decide_eq_true c)];exact hk _ _ ⟨rfl,by rw[F,Oc];rfl⟩
   ·rw[if_neg c,vh]at F;rw[if_neg (by rw[decide_eq_false c];decide)]
    exact hn _ ⟨rfl,by rw[F]⟩
def Zw     (h:Vd W es ps)(j:W<=8)(f:p∈ps):p.length<=8:=
 Fb (Pg W p ((h.as p f).imp λ{a b} g e=>by lia) (h.bd p f)) j
def wR     (h:Vd W es ps)(j:0<W):1<=ps.length:=by
 obtain⟨p,f,_⟩:=h.al 0 (by lia) (by lia)
 exact qJ f
def fre  (sts:List Int)(p:List Int):Bool:=(stay sts p).isEmpty
def gU  {sts:List Int}(w0:0<xs.length)(Y:xs.length<=8)(so:∀s∈ss,s.Ok xs.length)(sl:ss.length<=24)(h1:1<=P)(h2:P<=600)(tl:sts.length<=8)(pw:P.toNat ^ (xs.length-1)<=300)
  (q:∀z F ,z<=300->Sa G F->Q (.int z) F):db T (k+4) eE [Jb xs ss,.int P,ub sts] G Q X:=by
 refine⟨rfl,?_⟩;simp! only[ID,nc,Kb];refine IE so sl Y λf G1 hP hs pl s1=>?_;have pn:=wR hP w0;simp! only[tw];refine⟨by rw[Ua];exact Fb pl (by decide),?_⟩
 refine Ce (λi y F=>Sa G1 F/\y=((f.take i).filter (fre sts)).map ub) ?_ ?_ ⟨Sa.refl,rfl⟩
 ·rintro y G2 ⟨s2,rfl⟩;rw[Ua,Ke];have fl:(f.filter (fre sts)).length<=f.length:=nJ _ _;have I:1<=sts.length+(f.filter (fre sts)).length:=by
   cases sts with
   |cons a r=>simp;lia
   |nil=>
    have:f.filter (fre [])=f:=List.filter_eq_self.mpr λp _=>by
     unfold fre stay;simp
    rw[this];lia
  have O:P.toNat ^ ((xs.length:Int)-(sts.length:Int)-((f.filter (fre sts)).length:Int)).toNat<=300:=Fb (Au (by lia) (by lia)) pw
  refine⟨trivial,λp3 G3 R=>?_⟩;simp! only[YF];simp! only[ZF,Jb,ub,ix_t (Td _ _),Ua,xi R.at];refine⟨by lia,by lia,?_⟩
  refine Ze (λi J F=>F=G3/\∃o5,J=[la (Jb xs ss),la (.int P),la (ub sts),la (.loc p3),la (.int ((P.toNat ^ i:Nat):Int)),o5]) ?_ ?_ ⟨rfl,_,rfl⟩
  ·rintro J G4 ⟨rfl,o5,rfl⟩;rw[Zd];refine⟨trivial,?_⟩;simp! only[];refine q _ _ ?_ ((s1.trans s2).trans R.sa)
   lia
  ·rintro i x J G4 K j ⟨rfl,o5,rfl⟩ hk;obtain⟨hi,rfl⟩:=Xf j;refine⟨trivial,?_⟩;simp! only[];have b1:P.toNat ^ i<=300:=Fb (Au (by lia) (by lia)) O
   generalize ez:P.toNat ^ i=z at b1;refine⟨.inr (by constructor<;>lia),hk _ _ ⟨rfl,la (.int (i:Int)),?_⟩⟩
   have e:((P.toNat ^ (i+1):Nat):Int)=(z:Int)*P:=by rw[xu,ez,Int.natCast_mul];congr 1;lia
   rw[e]
 ·rintro i x y G2 K j ⟨s2,rfl⟩ hk hn;rw[Lc]at j;cases e:f[i]? with
  |none=>rw[e]at j;cases j
  |some z=>
   rw[e]at j;have j:=(Zc j).symm;subst j;refine⟨trivial,?_⟩;simp! only[];refine RE (Zw hP Y (Cd e)) λa G3 Z g3=>?_;rw[Js g3];have ft:(f.take (i+1)).filter (fre sts)=(f.take i).filter (fre sts)++if fre sts z=ma then [z] else []:=by
    rw[Ve,e,Ii];cases c:fre sts z<;>simp[c]
   have em:((stay sts z).map U.int).isEmpty=fre sts z:=zz;rw[em];cases c:fre sts z with
   |true=>
    rw[c,if_pos rfl]at ft;rw[if_pos (by decide)]
    exact hk _ _ ⟨s2.trans Z,by rw[ft,Oc];rfl⟩
   |false=>
    rw[c,if_neg (by decide),vh]at ft
    rw[if_neg (by decide)]
    exact hn _ ⟨s2.trans Z,by rw[ft]⟩
def cT  {sts:List Int}(F:0<xs.length)(O:xs.length<=8)(y:∀s∈ss,s.Ok xs.length)(I:ss.length<=24)(R:1<=P)(J:P<=600)(j:sts.length<=8)(pw:P.toNat ^ (xs.length-1)<=300)
  (q:∀f ,Sa G f->Q .non f):db T (k+5) gG [Jb xs ss,.int P,ub sts] G Q X:=by
 refine⟨rfl,?_⟩;simp! only[dG,nc,Kb];refine gU F O y I R J j pw λz Y Z s1=>?_;simp! only[gs24,jp];rw[if_neg (by simp;lia)]
 exact q _ s1

noncomputable def endZ  (P:Int)(s:Qb):Int:=if s.lo+P-1<(if s.w = "span" then s.hi else P-s.hi) then s.lo+P-1 else if s.w = "span" then s.hi else P-s.hi
def winO  (P:Int)(ss:List Qb):Wn:=ss.map λs=>(s.lo,endZ P s)
def RL    : endZ P s-s.lo<=P-1:=by unfold endZ;split<;>lia
section
variable {k:Nat}{G:Gp}{Q:K1}{X:KX}{xs:List Str}{ss:List Qb}{ws:Wn}{P:Int}{W:Nat}
def HN  {i:Nat}(hs:ss[i]?=la s)(h:s.Ok W)(q:Q (.int (if s.w = "span" then s.hi else P-s.hi)) G):db T (k+1) ZC [Jb xs ss,.int P,.int i] G Q X:=by
 refine⟨rfl,?_⟩;simp! only[wD,nc,Kb,Jb,ix_t (Ad _ _ _),ix_t (Bf hs),Qb.u];refine⟨trivial,?_⟩;rcases h.w with z|z
 ·rw[z,if_neg (by decide +kernel)]
  rw[z,if_neg (show ¬(("apart" : Str) = "span") by decide +kernel)]at q
  exact q
 ·rw[z,if_pos (by decide +kernel)]
  rw[z,if_pos rfl]at q;exact q
def DT  (J:∀s∈ss,s.Ok W)(R:ss.length<=24)(q:∀j,Sa G j->Q (Nc (winO P ss)) j):db T (k+3) tF [Jb xs ss,.int P] G Q X:=by
 refine⟨rfl,?_⟩;simp! only[MF,nc,Kb,Jb,ix_t (Ad _ _ _),Ua];refine⟨by lia,by lia,by rw[Zd];exact Fb (show((ss.length:Int)).toNat<=24 by lia) (by decide),?_⟩
 refine Ce (λi f j=>j=G/\f=(winO P (ss.take i)).map wu) ?_ ?_ ⟨rfl,rfl⟩
 ·rintro f j ⟨rfl,rfl⟩;rw[Zd,Ke];refine⟨trivial,λp O F=>?_⟩;dsimp only;rw[it_l F.at];exact q O F.sa
 ·rintro i x f j K I ⟨rfl,rfl⟩ hk _;obtain⟨y,rfl⟩:=Xf I;have y:i<ss.length:=by lia
  have z:ss[i]?=la ss[i]:=ac y;refine⟨trivial,?_⟩;simp! only[];refine⟨rfl,?_⟩;simp! only[xE,nc,Kb,Jb,ix_t (Ad _ _ _),ix_t (Bf z)];show af (.tup [.str ss[i].w,.int ss[i].o,.int ss[i].t,.int ss[i].lo,.int ss[i].hi]) _ _ _;rw[ix_t (show atI [U.str ss[i].w,.int ss[i].o,.int ss[i].t,.int ss[i].lo,.int ss[i].hi] 3=la (.int ss[i].lo)from rfl)];simp! only[];refine HN (xs:=xs) (P:=P) z (J _ (Mh y)) ?_;simp! only[];refine⟨by decide,hk _ _ ⟨rfl,?_⟩⟩
  unfold winO;rw[Ve,z,Oc,Oc];rfl
def Hd  (ss:List Qb)(sts:List Int)(x:Int):Prop:=∀y,Con (ce ss) x y->x<=y/\y∉sts
structure Pw (W:Nat)(ss:List Qb)(P:Int)(ws:Wn)(sts B:List Int)(ps:List (List Int))(n:Nat)(bs:List Int):Prop where
 l:bs.length=W
 b:∀b∈bs,0<=b/\b<P
 ag:Ag sts B bs
 z:∀x:Int,0<=x->x<W->Hd ss sts x->bt bs x=0
 k:∀i s,ss[i]?=la s->(∃p∈ps.take n,(s.o:Int)∈p)->Kw ss P ws bs i
def UP     (h:Kw ss P ws bs i)(hs:ss[i]?=la s)(q:bt f s.o=bt bs s.o)(j:bt f s.t=bt bs s.t):Kw ss P ws f i:=by
 unfold Kw at h ⊢;rw[eS_1 hs,eD_1 hs]at h ⊢;rw[q,j];exact h
def Pw.step {n:Nat}{sts B rts:List Int}{fs:List (Int×Ent)}{p:List Int}{ps:List (List Int)}{bs j:List Int}(h:Pw W ss P ws sts B ps n bs)(R:Vd W (ce ss) ps)(O:ps[n]?=la p)(he:∀x,x∈p↔x∈rts++Hb fs)(hb:∀x∈sts,0<=x)
  (a1:∀x∈sts,x∉Hb fs) (a2:∀x,Hd ss sts x->x∉Hb fs) (l':j.length=W) (b':∀b∈j,0<=b/\b<P) (I:∀x,0<=x->x∉Hb fs->bt j x=bt bs x) (k':∀i s,ss[i]?=la s->(s.o:Int)∈p->Kw ss P ws j i):Pw W ss P ws sts B ps (n+1) j:=by
 have off:∀x,x∉p->x∉Hb fs:=λx q z=>q ((he x).mpr (Ee _ z));refine⟨l',b',λx q=>(I x (hb x q) (a1 x q)).trans (h.ag x q),λx h0 h1 hd=>(I x h0 (a2 x hd)).trans (h.z x h0 h1 hd),λi s J ⟨Z,F,y⟩=>?_⟩;rw[Ve,O]at F;rcases Fa.mp F with z|z
 ·have ht:(s.t:Int)∈Z:=R.part (Bu z) y (.one (.inl (Ea.mpr ⟨s,Cd J,rfl⟩)));exact UP (h.k i s J ⟨Z,z,y⟩) J (I _ (by lia) (off _ λY=>R.apart O z Y y)) (I _ (by lia) (off _ λY=>R.apart O z Y ht))
 ·rw[bc.mp z]at y;exact k' i s J y
def Ug  (W:Nat)(sts B:List Int):List Int:=(Qc W).map λ(i:Nat)=>if (i:Int)∈sts then bt B i else 0
def NB   {sts B:List Int}{x:Int}(h0:0<=x)(f:x<W):bt (Ug W sts B) x=if x∈sts then bt B x else 0:=by
 obtain⟨j,rfl⟩:=Gg h0;have e:(Ug W sts B)[j]?=la (if (j:Int)∈sts then bt B j else 0):=by unfold Ug;simp[show j<W by lia]
 rw[show bt (Ug W sts B) (j:Int)=(Ug W sts B).getD j 0 from rfl,Xc,e];rfl
theorem GK  {sts B:List Int}(so:∀s∈ss,s.Ok xs.length)(sl:ss.length<=24)(w0:0<xs.length)(w8:xs.length<=8)(p1:1<=P)(p2:P<=600)(pw:P.toNat ^ (xs.length-1)<=300)(Bl:B.length=xs.length)(Bb:∀b∈B,0<=b/\b<P)(tl:sts.length<=8)(sb:∀x∈sts,0<=x/\x<xs.length)
  (q1:∀c m F ,Sa G F->Cs ss P sts B 70 m (winO P ss) c->Q (.tup [.str "none",c]) F)
  (q2:∀(bs:List Int) F ,Sa G F->bs.length=xs.length->(∀b∈bs,0<=b/\b<P)->Ag sts B bs->(∀x:Int,0<=x->x<xs.length->Hd ss sts x->bt bs x=0)->(∀i,i<ss.length->Kw ss P (winO P ss) bs i)->Q (.tup [.str "times",ub bs]) F) :
  db T (k+75) VG [Jb xs ss,.int P,ub B,ub sts] G Q X:=by
 have wl:(winO P ss).length=ss.length:=Ua _;refine⟨rfl,?_⟩;simp! only[UG,nc,Kb];refine cT (k:=k+69) w0 w8 so sl p1 p2 tl pw λG1 s1=>?_;simp! only[yH];refine DT (k:=k+71) so sl λG2 s2=>?_;simp! only[zH];refine mP (k:=k+73) (ws:=winO P ss) rfl (λnv=>?_) λi w ew c=>?_
 ·have ja:∀kk:Bool->Prop,kk ma->Wh .non .non kk:=λ_ h=>h;simp! only[Tx];refine ja _ ?_;rw[if_neg (by decide)]
  simp! only[AH,Jb,ix_t (Td _ _),Ua];refine⟨by lia,by lia,by rw[Zd];exact Fb (show((xs.length:Int)).toNat<=8 by lia) (by decide),?_⟩
  refine Ce (λi za F=>F=G2/\za=(Ug i sts B).map .int) ?_ ?_ ⟨rfl,rfl⟩
  rotate_left
  ·rintro i x za F K q ⟨rfl,rfl⟩ hK _;obtain⟨hi,rfl⟩:=Xf q;have hi:i<xs.length:=by lia
   have tm:Ug (i+1) sts B=Ug i sts B++[if (i:Int)∈sts then bt B i else 0]:=by unfold Ug;rw[Dp,Oc];rfl
   refine⟨trivial,?_⟩;simp! only[ub];refine⟨rfl,Zg _,?_⟩;rw[Xg];by_cases c:(i:Int)∈sts
   ·rw[if_pos c]at tm;rw[if_pos (decide_eq_true c),ix_t (Vg (by lia) (by lia))]
    exact hK _ _ ⟨rfl,by rw[tm,Oc];rfl⟩
   ·rw[if_neg c]at tm;rw[if_neg (by rw[decide_eq_false c];decide)]
    exact hK _ _ ⟨rfl,by rw[tm,Oc];rfl⟩
  rintro za F ⟨rfl,rfl⟩;rw[Zd];refine⟨trivial,λp3 G3 n3=>?_⟩;dsimp only;rw[it_l n3.at];refine(?_:He T.gs (db T (k+74)) Ux ⟨λ_ F=>Q .non F,Q,λx _ F=>X x F⟩ [la (Jb xs ss),la (.int P),la (ub B),la (ub sts),la (Nc (winO P ss)),la .non,la (ub (Ug xs.length sts B)),Aa,Aa,Aa,Aa] G3)
  have yb:Sa G G3:=s1.trans (s2.trans n3.sa);simp! only[Ux];refine IE (k:=k+71) (xs:=xs) so sl w8 λps G4 O hS hl s4=>?_;simp! only[tw];have xc:Pw xs.length ss P (winO P ss) sts B ps 0 (Ug xs.length sts B):=by
   refine⟨by simp[Ug],λb R=>?_,λx q=>?_,λx h0 h1 hd=>?_,λi s _ ⟨p,hp,_⟩=>by simp at hp⟩
   ·obtain⟨i,hi,rfl⟩:=Ea.mp R;have hi:=Ra.mp hi;split
    ·exact Bb _ (mw (by lia) (by lia))
    ·lia
   ·have:=sb x q;rw[NB this.1 this.2,if_pos q]
   ·rw[NB h0 h1,if_neg (hd x (.refl _)).2]
  refine Ze (λn ς F=>∃(bs:List Int) (o7 o8 o9 eg:Option U),ς=[la (Jb xs ss),la (.int P),la (ub B),la (ub sts),la (Nc (winO P ss)),la .non,la (ub bs),o7,o8,o9,eg]/\Sa G F/\Pw xs.length ss P (winO P ss) sts B ps n bs) ?_ ?_
   ⟨Ug xs.length sts B,_,_,_,_,rfl,yb.trans s4,xc⟩
  ·rintro ς G5 ⟨bs,o7,o8,o9,eg,rfl,s5,pt⟩;rw[Ua]at pt;refine⟨trivial,?_⟩;simp! only[BH];refine⟨by decide,q2 bs G5 s5 pt.l pt.b pt.ag pt.z λi hi=>?_⟩
   have es:ss[i]?=la ss[i]:=ac hi;obtain⟨p,hp,kb,_⟩:=O.ed _ _ (Ea.mpr ⟨ss[i],Mh hi,rfl⟩);exact pt.k i _ es ⟨p,by rw[Ke];exact hp,kb⟩
  ·rintro n u ς G5 K hu ⟨bs,o7,o8,o9,eg,rfl,s5,pt⟩ hk;rw[Lc]at hu;cases ep:ps[n]? with
   |none=>rw[ep]at hu;cases hu
   |some p=>
    rw[ep]at hu;cases hu;have pm:=Cd ep;have pl:=Zw O w8 pm;have ka:=O.bd _ pm;have xb:=O.as _ pm;have jc:Sb sts bs:=λx q=>by have:=sb x q;rw[pt.l];exact this
    refine⟨trivial,?_⟩;simp! only[];refine RE (k:=k+73) pl λpa G6 s6 g6=>?_;have after:∀(rts:List Int) (pf:Ca) (fs:List (Int×Ent)) (Y:Gp) (o8:Option U),rts≠[]->(∀x∈rts,x∈p)->(∀a∈rts,∀b∈rts,a≠b->a∈sts/\b∈sts)->(∀x∈sts,x∈p->x∈rts)->(∀x∈p,Hd ss sts x->x∈rts)->Sa G6 Y->G6 pf=Aa->Y pf=la (.dK (Wd fs))->Jf xs.length ss rts fs->oA ss rts (Hb fs)->He T.gs (db T (k+74)) Vx ⟨K,Q,λx _ F=>X x F⟩ [la (Jb xs ss),la (.int P),la (ub B),la (ub sts),la (Nc (winO P ss)),la .non,la (ub bs),la (ub p),la (.loc pf),o9,eg] Y:=λrts pf fs Y _ wb rp qc wc zc s7 nf gf J hC=>by
     obtain⟨w,hw⟩:∃w,w∈rts:=iJ _ wb;have va:∀x,x∈p↔x∈rts++Hb fs:=λx=>
      ⟨λq=>(O.co _ pm w (rp w hw) x q).closed (S:=λz=>z∈rts++Hb fs) (λa b ha e=>hC a b ha e) (Cf _ hw),λq=>by
       obtain⟨v,hv,c⟩:=J.all q;exact O.part pm (rp v hv) c⟩
     obtain⟨_,_,dj⟩:=Ec.mp J.nd;have jb:∀x,x∈Hb fs->x∈p:=λx q=>(va x).mpr (Ee _ q);have a1:∀x∈sts,x∉Hb fs:=λx q I=>dj x (wc x q (jb x I)) x I rfl;have a2:∀x,Hd ss sts x->x∉Hb fs:=λx q I=>dj x (zc x (jb x I) q) x I rfl;have kc:=Pg _ _ J.nd J.bd;simp only[Hb,Ae,Ua]at kc;simp! only[Vx];refine YS (k:=k+70) (xs:=xs) (sts:=sts) (ps:=p) J w8 sl gf hC (λx q=>(va x).mp q) qc λpr rs o G8 s8 nr gr zb c1 c2 rl=>?_;have vc:Sa G6 G8:=λb u R=>s8 _ _ (λz=>by rw[z,nf]at R;cases R) (s7 _ _ R)
     have S8:Sa G G8:=(s5.trans s6).trans vc;have sk:=jP (xs:=xs) (sts:=sts) (B:=bs) (rs:=rs) (pf:=pf) (pr:=pr) (o:=o) 70 J w8 jc sl p1 (show P<=600 by lia) c1
     refine sk k G8 _ _ (winO P ss) (λ_=>10) wl nv (λf hf v ev=>?_) ?_ zb gr (λc m G9 s9 hc=>?_) λxa G9 s9 ht=>?_
     ·obtain⟨s,hs,rfl⟩:=Ea.mp (Cd ev);have:=RL (P:=P) (s:=s);have e2:(2:Int) ^ 10=1024:=rfl;rw[e2];show endZ P s-s.lo<1024
      lia
     ·have wa:∀l:List (Int×Ent),(l.map λ_=>10).sum=10*l.length:=λl=>by
       induction l with
       |nil=>rfl
       |cons a l ih=>rw[Le,List.sum_cons,ih,Nh];lia
      have:1<=rts.length:=qJ hw;rw[wa];lia
     ·simp! only[];refine⟨trivial,?_⟩;rw[if_pos (by decide +kernel)]
      exact⟨by decide,q1 c m G9 (S8.trans s9) (hc.ag pt.ag)⟩
     ·simp! only[];refine⟨trivial,?_⟩;rw[if_neg (by decide +kernel)]
      simp! only[Nc];refine⟨by rw[Ua,ht.l,wl];exact Fb sl (by decide),?_⟩
      refine Yg (λu=>match u with|.tup [a,_]=>a|u=>u) trivial (λu hu K hK=>?_) ?_
      ·obtain⟨v,_,rfl⟩:=Ea.mp hu;show Yc _ (.tup [.int v.1,.int v.2]) _ _;simp! only[];exact⟨trivial,hK⟩
      intro ya Ga na;have ea:[]++(xa.map wu).map (λu=>match u with|.tup [a,_]=>a|u=>u)=(xa.map (·.1)).map U.int:=by
       rw[ah,Pe,Pe];rfl
      rw[ea]at na;have lu:Lu ss Ga (.loc ya) (xa.map (·.1)):=⟨by rw[Ua,ht.l,wl],.inl ⟨ya,rfl,na.at⟩⟩
      refine gR (k:=k+72) (xs:=xs) J w8 lu p1 (show P<=600 by lia) pt.l pt.b (na.sa _ _ (s9 _ _ zb)) λyc Gb qd l7 b7 e7 k7=>?_
      simp! only[];refine hk _ _ ⟨yc,_,_,_,_,rfl,S8.trans (s9.trans (na.sa.trans qd)),pt.step O ep va (λx q=>(sb x q).1) a1 a2 l7 b7 e7 λi s es ho=>?_⟩;refine ht.kw wl p1 (sts:=sts) (λx q=>e7 x (sb x q).1 (a1 x q)) (λf hf=>⟨?_,k7 f hf⟩) es (c2 i s es ho);obtain⟨j,hj,ej⟩:=bg hf;exact(J.en j f (by rw[ac hj,ej])).1
    rw[Js g6];by_cases cs:stay sts p=[]
    ·obtain⟨Z,rest,rfl⟩:∃x r,p=x::r:=by
      cases p with
      |nil=>exact absurd rfl (O.ne _ pm)
      |cons x r=>exact⟨x,r,rfl⟩
     rw[if_neg (by rw[cs];simp)]
     simp! only[ub];have ec:cut (U.int Z::rest.map U.int) Aa (la 1)=[.int Z]:=cm (U.int Z::rest.map U.int) 1;rw[ec];have vb:∀x∈sts,x∉Z::rest:=λx q I=>by
      have:=Ci.mpr ⟨I,q⟩;rw[cs]at this;cases this
     refine zx (k:=k+72) (r:=.tup [.int Z]) (rts:=[Z]) (xs:=xs) so sl (by simp) (λx q=>by rw[bc.mp q];exact ka _ (by simp)) w8 (λ_ _ _ h=>h) λpf fs Y s7 nf gf J hC=>?_
     exact after [Z] pf fs Y Aa (by simp) (λx q=>by rw[bc.mp q];simp) (λa ha b R z=>absurd ((bc.mp ha).trans (bc.mp R).symm) z) (λx q I=>absurd I (vb x q)) (λx q hd=>by
      have:=(hd Z (O.co _ pm x q Z (by simp))).1
      rcases Ic.mp q with z|z
      ·rw[z];simp
      ·have:=(Wa.mp xb).1 x z;lia) s7 nf gf J hC
    ·rw[if_pos (by simpa using cs)]
     refine zx (k:=k+72) (r:=.loc pa) (rts:=stay sts p) (xs:=xs) so sl ((xb.imp λ{a b} g=>by lia:p.Nodup).filter _) (λx q=>ka _ (Ci.mp q).1) w8 (λY s7 _ h=>by rw[it_l (s7 _ _ g6)];exact h) λpf fs Y s7 nf gf J hC=>?_
     exact after _ pf fs Y Aa cs (λx q=>(Ci.mp q).1) (λa ha b R _=>⟨(Ci.mp ha).2,(Ci.mp R).2⟩) (λx q I=>Ci.mpr ⟨I,q⟩) (λx q hd=>by
      obtain⟨y,I⟩:=iJ _ cs;exact absurd (Ci.mp I).2 (hd y (O.co _ pm x q y (Ci.mp I).1)).2) s7 nf gf J hC
 ·have ja:∀kk:Bool->Prop,kk ua->Wh (.int (i:Int)) .non kk:=λ_ h=>h;simp! only[Tx];refine ja _ ?_;rw[if_pos (by decide)]
  have il:i<ss.length:=by rw[<- wl];exact(Ba.mp ew).1
  have es:ss[i]?=la ss[i]:=ac il;refine⟨by decide,by decide,by decide,by decide,by decide,q1 (.tup [.str "ring",Mg [.inl (i,1),.inl (i,-1)]]) 1 G2 (s1.trans s2) (.ring (a:=(ss[i].o:Int)) ⟨⟨il,.inl rfl⟩,eS_1 es,⟨il,.inr rfl⟩,?_,eD_m es⟩ (by simp) (by simp) ?_)⟩
  ·show eS ss (i,-1)=eD ss (i,1);rw[eS_m es,eD_1 es]
  ·have a1:Xe (winO P ss) B [.inl (i,1),.inl (i,-1)]=w.1-w.2:=by
    have:Xe (winO P ss) B [.inl (i,1),.inl (i,-1)]=vg (winO P ss) (i,1)+(vg (winO P ss) (i,-1)+0):=by simp[Xe,hlo]
    rw[this];unfold vg;rw[if_pos rfl,if_neg (show ¬((-1:Int)=1) by decide),getW ew];lia
   have a2:Re (winO P ss) B [.inl (i,1),.inl (i,-1)]=w.2-w.1:=by
    have:Re (winO P ss) B [.inl (i,1),.inl (i,-1)]=wg (winO P ss) (i,1)+(wg (winO P ss) (i,-1)+0):=by simp[Re,jg]
    rw[this];unfold wg;rw[if_pos rfl,if_neg (show ¬((-1:Int)=1) by decide),getW ew];lia
   unfold ji;rw[a1,a2];have:=Int.ediv_mul_le (w.2-w.1) (show P≠0 by lia)
   lia
end

def MN     : kj [.int z,.ty "int"] G Q=Q (.bl ma) G:=rfl
def LN     : kj [.int z,.ty "bool"] G Q=Q (.bl ua) G:=rfl
def bw     : kj [.str x,.ty "str"] G Q=Q (.bl ma) G:=rfl
def oj     : kj [.tup us,.ty "tuple"] G Q=Q (.bl ma) G:=rfl
section
variable {k:Nat}{G:Gp}{Q:K1}{X:KX}{xs:List Str}{ss:List Qb}{L sts:List Int}{P:Int}{W:Nat}
def FN   (h:s.Ok W)(q:Q (.int (endZ P s)) G):db T (k+1) Jt [.int P,s.u] G Q X:=by
 refine⟨rfl,?_⟩;simp! only[ux,nc,Kb,Qb.u,ix_t (Td _ _),ix_t (Ad _ _ _)];unfold endZ at q;rcases h.w with z|z
 ·rw[z,if_neg (by decide +kernel)]
  rw[z,if_neg (show ¬(("apart" : Str) = "span") by decide +kernel)]at q
  exact q
 ·rw[z,if_pos (by decide +kernel)]
  rw[z,if_pos rfl]at q;exact q
def jm   (q:Q (.bl (decide (a<=z)&&decide (z<=b))) G):db T (k+1) Zk [.int z,.int a,.int b] G Q X:=by
 refine⟨rfl,?_⟩;simp! only[uE,nc,Kb,MN,LN];by_cases c:a<=z
 ·rw[decide_eq_true c]at q ⊢;exact q
 ·rw[decide_eq_false c]at q ⊢;exact q
def nR   (h:Be ss e)(q:Q (.tup [.int (eS ss e),.int (eD ss e)]) G):db T (k+2) Ht [Jb xs ss,ub sts,eu e] G Q X:=by
 obtain⟨s,y,z⟩:=h.get;have F:=h.1;refine⟨rfl,?_⟩;simp! only[wx,nc,Kb,eu,oj];refine⟨by decide,rfl,by decide,?_⟩
 simp! only[Qx,wF,Jb,ix_t (Td _ _),ix_t (Ad _ _ _),Ua];refine jm ?_;rw[decide_eq_true (show(0:Int)<=(e.1:Int) by lia),decide_eq_true (show(e.1:Int)<=(ss.length:Int)-1 by lia)]
 simp! only[];refine jm ?_;rw[decide_eq_true (show(-1:Int)<=e.2 by have:=h.2;lia),decide_eq_true (show e.2<=(1:Int) by have:=h.2;lia)]
 simp! only[xF,ix_t (Td _ _),ix_t (Ad _ _ _),ix_t (Bf y)];rw[if_neg (by decide),if_neg (by have:=h.2;simp;lia)]
 simp! only[Qb.u,ix_t (Ad _ _ _)];rcases z with⟨z,j,f⟩|⟨z,j,f⟩
 ·rw[show e.2=1 by rw[z],if_pos (by decide)]
  rw[j,f]at q;exact⟨by decide,q⟩
 ·rw[show e.2=-1 by rw[z],if_neg (by decide)]
  rw[j,f]at q;exact⟨by decide,q⟩
def oR  {h:Int×Int}(F:∀x∈sts,0<=x/\x<8)(ok:h.1∈sts/\h.2∈sts)(q:∀y,Sa G y->Q (.tup [.int h.1,.int h.2]) y):db T (k+2) Ht [Jb xs ss,ub sts,hU (.inr h)] G Q X:=by
 refine⟨rfl,?_⟩;simp! only[wx,nc,Kb,hU,oj];refine⟨by decide,rfl,by decide,?_⟩
 dsimp only;rw[if_neg (by decide)]
 simp! only[Qx,ix_t (Td _ _),bw];rw[if_pos (by decide)]
 simp! only[];rw[if_neg (by simp)]
 rw[show cut [U.str "home",.int h.1,.int h.2] (la 1) Aa=[.int h.1,.int h.2]from xt _ 1];refine⟨by show(2:Nat)<=Za;decide,?_⟩
 refine Yg (λ_=>.bl ma) trivial (λu hu K I=>?_) ?_
 ·obtain⟨z,j,rfl⟩:∃z,z∈sts/\u=.int z:=by
   simp only[Ic,Je,or_false]at hu;rcases hu with rfl|rfl
   ·exact⟨_,ok.1,rfl⟩
   ·exact⟨_,ok.2,rfl⟩
  have b:=F z j;simp! only[];refine jm ?_;rw[decide_eq_true b.1,decide_eq_true (show z<=7 by lia)]
  simp! only[ub];refine⟨rfl,Zg _,?_⟩;rw[Xg,decide_eq_true j];exact I
 intro O J f;refine in_l f.at rfl rfl ?_;rw[if_neg (by simp[nh])]
 simp! only[];exact q J f.sa
def bT   (j:∀x∈sts,0<=x/\x<8)(ok:Xh ss sts h)(q:∀f,Sa G f->Q (.tup [.int (hSs ss h),.int (hDd ss h)]) f):db T (k+2) Ht [Jb xs ss,ub sts,hU h] G Q X:=by
 cases h with
 |inl e=>exact nR ok (q G Sa.refl)
 |inr h=>exact oR j ok q
theorem HW.next  : ∀{r } {a b },HW ss sts r a b->∀{i } {e j },r[i]?=la e->r[i+1]?=la j->hDd ss e=hSs ss j
 |[],_,_,_,i,e,_,h,_=>by simp at h
 |[x],_,_,_,0,e,j,_,h=>by simp at h
 |x::y::r,_,_,⟨_,_,_,h3,_⟩,0,e,j,he,he'=>by
  simp at he he';rw[<- he,<- he',h3]
 |x::r,_,_,⟨_,_,h⟩,i+1,e,j,he,he'=>HW.next h (i:=i) (by simpa using he) (by simpa using he')
def HW.first    (h:HW ss sts r a b)(j:r[0]?=la e):hSs ss e=a:=by
 cases r with
 |nil=>simp at j
 |cons x r=>simp at j;rw[<- j];exact h.2.1
theorem HW.last  : ∀{r } {e } {a b },HW ss sts (r++[e]) a b->hDd ss e=b
 |[],_,_,_,⟨_,_,h3⟩=>h3
 |_::_,_,_,_,⟨_,_,h3⟩=>HW.last h3
def endU  (ss:List Qb)(h:Hn):U:=.tup [.int (hSs ss h),.int (hDd ss h)]
def fQ   {r:List Hn}{kk:Bool->Prop}(g:G p=la (.lst (r.map (endU ss))))(q:kk ua):ig .non (.loc p) G kk:=by
 unfold ig;dsimp only;rw[g];have y:∀r:List Hn,Hg G (r.map (endU ss)) (r.map λe=>Uy [.int (hSs ss e),.int (hDd ss e)]):=λr=>by
  induction r with
  |nil=>exact .nil
  |cons e r j=>exact .cons (.tup (.cons (.int _) (.cons (.int _) .nil))) j
 refine .inr ⟨.none,_,.non,y r,⟨rfl,by decide⟩,λe f=>?_,?_⟩
 ·obtain⟨v,_,rfl⟩:=Ea.mp f;exact⟨rfl,by show max 0 (max 0 0)+1<=100;decide⟩
 ·have:(r.map λe=>Uy [.int (hSs ss e),.int (hDd ss e)]).any (λe=>Ud e .none)=ua:=by
   rw[List.any_map,HI];intro e _ h;cases h
  rw[this];exact q
def Gw   {kk:Bool->Prop}(g:G p=la (.lst []))(g':G f=la (.lst []))(q:kk ma):cmpU .Eq (.loc p) (.loc f) G kk:=by
 refine(?_:eqU (.loc p) (.loc f) G kk);exact⟨.list [],.list [],.lst (by unfold Bc;rw[g]) .nil,.lst (by unfold Bc;rw[g']) .nil,⟨rfl,by decide⟩,⟨rfl,by decide⟩,q⟩
def pR    (hb:∀x∈sts,0<=x/\x<8)(O:HW ss sts r a a)(hn:r≠[])(rl:r.length<=30)(q:∀F,Sa G F->Q (.bl ma) F):db T (k+3) qG [Jb xs ss,ub sts,Mg r] G Q X:=by
 have r1:1<=r.length:=by cases r with|nil=>exact absurd rfl hn|cons _ _=>simp
 refine⟨rfl,?_⟩;simp! only[EF,nc,Kb,Mg,oj,Ua];rw[decide_eq_true (show(1:Int)<=(r.length:Int) by lia),decide_eq_true (show(r.length:Int)<=60 by lia)]
 simp! only[sH];refine⟨by rw[Ua];exact Fb rl (by decide),?_⟩
 refine Ce (λi y F=>Sa G F/\y=(r.take i).map (endU ss)) ?_ ?_ ⟨Sa.refl,rfl⟩
 rotate_left
 ·rintro i x y F K I ⟨s0,rfl⟩ hk _;rw[Lc]at I;cases R:r[i]? with
  |none=>rw[R]at I;cases I
  |some e=>
   rw[R]at I;cases I;refine⟨trivial,?_⟩;simp! only[];exact bT hb (O.all e (Cd R)) λG2 s2=>hk _ _ ⟨s0.trans s2,by rw[Ve,R,Oc];rfl⟩
 rintro y G0 ⟨s0,rfl⟩;rw[Ua,Ke];refine⟨trivial,λp1 G1 J=>?_⟩;simp! only[tH];refine fQ (ss:=ss) J.at ?_;rw[if_neg (by decide)]
 simp! only[uH,xi J.at,Ua];refine⟨by lia,by lia,by rw[Zd];exact Fb (show((r.length:Int)).toNat<=30 by lia) (by decide),?_⟩
 refine Ce (λ_ y F=>y=[]/\F=G1) ?_ ?_ ⟨rfl,rfl⟩
 ·rintro y F ⟨rfl,rfl⟩;refine⟨trivial,λp2 G2 n2=>⟨by decide,λp3 G3 Y=>?_⟩⟩
  exact Gw (Y.sa _ _ n2.at) Y.at (q G3 (s0.trans ((J.sa.trans n2.sa).trans Y.sa)))
 ·rintro i x y F K I ⟨rfl,rfl⟩ _ hkn;obtain⟨hi,rfl⟩:=Xf I;have hi:i<r.length:=by lia
  obtain⟨e,Z⟩:∃e,r[i]?=la e:=⟨_,ac hi⟩;obtain⟨e0,h0,hd⟩:∃e0,atI (r.map (endU ss)) ((i:Int)-1)=la (endU ss e0)/\hDd ss e0=hSs ss e:=by
   cases i with
   |zero=>
    rcases snoc r with z|⟨r',e0,z⟩
    ·exact absurd z hn
    ·refine⟨e0,?_,?_⟩
     ·refine(qj _ r _).trans ?_;rw[z];unfold atI;rw[show gg (r'++[e0]).length (((0:Nat):Int)-1)=la r'.length by unfold gg;simp;lia]
      simp
     ·rw[z]at O;rw[O.last];exact(O.first (by rw[<- z];exact Z)).symm
   |succ j=>
    have hj:j<r.length:=by lia
    refine⟨r[j],?_,O.next (ac hj) Z⟩
    rw[show((j+1:Nat):Int)-1=(j:Int) by lia]
    exact Bf (f:=endU ss) (ac hj)
  refine⟨trivial,?_⟩;simp! only[ix_l J.at h0];rw[show endU ss e0=.tup [.int (hSs ss e0),.int (hDd ss e0)]from rfl];simp! only[ix_t (Ad _ _ _),ix_l J.at (Bf (f:=endU ss) Z)];rw[show endU ss e=.tup [.int (hSs ss e),.int (hDd ss e)]from rfl];simp! only[ix_t (Td _ _),hd];exact hkn _ ⟨rfl,rfl⟩
end

noncomputable def topZ  (P:Int)(s:Qb):Int:=if s.w = "span" then s.hi else P-s.hi
noncomputable def gapZ  (P:Int)(bs:List Int)(s:Qb):Int:=(bs.getD s.t 0-bs.getD s.o 0-s.lo)%P
def Wl  (P:Int)(bs:List Int)(s:Qb):Bool:=decide (s.lo+gapZ P bs s<=topZ P s)
def sf  (P:Int)(ss:List Qb)(bs:List Int):Bool:=ss.all (Wl P bs)
noncomputable def nB  (fs:List Int)(P:Nat)(w:Nat):Nat:=if (w:Int)∈fs then 1 else P
def rowX  (fs:List Int)(P:Nat)(w:Nat)(r:List Int):List (List Int):=(Qc (nB fs P w)).map λ(j:Nat)=>r++[(j:Int)]
noncomputable def Af  (fs:List Int)(P:Nat):Nat->List (List Int)
 |0=>[[]]
 |w+1=>(Af fs P w).flatMap (rowX fs P w)
def cS     : (rowX fs P w r).length=nB fs P w:=by simp[rowX]
def Xr    (f:1<=P) w:nB fs P w<=P:=by unfold nB;split<;>lia
theorem Vs    : ∀l:List (List Int),(l.flatMap (rowX fs P w)).length=l.length*nB fs P w
 |[]=>by simp
 |r::l=>by rw[II,Ae,cS,Vs l,Nh,By];lia
theorem pD    (h0:(0:Int)∈fs)(f:1<=P):∀w,(Af fs P (w+1)).length<=P ^ w
 |0=>by show((Af fs P 0).flatMap (rowX fs P 0)).length<=_;rw[Vs];simp[Af,nB,h0]
 |w+1=>by
  show((Af fs P (w+1)).flatMap (rowX fs P (w+1))).length<=_;rw[Vs,xu];exact Il (pD h0 f w) (Xr f _)
def nD    (h0:(0:Int)∈fs)(f:1<=P)(h:P ^ (W-1)<=300)(j:w<=W):(Af fs P w).length<=300:=by
 cases w with
 |zero=>simp[Af]
 |succ w=>exact Fb (pD h0 f w) (Fb (Au (by lia) (by lia)) h)
theorem Wo    : ∀{w } {b },b∈Af fs P w↔b.length=w/\∀i,i<w->0<=b.getD i 0/\b.getD i 0<(nB fs P i:Int)
 |0,b=>by
  simp only[Af,bc];exact⟨λh=>⟨by simp[h],λi h=>absurd h (Ky i)⟩,λh=>uc.mp h.1⟩
 |w+1,b=>by
  show b∈(Af fs P w).flatMap _↔_;rw[QH];constructor
  ·rintro⟨r,I,F⟩;obtain⟨j,z,rfl⟩:=Ea.mp F;obtain⟨q,f⟩:=Wo.mp I;have z:=Ra.mp z;refine⟨by simp[q],λi h=>?_⟩
   by_cases e:i=w
   ·subst e;rw[show(r++[(j:Int)]).getD i 0=j by simp[Xc,q]]
    lia
   ·rw[show(r++[(j:Int)]).getD i 0=r.getD i 0 by simp[Xc,Lh (show i<r.length by lia)]]
    exact f i (by lia)
  ·rintro⟨q,f⟩;refine⟨b.take w,Wo.mpr ⟨by simp;lia,λi h=>?_⟩,Ea.mpr ⟨(b.getD w 0).toNat,Ra.mpr ?_,?_⟩⟩
   ·rw[show(b.take w).getD i 0=b.getD i 0 by simp[Xc,Su,h]]
    exact f i (by lia)
   ·have:=f w (by lia);lia
   ·have J:=f w (by lia)
    have e:((b.getD w 0).toNat:Int)=b.getD w 0:=by lia
    rw[e];have y:w<b.length:=by lia
    rw[show b.getD w 0=b[w] by simp[Xc,y]]
    have:=dJ y;rw[this,Gu (by lia)]
def Xv     (h:Vd W es ks)(q:0<W):(0:Int)∈ks.map (·.headD 0):=by
 obtain⟨p,f,h0⟩:=h.al 0 (by lia) (by lia)
 refine Ea.mpr ⟨p,f,?_⟩;have j:=h.as p f;have bd:=h.bd p f;cases p with
 |nil=>cases h0
 |cons a l=>
  have ba:=bd a cf;rcases Ic.mp h0 with z|z
  ·exact z.symm
  ·have:=(Wa.mp j).1 0 z;lia

def JC  {bs:List Int}(h:n<bs.length):atI (bs.map U.int) (n:Int)=la (.int (bs.getD n 0)):=by
 have:bs[n]?=la (bs.getD n 0):=by simp[Xc,h]
 exact Bf this

def tD  {ss: List Qb}(h:ss[i]?=la s):(ss.take (i+1)).all f=((ss.take i).all f&&f s):=by
 rw[Ve,h,List.all_append];simp
def eP  (q:Q (.int (if s.lo+P-1<topZ P s then s.lo+P-1 else topZ P s)) G):db T (k+1) Jt [.int P,s.u] G Q X:=by
 refine⟨rfl,?_⟩;simp! only[ux,nc,Kb,Qb.u,ix_t (Td _ _),ix_t (lL _ _ _ _ _),ix_t (show atI [U.str s.w,.int s.o,.int s.t,.int s.lo,.int s.hi] 4=la (.int s.hi)from tf (j:=4) rfl)];unfold topZ at q;by_cases c:s.w = "span"
 ·rw[if_pos (by simpa using c)]
  rw[if_pos c]at q;exact q
 ·rw[if_neg (by simpa using c)]
  rw[if_neg c]at q;exact q
def lR  (hP:0<P)(bl:bs.length=W)(Y:∀s∈ss,s.Ok W)(sl:ss.length<=24)(q:∀p (zs:List Int) f ,Sa G f->f p=la (.lst (zs.map .int))->(zs.map U.int).isEmpty=sf P ss bs->Q (.loc p) f):db T (k+2) Yo [Jb xs ss,.int P,ub bs] G Q X:=by
 refine⟨rfl,?_⟩;simp! only[dF,nc,Kb];refine⟨by decide,λp G1 y=>?_⟩
 simp! only[vG,Jb,ix_t (Ad _ _ _),Ua];refine⟨by lia,by lia,?_⟩
 refine Ze (λi F f=>∃(zs:List Int) (o4 o5 o6 o7 o8 o9 eg:Option U),F=[la (Jb xs ss),la (.int P),la (ub bs),la (.loc p),o4,o5,o6,o7,o8,o9,eg]/\Sa G f/\f p=la (.lst (zs.map .int))/\zs.length<=i/\zs.isEmpty=(ss.take i).all (Wl P bs)) ?_ ?_ ⟨[],_,_,_,_,_,_,_,rfl,y.sa,y.at,Db _,rfl⟩
 ·rintro F O ⟨zs,o4,o5,o6,o7,o8,o9,eg,rfl,s2,g2,_,he⟩;rw[Zd,Ke]at he;refine⟨trivial,?_⟩;simp! only[];exact q p zs _ s2 g2 (by rw[zz];exact he)
 ·rintro i x F O K R ⟨zs,o4,o5,o6,o7,o8,o9,eg,rfl,s2,g2,hl,he⟩ hk;obtain⟨Z,rfl⟩:=Xf R;refine⟨trivial,?_⟩;obtain⟨s,j⟩:∃s,ss[i]?=la s:=⟨_,ac Z⟩;have I:=Y s (Cd j);have o:=I.o;have t:=I.t;simp! only[Jb,ix_t (Ad _ _ _),ix_t (Bf j)];rw[show s.u=.tup [.str s.w,.int s.o,.int s.t,.int s.lo,.int s.hi]from rfl];simp! only[ub,ix_t (JC (show s.o<bs.length by omega)),ix_t (JC (show s.t<bs.length by omega)),Jb,ix_t (Ad _ _ _),ix_t (Bf j)]
  refine⟨trivial,by lia,eP ?_⟩
  simp! only[];have g0:0<=gapZ P bs s:=uh _ (by lia)
  have g1:gapZ P bs s<P:=rh _ (by lia)
  rw[show(bs.getD s.t 0-bs.getD s.o 0-s.lo)%P=gapZ P bs s from rfl];by_cases c:(if s.lo+P-1<topZ P s then s.lo+P-1 else topZ P s)<s.lo+gapZ P bs s
  ·rw[if_pos (by simpa using c)]
   simp! only[Of g2];rw[xg g2];refine⟨by rw[Ua];exact Eg (show zs.length<=24 by lia) (by decide),λG3 J=>?_⟩
   refine hk _ _ ⟨zs++[(i:Int)],_,_,_,_,_,_,_,rfl,?_,by rw[Oc];exact J.at,by simp;lia,?_⟩
   ·exact λb u e=>J.sm _ _ (λz=>by rw[z,y.no]at e;cases e) (s2 _ _ e)
   ·rw[tD j];unfold Wl;rw[decide_eq_false (by split at c<;>lia),Bool.and_false]
    simp
  ·rw[if_neg (by simpa using c)]
   refine hk _ _ ⟨zs,_,_,_,_,_,_,_,rfl,s2,g2,by lia,?_⟩
   rw[tD j,he];unfold Wl;rw[decide_eq_true (by split at c<;>lia),Bool.and_true]
def qx  {kk:Bool->Gp->Prop}(Y:0<P)(bl:bs.length=W)(R:∀s∈ss,s.Ok W)(Z:ss.length<=24)(q:∀I,Sa G I->kk (sf P ss bs) I):db T (k+2) Yo [Jb xs ss,.int P,ub bs] G (λx F=>0<=Za/\newO F (.lst []) λy f=>cmpU .Eq x y f λc=>kk c f) X:=by
 refine lR Y bl R Z λp zs F s1 J O=>⟨by decide,λp2 f j=>?_⟩
 simp! only[];refine uB (n:=0) (j.sa _ _ J) j.at (λu hu=>?_) (by decide) ?_
 ·obtain⟨z,_,rfl⟩:=Ea.mp hu;exact Hc.int z
 ·rw[O];exact q _ (s1.trans j.sa)


def IB    (f:ss[i]?=la s)(I:1<=P):Kw ss P (winO P ss) b i↔s.lo+(bt b s.t-bt b s.o-s.lo)%P<=endZ P s:=by
 have j:(winO P ss)[i]?=la (s.lo,endZ P s):=by unfold winO;rw[Lc,f];rfl
 have y:=vz (bt b s.t-bt b s.o-s.lo) P;have z:=uh (bt b s.t-bt b s.o-s.lo) (show P≠0 by lia)
 unfold Kw;rw[getW j,eS_1 f,eD_1 f];dsimp only;constructor
 ·rintro⟨l,O,F,d⟩;have e:(l-s.lo)%P=(bt b s.t-bt b s.o-s.lo)%P:=by
   refine Int.emod_eq_emod_iff_emod_sub_eq_zero.mpr (Int.emod_eq_zero_of_dvd ?_);rw[show l-s.lo-(bt b s.t-bt b s.o-s.lo)=bt b s.o+l-bt b s.t by lia]
   exact d
  have q:=vz (l-s.lo) P;have J:=Int.mul_nonneg (show 0<=P by lia) (Int.ediv_nonneg (show 0<=l-s.lo by lia) (show 0<=P by lia))
  rw[e]at q
  lia
 ·intro h;refine⟨_,by lia,h,-((bt b s.t-bt b s.o-s.lo)/P),?_⟩
  rw[Int.mul_neg];lia
def WC  (q:1<=P):sf P ss b=ma↔∀i,i<ss.length->Kw ss P (winO P ss) b i:=by
 have one:∀s:Qb,Wl P b s=ma↔s.lo+(bt b s.t-bt b s.o-s.lo)%P<=endZ P s:=λs=>by
  have z:=rh (b.getD s.t 0-b.getD s.o 0-s.lo) (show 0<P by lia)
  unfold Wl gapZ topZ endZ bt;rw[decide_eq_true_eq,Hl,Hl];by_cases c:s.w = "span"
  ·rw[if_pos c];constructor
   ·intro h;split<;>lia
   ·intro h;split at h<;>lia
  ·rw[if_neg c];constructor
   ·intro h;split<;>lia
   ·intro h;split at h<;>lia
 unfold sf;rw[jl];constructor
 ·intro h i f;have j:ss[i]?=la ss[i]:=ac f;exact(IB j q).mpr ((one _).mp (h _ (Mh f)))
 ·intro h s y;obtain⟨i,f,e⟩:=bg y;have j:ss[i]?=la s:=by rw[ac f,e]
  exact(one s).mpr ((IB j q).mp (h i f))
def gP  (I:∀s∈ss,s.Ok W)(O:ss.length<=24)(q:∀j,Sa G j->Q (Nc (winO P ss)) j):db T (k+2) rG [Jb xs ss,.int P] G Q X:=by
 refine⟨rfl,?_⟩;simp! only[FF,nc,Kb,Jb,ix_t (Ad _ _ _)];refine⟨by rw[Ua];exact Fb O (by decide),?_⟩
 refine Ce (λi f j=>j=G/\f=(winO P (ss.take i)).map wu) ?_ ?_ ⟨rfl,rfl⟩
 ·rintro f j ⟨rfl,rfl⟩;rw[Ua,Ke];refine⟨trivial,λp J F=>?_⟩;dsimp only;rw[it_l F.at];exact q J F.sa
 ·rintro i x f j K y ⟨rfl,rfl⟩ hk _;rw[Lc]at y;cases z:ss[i]? with
  |none=>rw[z]at y;cases y
  |some s=>
   rw[z]at y;cases y;refine⟨trivial,?_⟩;simp! only[];show af (.tup [.str s.w,.int s.o,.int s.t,.int s.lo,.int s.hi]) _ _ _;rw[ix_t (show atI [U.str s.w,.int s.o,.int s.t,.int s.lo,.int s.hi] 3=la (.int s.lo)from rfl)];refine FN (k:=k) (I s (Cd z)) ⟨by decide,hk _ _ ⟨rfl,?_⟩⟩
   unfold winO;rw[Ve,z,Oc,Oc];rfl
def qR   {sts B:List Int}(wl:ws.length=ss.length)(hb:Sb sts B)(hr:∀e∈r,Xh ss sts e)(q:Q (.tup [.int (Xe ws B r),.int (Re ws B r)]) G):db T (k+1) OE [ub B,Nc ws,Mg r] G Q X:=by
 refine⟨rfl,?_⟩;simp! only[qF,nc,Kb,yF,Mg];refine Ze (λi O Y=>∃(o5:Option U),O=[la (ub B),la (Nc ws),la (.tup (r.map hU)),la (.int (Xe ws B (r.take i))),la (.int (Re ws B (r.take i))),o5]/\Y=G) ?_ ?_ ⟨_,rfl,rfl⟩
 ·rintro O Y ⟨o5,rfl,rfl⟩;rw[Ua,Ke];refine⟨trivial,?_⟩;simp! only[zF];exact⟨by decide,q⟩
 ·rintro i x O Y K f ⟨o5,rfl,rfl⟩ hk;rw[Lc]at f;cases j:r[i]? with
  |none=>rw[j]at f;cases f
  |some h=>
   rw[j]at f;cases f;have ok:=hr h (Cd j);have J:Xe ws B (r.take (i+1))=Xe ws B (r.take i)+hlo ws B h:=by unfold Xe;rw[Ve,j];simp
   have R:Re ws B (r.take (i+1))=Re ws B (r.take i)+jg ws B h:=by unfold Re;rw[Ve,j];simp
   refine⟨trivial,?_⟩;cases h with
   |inr h=>
    have I:=hb _ ok.1;have F:=hb _ ok.2;have Z:atI [U.str "home",.int h.1,.int h.2] 2=la (.int h.2):=rfl;simp! only[hU];rw[if_pos (by decide)]
    simp! only[ub];rw[ix_t Z,ix_t (Vg F.1 F.2)];simp! only[ix_t (Ad _ _ _),ix_t (Vg I.1 I.2)];rw[ix_t Z,ix_t (Vg F.1 F.2)];simp! only[ix_t (Ad _ _ _),ix_t (Vg I.1 I.2)];refine hk _ _ ⟨la (hU (.inr h)),?_,rfl⟩;rw[J,R];show _=[la (ub B),la (Nc ws),la (U.tup (r.map hU)),la (.int (Xe ws B (r.take i)+(bt B h.2-bt B h.1))),la (.int (Re ws B (r.take i)+(bt B h.2-bt B h.1))),_];rw[show Xe ws B (r.take i)+bt B h.2-bt B h.1=Xe ws B (r.take i)+(bt B h.2-bt B h.1) by lia,show Re ws B (r.take i)+bt B h.2-bt B h.1=Re ws B (r.take i)+(bt B h.2-bt B h.1) by lia]
    rfl
   |inl e=>
    have ok:Be ss e:=ok;have il:e.1<ws.length:=by rw[wl];exact ok.1
    have y:ws[e.1]?=la ws[e.1]:=ac il;generalize ws[e.1]=w at y;have c1:hlo ws B (.inl e)=vg ws e:=rfl;have c2:jg ws B (.inl e)=wg ws e:=rfl;simp! only[hU,eu];rw[if_neg (by decide)]
    simp! only[ix_t (Td _ _),ix_t (Ad _ _ _)];rcases ok.2 with z|z
    ·rw[z,if_pos (by decide)]
     simp! only[ix_t (Td _ _),Nc,ix_t (Bf y),wu,ix_t (Ad _ _ _)];refine hk _ _ ⟨la (eu e),?_,rfl⟩;rw[J,R,c1,c2];unfold vg wg;rw[if_pos z,if_pos z,getW y,eu,z];rfl
    ·rw[z,if_neg (by decide)]
     simp! only[ix_t (Td _ _),Nc,ix_t (Bf y),wu,ix_t (Ad _ _ _)];refine hk _ _ ⟨la (eu e),?_,rfl⟩;rw[J,R,c1,c2];unfold vg wg;rw[if_neg (by lia),if_neg (by lia),getW y,eu,z,GI,GI];rfl
def mR   (j:1<=P)(f:P<=600)(q:Q (.bl (decide (hi/P*P<lo))) G):db T (k+1) JE [.int P,.tup [.int lo,.int hi]] G Q X:=by
 refine⟨rfl,?_⟩;simp! only[lF,nc,Kb];exact⟨trivial,by lia,by lia,.inr (by constructor<;>lia),q⟩


def iO   ws:Hc 2 (Nc ws):=Hc.tup λu hu=>by
 obtain⟨w,_,rfl⟩:=Ea.mp hu;exact Hc.tup λv f=>by
  simp only[Ic,Je,or_false]at f;rcases f with rfl|rfl<;>exact Hc.int _
def Qs     {kk:Bool->Prop}(h:∀u∈us,Hc n u)(z:n<=90)(g:G p=la (.lst us))(g':G j=la (.lst []))(q:kk us.isEmpty):eqU (.loc p) (.loc j) G kk:=by
 obtain⟨y,f,F⟩:=smls h;refine⟨.list (Vf us),.list [],.lst (by unfold Bc;rw[g]) (Us y),.lst (by unfold Bc;rw[g']) .nil,⟨f,by show Yh (Vf us)+1<=100;lia⟩,⟨rfl,by decide⟩,?_⟩
 have:Ud (.list (Vf us)) (.list [])=us.isEmpty:=by
  cases us with
  |nil=>rfl
  |cons u r=>
   show Dj (pd u::Vf r) []=ua;unfold Dj;rfl
 rw[this];exact q
def ZB      (g:G p=la (.lst (us++[u])))(q:∀f,qg G p (.lst us) f->Q u f):ze .pop (.loc p) [] G Q:=by
 dsimp only[ze];unfold popU;dsimp only;rw[g];dsimp only;have y:(us++[u])[(us++[u]).length-1]?=la u:=by simp
 have j:(us++[u]).dropLast=us:=by simp
 rw[y,j];exact λf h=>q f h
def RC  {w:Str}{kk:Bool->Prop}(h:(w = "ring" /\ n=2)\/(w = "split" /\ n=5))(q:kk ma):ig (.tup [.str w,.int n]) (.tup [.tup [.str "ring",.int 2],.tup [.str "split",.int 5]]) G kk:=by
 have f:∀(x:Str) (i:Int),DU G (.tup [.str x,.int i]) (.tuple [.str x,.int i]):=λx i=>.tup (.cons (.str x) (.cons (.int i) .nil));have sm:∀(x:Str) (i:Int),Hc 1 (.tup [.str x,.int i])->Small (.tuple [.str x,.int i]):=λx i h=>h.small (by decide)
 have s1:Hc 1 (.tup [.str "ring",.int 2]):=Hc.tup λv j=>by
  simp only[Ic,Je,or_false]at j;rcases j with rfl|rfl
  ·exact Hc.str (by decide +kernel)
  ·exact Hc.int _
 have s2:Hc 1 (.tup [.str "split",.int 5]):=Hc.tup λv j=>by
  simp only[Ic,Je,or_false]at j;rcases j with rfl|rfl
  ·exact Hc.str (by decide +kernel)
  ·exact Hc.int _
 have all:∀e∈[Uy [.str "ring",.int 2],.tuple [.str "split",.int 5]],Small e:=λe y=>by
  simp only[Ic,Je,or_false]at y;rcases y with rfl|rfl
  ·exact sm _ _ s1
  ·exact sm _ _ s2
 rcases h with⟨rfl,rfl⟩|⟨rfl,rfl⟩
 ·refine⟨_,_,f _ _,.cons (f _ _) (.cons (f _ _) .nil),sm _ _ s1,all,?_⟩;rw[oh,Vz _ (sm _ _ s1).1,az];exact q
 ·refine⟨_,_,f _ _,.cons (f _ _) (.cons (f _ _) .nil),sm _ _ s2,all,?_⟩;rw[oh,oh,Vz _ (sm _ _ s2).1,az,Bool.or_true];exact q
abbrev jA:=U×Wn×Nat
def vn  (x:jA):U:=.tup [x.1,Nc x.2.1]
def StOk  (ss:List Qb)(P:Int)(sts B:List Int)(i:Nat)(x:jA):Prop:=x.2.1.length=ss.length/\∃n,n+i<=71/\Cs ss P sts B n x.2.2 x.2.1 x.1
def RO  {sts: List Int}(h:StOk ss P sts B i x):Hc 75 (vn x):=Hc.tup (n:=74) λu hu=>by
 obtain⟨_,n,j,f⟩:=h;simp only[Ic,Je,or_false]at hu;rcases hu with rfl|rfl
 ·exact f.sml.mono (by lia)
 ·exact(iO _).mono (by decide)
def RB  {ws: Wn}(hs:s<ws.length):cut (ws.map wu) Aa (la (s:Int))++[wu w]++cut (ws.map wu) (la ((s:Int)+1)) Aa=(ws.set s w).map wu:=by
 have j:cut (ws.map wu) Aa (la (s:Int))=(ws.take s).map wu:=by rw[cm,ju]
 have f:cut (ws.map wu) (la ((s:Int)+1)) Aa=(ws.drop (s+1)).map wu:=by
  have:=xt (ws.map wu) (s+1);rw[Sy];exact this
 rw[j,f,tJ,if_pos hs];simp
def EA   {us:List U}:(cut us lo hi).length<=us.length:=by
 unfold cut;rw[Zh,Qu];lia
def vR  {sts: List Int}(hb:Sb sts B)(h8:∀x∈sts,0<=x/\x<8)(so:∀s∈ss,s.Ok W)(sl:ss.length<=24)(p1:1<=P)(p2:P<=600)(hc:Cs ss P sts B 70 m (winO P ss) c)(q:∀Z,Sa G Z->Q .non Z):db T (k+4) FE [Jb xs ss,.int P,ub B,ub sts,c] G Q X:=by
 refine⟨rfl,?_⟩;simp! only[vE,nc,Kb];refine gP (k:=k+1) so sl λG1 s1=>⟨by decide,by decide,λpl G2 n2=>?_⟩
 simp! only[EG];rw[S_wh];have ya:G pl=Aa:=Bi s1 n2.no;have O:∀{Ga Gb:Gp} {u:MO},Sa G Ga->qg Ga pl u Gb->Sa G Gb:=λ{Ga Gb u} s w b z e=>w.sm _ _ (λy=>by rw[y,ya]at e;cases e) (s b z e)
 refine⟨λn ς Z=>∃(st:List jA) (i:Int) (o7 o8 o9 eg Bh o12:Option U),ς=[la (Jb xs ss),la (.int P),la (ub B),la (ub sts),la c,la (.loc pl),la (.int i),o7,o8,o9,eg,Bh,o12]/\n=(st.map (·.2.2)).sum/\Sa G Z/\Z pl=la (.lst (st.map vn))/\∀j x,st[j]?=la x->StOk ss P sts B j x,
  ⟨_,[(c,winO P ss,m)],0,_,_,_,_,_,_,rfl,rfl,s1.trans n2.sa,n2.at,λj x R=>?_⟩,?_⟩
 ·match j,R with
  |0,R=>cases R;exact⟨Ua _,70,by decide,hc⟩
  |j+1,R=>simp at R
 rintro n ς G3 ⟨st,i,o7,o8,o9,eg,Bh,o12,rfl,rfl,s3,g3,hst⟩;simp! only[];refine⟨by decide,λpn G4 n4=>?_⟩
 have g4:=n4.sa _ _ g3;have s4:=s3.trans n4.sa;simp! only[];refine Qs (n:=75) (λu hu=>?_) (by decide) g4 n4.at ?_
 ·obtain⟨x,R,rfl⟩:=Ea.mp hu;obtain⟨j,hj,F⟩:=bg R;exact RO (hst j x (by rw[ac hj,F]))
 rcases snoc st with rfl|⟨st',x,rfl⟩
 ·rw[if_neg (by simp)]
  simp! only[FG];exact q G4 s4
 ·rw[if_pos (by simp)]
  rw[Oc]at g4;simp! only[nH,mt_pop g4];refine ZB g4 λG5 p5=>?_;have g5:=p5.at
  have s5:=O s4 p5;obtain⟨Y,n',va,za⟩:=hst st'.length x (by simp)
  have J:∀j y,st'[j]?=la y->StOk ss P sts B j y:=λj y F=>hst j y (by rw[Lh (Ba.mp F).1];exact F)
  obtain⟨xc,f,xm⟩:=x;dsimp only at Y za;have xa:((st'++[(xc,f,xm)]).map (·.2.2)).sum=(st'.map (·.2.2)).sum+xm:=by simp
  rw[xa];show Yc _ (.tup [xc,Nc f]) _ _;cases za with
  |@ring _ _ r a hw hn rl ja=>
   simp! only[];refine⟨trivial,?_⟩;simp! only[fy,oj,ix_t (Td _ _),bw];rw[if_neg (by decide),if_neg (by decide),if_neg (by decide)]
   simp! only[gy,ix_t (Td _ _)];refine⟨by decide,by decide,by decide,by decide,RC (.inl ⟨rfl,rfl⟩) ?_⟩
   rw[if_neg (by decide)]
   simp! only[iy,ix_t (Td _ _)];rw[if_pos (by decide +kernel)]
   simp! only[];rw[ix_t (Ad _ _ _)];refine pR (k:=k) (xs:=xs) h8 hw hn rl λG6 s6=>?_;simp! only[];rw[ix_t (Ad _ _ _)];refine qR (k:=k+2) (ss:=ss) Y hb hw.all ?_;refine mR (k:=k+2) p1 p2 ?_;rw[decide_eq_true (show Re f B r/P*P<Xe f B r from ja)];simp! only[jy];exact⟨(st'.map (·.2.2)).sum,by lia,st',_,_,_,_,_,_,_,rfl,rfl,s5.trans s6,s6 _ _ g5,J⟩
  |@split n1 m1 m2 _ s l h I c1 c2 ew l1 l2 k1 k2=>
   have il:=(Ba.mp ew).1;simp! only[];refine⟨trivial,?_⟩;simp! only[fy,oj,ix_t (Td _ _),bw];rw[if_neg (by decide),if_neg (by decide),if_neg (by decide)]
   simp! only[gy,ix_t (Td _ _)];refine⟨by decide,by decide,by decide,by decide,RC (.inr ⟨rfl,rfl⟩) ?_⟩
   rw[if_neg (by decide)]
   simp! only[iy,ix_t (Td _ _)];rw[if_neg (by decide +kernel)]
   simp! only[];have i3:atI [U.str "split",.int s,.int I,c1,c2] 3=la c1:=rfl;have i4:atI [U.str "split",.int s,.int I,c1,c2] 4=la c2:=rfl;rw[ix_t (Ad _ _ _),ix_t (CA _ _ _ _)];refine⟨trivial,?_⟩;simp! only[Jb,ix_t (Ad _ _ _),Ua];refine jm (k:=k+2) ?_;rw[decide_eq_true (show(0:Int)<=(s:Int) by lia),decide_eq_true (show(s:Int)<=(ss.length:Int)-1 by lia)]
   simp! only[Nc,ix_t (Bf ew)];show Yc _ (.tup [.int l,.int h]) _ _;simp! only[];refine⟨trivial,?_⟩;refine jm (k:=k+2) ?_;rw[decide_eq_true l1,decide_eq_true (show I<=h-1 by lia)]
   simp! only[Of g5];rw[ix_t i4,if_neg (by decide)]
   have wl:(f.map wu).length<=24:=by rw[Ua,Y];exact sl
   have ka:=EA (us:=f.map wu) (lo:=Aa) (hi:=la (s:Int));have ha:=EA (us:=f.map wu) (lo:=la ((s:Int)+1)) (hi:=Aa);have b1:(cut (f.map wu) Aa (la (s:Int))).length+(0+1)<=Za:=Fb (show _<=30 by lia) (by decide)
   have b2:∀u:U,(cut (f.map wu) Aa (la (s:Int))++[u]).length+(cut (f.map wu) (la ((s:Int)+1)) Aa).length<=Za:=λu=>Fb (show _<=60 by rw[Ae,aA];lia) (by decide)
   refine⟨by decide,by decide,b1,b2 _,by decide,?_⟩
   rw[show(U.tup [.int (I+1),.int h])=wu (I+1,h)from rfl,RB il,xg g5];refine⟨by rw[Ua];exact Eg (show st'.length<=71 by lia) (by decide),λG6 p6=>?_⟩
   have g6:=p6.at
   dsimp only;rw[Of g6];dsimp only;rw[ix_t i3];refine⟨by decide,by decide,b1,b2 _,by decide,?_⟩
   rw[show(U.tup [.int l,.int I])=wu (l,I)from rfl,RB il,xg g6];refine⟨by rw[Ae,Ua];exact Eg (show _<=72 by simp;lia) (by decide),λG7 p7=>?_⟩
   simp! only[jy];have wa:n1+1+st'.length<=71:=va;have e7:(st'.map vn++[U.tup [c2,.tup ((f.set s (I+1,h)).map wu)]])++[U.tup [c1,.tup ((f.set s (l,I)).map wu)]]=(st'++[(c2,f.set s (I+1,h),m2),(c1,f.set s (l,I),m1)]).map vn:=by simp[vn,Nc]
   have g7:=p7.at
   rw[e7]at g7;refine⟨(st'.map (·.2.2)).sum+(m2+m1),by lia,st'++[(c2,f.set s (I+1,h),m2),(c1,f.set s (l,I),m1)],_,_,_,_,_,_,_,rfl,by simp,O (O s5 p6) p7,g7,λj y F=>?_⟩
   by_cases hj:j<st'.length
   ·rw[Lh hj]at F;exact J j y F
   ·rw[bq (by lia)]at F
    obtain⟨d,hd⟩:∃d,j=st'.length+d:=⟨j-st'.length,by lia⟩
    rw[hd,rJ]at F
    match d,F with
    |0,F=>
     cases F;exact⟨by show(f.set s (I+1,h)).length=_;rw[Hi];exact Y,n1,by lia,k2⟩
    |1,F=>
     cases F;exact⟨by show(f.set s (l,I)).length=_;rw[Hi];exact Y,n1,by lia,k1⟩
    |d+2,F=>simp at F


abbrev iA:=U×Nat×Nat
noncomputable def mm  (x:iA):U:=.tup [x.1,.int x.2.1]
def DpOk  (ss:List Qb)(P:Int)(sts B:List Int)(i:Nat)(x:iA):Prop:=∃n f,n+i<=71/\n+x.2.1<=71/\Cs ss P sts B n x.2.2 f x.1
def EK  : (("split" : Str) = "stay")=False:=eq_false (by decide +kernel)
def QA  : (("split" : Str) = "ring")=False/\(("stay" : Str) = "ring")=False:=⟨eq_false (by decide +kernel),eq_false (by decide +kernel)⟩
noncomputable abbrev sk  (w:Str):Ub:=Eb w
def aj  (a b:U):List (Ub×U):=[(sk "split",a),(sk "stay",b)]
def KH   : Ai [(sk "split",a),(sk "stay",b)]=aj a b:=by
 unfold Ai aj;simp[dPut,EK]
def RA     (g:G p=la (.dK (aj a b)))(q:Q ((dGet (aj a b) (sk w)).getD d) G):ze .get (.loc p) [.str w,d] G Q:=by
 refine(?_:getU (.loc p) [.str w,d] G Q);unfold getU;dsimp only;rw[g];exact q
def OA    (g:G p=la (.dK kvs)):Se .get (.loc p) G=la ("dict", "dict.get"):=by unfold Se;dsimp only;rw[g]
def zL   : dGet (aj a b) (sk "split")=la a:=by simp[dGet,aj]
def yL   : dGet (aj a b) (sk "ring")=Aa:=by simp[dGet,aj,QA.1,QA.2]
def jR  {sts: List Int}(hc:Cs ss P sts B 70 m ws c)(q:∀z G' ,z<=100->Sa G G'->Q (.int z) G'):db T (k+1) AE [c] G Q X:=by
 refine⟨rfl,?_⟩;simp! only[cF,nc,Kb];refine⟨by decide,by decide,λpl G2 n2=>?_⟩
 simp! only[tG];rw[S_wh];have J:∀{Ga Gb:Gp} {u:MO},Sa G Ga->qg Ga pl u Gb->Sa G Gb:=λ{Ga Gb u} s w b z e=>w.sm _ _ (λy=>by rw[y,n2.no]at e;cases e) (s b z e)
 refine⟨λn ς G'=>∃(st:List iA) (i:Int) (o3 o4 o5:Option U),ς=[la c,la (.loc pl),la (.int i),o3,o4,o5]/\n=(st.map (·.2.2)).sum/\i<=100/\Sa G G'/\G' pl=la (.lst (st.map mm))/\∀j x,st[j]?=la x->DpOk ss P sts B j x,
  ⟨_,[(c,1,m)],0,_,_,_,rfl,rfl,by decide,n2.sa,n2.at,λj x Y=>?_⟩,?_⟩
 ·match j,Y with
  |0,Y=>cases Y;exact⟨70,ws,by decide,by show 70+1<=71;decide,hc⟩
  |j+1,Y=>simp at Y
 rintro n ς G3 ⟨st,i,o3,o4,o5,rfl,rfl,i1,s3,g3,hst⟩;simp! only[];refine⟨by decide,λpn G4 n4=>?_⟩
 have g4:=n4.sa _ _ g3;have s4:=s3.trans n4.sa;simp! only[];refine Qs (n:=75) (λu hu=>?_) (by decide) g4 n4.at ?_
 ·obtain⟨x,Y,rfl⟩:=Ea.mp hu;obtain⟨j,hj,f⟩:=bg Y;obtain⟨n',ja,h1,h2,h3⟩:=hst j x (by rw[ac hj,f])
  refine Hc.tup (n:=74) λu hu=>?_;simp only[Ic,Je,or_false]at hu;rcases hu with rfl|rfl
  ·exact h3.sml.mono (by lia)
  ·exact(Hc.int _).mono (by decide)
 rcases snoc st with rfl|⟨st',x,rfl⟩
 ·rw[if_neg (by simp)]
  simp! only[uG];exact q i G4 i1 s4
 ·rw[if_pos (by simp)]
  rw[Oc]at g4;simp! only[eH,mt_pop g4];refine ZB g4 λG5 p5=>?_;have g5:=p5.at
  have s5:=J s4 p5;obtain⟨n',ja,ya,va,za⟩:=hst st'.length x (by simp)
  have I:∀j y,st'[j]?=la y->DpOk ss P sts B j y:=λj y f=>hst j y (by rw[Lh (Ba.mp f).1];exact f)
  obtain⟨xc,F,xm⟩:=x;dsimp only at ya va za;have xa:((st'++[(xc,F,xm)]).map (·.2.2)).sum=(st'.map (·.2.2)).sum+xm:=by simp
  rw[xa];show Yc _ (.tup [xc,.int F]) _ _;have mx:(if (F:Int)>i then (F:Int) else i)<=100:=by split<;>lia
  cases za with
  |@ring _ _ r a hw hn rl hb=>
   simp! only[];refine⟨trivial,?_⟩;simp! only[ay];simp! only[cy,ix_t (Td _ _)];refine⟨by decide,λpd Gd R=>?_⟩
   have Z:=R.at
   rw[KH]at Z;dsimp only;rw[OA Z];refine⟨by decide,RA Z ?_⟩
   rw[yL];have g6:=R.sa _ _ g5;dsimp only[Option.getD];rw[Ho g6];refine⟨og _,?_⟩;refine Yg (λu=>u) trivial (λu hu K hK=>(nomatch hu)) λpe Ge O=>?_;dsimp only;rw[Bo (O.sa _ _ g6) O.at];refine⟨by rw[Ua];exact Fb (show st'.length+0<=71 by lia) (by decide),λGf pf=>?_⟩
   have gf:=pf.at
   rw[show st'.map mm++([]++[].map λu:U=>u)=st'.map mm from vh _]at gf;exact⟨(st'.map (·.2.2)).sum,by lia,st',_,_,_,_,rfl,rfl,mx,J ((s5.trans R.sa).trans O.sa) pf,gf,I⟩
  |@split n1 m1 m2 _ s l h ct c1 c2 ew l1 l2 k1 k2=>
   simp! only[];refine⟨trivial,?_⟩;simp! only[ay];simp! only[cy,ix_t (Td _ _)];refine⟨by decide,λpd Gd R=>?_⟩
   have Z:=R.at
   rw[KH]at Z;dsimp only;rw[OA Z];refine⟨by decide,RA Z ?_⟩
   rw[zL];have g6:=R.sa _ _ g5;dsimp only[Option.getD];rw[Ho g6];rw[show cut [U.str "split",.int s,.int ct,c1,c2] (la 3) Aa=[c1,c2]from xt _ 3];refine⟨by show(2:Nat)<=Za;decide,?_⟩
   refine Yg (λu=>.tup [u,.int ((F:Int)+1)]) trivial (λu hu K hK=>⟨by decide,hK⟩) λpe Ge O=>?_
   dsimp only;rw[Bo (O.sa _ _ g6) O.at];refine⟨by rw[Ua];exact Fb (show st'.length+2<=73 by lia) (by decide),λG7 p7=>?_⟩
   have e7:st'.map mm++([]++[c1,c2].map λu=>U.tup [u,.int ((F:Int)+1)])=(st'++[(c1,F+1,m1),(c2,F+1,m2)]).map mm:=by simp[mm]
   have g7:=p7.at
   rw[e7]at g7;refine⟨(st'.map (·.2.2)).sum+(m1+m2),by lia,st'++[(c1,F+1,m1),(c2,F+1,m2)],_,_,_,_,rfl,by simp,mx,J ((s5.trans R.sa).trans O.sa) p7,g7,λj y f=>?_⟩
   by_cases hj:j<st'.length
   ·rw[Lh hj]at f;exact I j y f
   ·rw[bq (by lia)]at f
    obtain⟨d,hd⟩:∃d,j=st'.length+d:=⟨j-st'.length,by lia⟩
    rw[hd,rJ]at f
    match d,f with
    |0,f=>cases f;exact⟨n1,_,by lia,by show n1+(F+1)<=71;lia,k1⟩
    |1,f=>cases f;exact⟨n1,_,by lia,by show n1+(F+1)<=71;lia,k2⟩
    |d+2,f=>simp at f
def LR     {kk:Bool->Prop}(g:G p=la (.lst (Kb n (.bl ma))))(q:kk ua):ig (.bl ua) (.loc p) G kk:=by
 refine in_l g rfl (by simp[List.all_replicate,flat]) ?_
 have:((Kb n (U.bl ma)).any λy=>nh y (.bl ua))=ua:=by simp[List.any_replicate,nh]
 rw[this];exact q
def dD   l:Hc 1 (ub l):=Hc.tup λu hu=>by
 obtain⟨z,_,rfl⟩:=Ea.mp hu;exact Hc.int z

def pw_le  {P:Int}{c W:Nat}(h:P<=c)(f:c ^ (W-1)<=300):P.toNat ^ (W-1)<=300:=Fb (Nat.pow_le_pow_left (by lia) (W-1)) f
structure Mj (W:Nat)(s:Qb):Prop where
 ok:s.Ok W
 le:s.w = "span" -> s.lo<=s.hi

def sR  (hf:Fd G f c)(q:∀(W:Nat) (P m:Int) G' ,1<=W->W<=8->1<=P->P<=300->P.toNat ^ (W-1)<=300->1<=m->m<=24->Fd G' f c->Sm f G G'->Q (.tup [.int W,.int P,.int m]) G'):db T (k+2) BE [.loc f] G Q X:=by
 refine⟨rfl,?_⟩;simp! only[iF,nc,Kb];refine Vc hf (by decide) (by decide) λr G1 a1 b1 f1 s1=>?_
 simp! only[];by_cases hr:0<r
 ·rw[if_pos (by simpa using hr)]
  simp! only[];refine⟨by decide,λp G2 I=>Vc (f1.new I) (by decide) (by decide) λr3 G3 a3 b3 f3 s3=>?_⟩
  refine Uo [2,3,3,4,2,1] (s3 _ _ (f1.away I).1 I.at) a3 b3 λz hz=>?_;simp! only[];refine⟨by decide,λp4 G4 n4=>?_⟩
  have S4:Sm f G G4:=((s1.nw I).trans s3).nw n4;have f4:=f3.new n4
  suffices h:∃(W d:Nat),z=W/\1<=W/\W<=8/\atI [U.int 12,.int 24,.int 6,.int 3] (z-1)=la (.int d)/\0<d/\d<=300/\d ^ (W-1)<=300 by
   obtain⟨W,d,rfl,Z,Y,ha,d0,d1,R⟩:=h;dsimp only;rw[ix_l n4.at ha];refine Vc f4 (by lia) (by lia) λr5 G5 a5 b5 F s5=>⟨by decide,?_⟩
   exact q W (1+r5) 5 _ Z Y (by lia) (by lia) (pw_le (c:=d) (by lia) R) (by decide) (by decide) F (S4.trans s5)
  simp only[Ic,Je,or_false]at hz;rcases hz with rfl|rfl|rfl|rfl|rfl|rfl
  ·exact⟨2,24,rfl,by decide,by decide,tf (j:=1) rfl,by decide,by decide,by decide⟩
  ·exact⟨3,6,rfl,by decide,by decide,tf (j:=2) rfl,by decide,by decide,by decide⟩
  ·exact⟨3,6,rfl,by decide,by decide,tf (j:=2) rfl,by decide,by decide,by decide⟩
  ·exact⟨4,3,rfl,by decide,by decide,tf (j:=3) rfl,by decide,by decide,by decide⟩
  ·exact⟨2,24,rfl,by decide,by decide,tf (j:=1) rfl,by decide,by decide,by decide⟩
  ·exact⟨1,12,rfl,by decide,by decide,tf (j:=0) rfl,by decide,by decide,by decide⟩
 ·rw[if_neg (by simpa using hr)]
  simp! only[];refine Vc f1 (by decide) (by decide) λr2 G2 a2 b2 f2 s2=>?_
  simp! only[];refine⟨by decide,λp3 G3 O=>?_⟩
  have S3:Sm f G G3:=(s1.trans s2).nw O
  suffices h:∃(W d:Nat),2+r2=W/\1<=W/\W<=8/\atI [U.int 300,.int 17,.int 6,.int 4,.int 3,.int 2,.int 2] (2+r2-2)=la (.int d)/\0<d/\d<=300/\d ^ (W-1)<=300 by
   obtain⟨W,d,hW,Z,Y,ha,d0,d1,R⟩:=h;dsimp only;rw[ix_l O.at ha];refine Vc (f2.new O) (by lia) (by lia) λr5 G5 a5 b5 F s5=>?_
   simp! only[];refine⟨by decide,λp6 G6 J=>Vc (F.new J) (by decide) (by decide) λr7 G7 a7 b7 f7 s7=>?_⟩
   refine Uo [5,12,24] (s7 _ _ (F.away J).1 J.at) a7 b7 λm hm=>?_;have y:1<=m/\m<=24:=by simp only[Ic,Je,or_false]at hm;lia
   rw[hW];exact⟨by decide,q W (1+r5) m _ Z Y (by lia) (by lia) (pw_le (c:=d) (by lia) R) y.1 y.2 f7 (((S3.trans s5).nw J).trans s7)⟩
  rcases(show r2=0\/r2=1\/r2=2\/r2=3\/r2=4\/r2=5\/r2=6 by lia)with rfl|rfl|rfl|rfl|rfl|rfl|rfl
  ·exact⟨2,300,rfl,by decide,by decide,tf (j:=0) rfl,by decide,by decide,by decide⟩
  ·exact⟨3,17,rfl,by decide,by decide,tf (j:=1) rfl,by decide,by decide,by decide⟩
  ·exact⟨4,6,rfl,by decide,by decide,tf (j:=2) rfl,by decide,by decide,by decide⟩
  ·exact⟨5,4,rfl,by decide,by decide,tf (j:=3) rfl,by decide,by decide,by decide⟩
  ·exact⟨6,3,rfl,by decide,by decide,tf (j:=4) rfl,by decide,by decide,by decide⟩
  ·exact⟨7,2,rfl,by decide,by decide,tf (j:=5) rfl,by decide,by decide,by decide⟩
  ·exact⟨8,2,rfl,by decide,by decide,tf (j:=6) rfl,by decide,by decide,by decide⟩
noncomputable def Qv  : List Str:=["a", "ab", "b", "ba", "abc", "z", "n", "at"]
def DN  : ∀x∈Qv,Nm x:=by
 have h:∀x∈Qv,x.length<=8/\∀c∈x.cps.toList,c<128:=by decide +kernel
 exact λx f=>⟨(h x f).1,(h x f).2⟩
def uR   (hf:Fd G f c)(h1:1<=P)(h2:P<=300)(w0:0<W)(w8:W<=8)(m0:1<=m)(m1:m<=24)
  (q:∀(xs:List Str) (ss:List Qb) j ,xs.length=W->(∀x∈xs,Nm x)->ss≠[]->ss.length<=24->(∀s∈ss,Mj W s)->Fd j f c->Sm f G j->Q (Jb xs ss) j):db T (k+4) EE [.loc f,.int W,.int m,.int P] G Q X:=by
 refine⟨rfl,?_⟩;simp! only[kF,nc,Kb];refine⟨by lia,by lia,by rw[Zd];exact Fb w8 (by decide),?_⟩
 refine Ce (λi O j=>Fd j f c/\Sm f G j/\∃bs:List Int,O=bs.map .int/\bs.length=i) ?_ ?_ ⟨hf,Sm.refl,[],rfl,rfl⟩
 ·rintro O G1 ⟨f1,s1,bs,rfl,hl⟩;rw[Zd]at hl;refine⟨trivial,λpb G2 Z=>?_⟩;simp! only[];refine⟨by decide,λY G3 I=>?_⟩
  have f2:=f1.new Z;have hb:=f1.away Z;have h5:=f2.away I;have s2:=s1.nw Z;refine Vc (f2.new I) (by lia) (by lia) λm' G4 a4 b4 f4 s4=>?_
  have ja:Y≠pb:=Bg Z.at I.no;simp! only[];refine⟨by lia,by lia,?_⟩
  refine Ze (λi ς j=>∃(ss:List Qb) (o6 o7 o8 o9:Option U),ς=[la (.loc f),la (.int W),la (.int m),la (.int P),la (.loc pb),la (.loc Y),o6,o7,o8,o9]/\Fd j f c/\Sm f G j/\j pb=la (.lst (bs.map .int))/\j Y=la (.lst (ss.map Qb.u))/\ss.length=i/\∀s∈ss,Mj W s) ?_ ?_
   ⟨[],_,_,_,_,rfl,f4,(s2.nw I).trans s4,s4 _ _ hb.1 (I.sa _ _ Z.at),s4 _ _ h5.1 I.at,rfl,λ_ h=>(nomatch h)⟩
  ·rintro ς G5 ⟨ss,o6,o7,o8,o9,rfl,f5,s5,gb,g5,l5,o5⟩;rw[Zd]at l5;refine⟨trivial,?_⟩;simp! only[DG,it_l g5];refine⟨by decide,by decide,?_⟩
   have e:cut [U.str "a",.str "ab",.str "b",.str "ba",.str "abc",.str "z",.str "n",.str "at"] Aa (la (W:Int))=(Qv.take W).map .str:=by
    rw[cm,ju];rfl
   rw[e];exact q _ ss _ (by rw[Zh];exact Nat.min_eq_left w8) (λx hx=>DN x (Bu hx)) (λz=>by rw[z]at l5;simp at l5;lia) (by lia) o5 f5 s5
  ·rintro i x ς G5 K hx ⟨ss,o6,o7,o8,o9,rfl,f5,s5,gb,g5,l5,o5⟩ hk;obtain⟨hi,rfl⟩:=Xf hx;refine⟨trivial,?_⟩;simp! only[];refine Vc f5 (by decide) (by decide) λJ G6 a6 b6 f6 s6=>?_
   refine Ro f6 h1 (by lia) λlo G7 a7 b7 f7 s7=>?_
   refine Vc f7 (by lia) (by lia) λr8 G8 a8 b8 f8 s8=>?_
   have S8:=s6.trans (s7.trans s8);have g8:=S8 _ _ h5.1 g5;simp! only[mH];refine⟨by lia,?_⟩
   obtain⟨t,ht⟩:∃t:Nat,((i:Int)+1+r8)%(W:Int)=t:=⟨_,(Gg (uh _ (by lia))).choose_spec⟩
   have ya:(t:Int)<W:=by rw[<- ht];exact rh _ (by lia)
   obtain⟨o,ho⟩:∃o:Nat,(i:Int)%(W:Int)=o:=⟨_,(Gg (uh _ (by lia))).choose_spec⟩
   have va:(o:Int)<W:=by rw[<- ho];exact rh _ (by lia)
   rw[ht];have add:∀(s:Qb) (y:Gp) (o8':Option U),Mj W s->Fd y f c->Sm f G8 y->ze .append (.loc Y) [s.u] y λ_ G1=>K [la (.loc f),la (.int W),la (.int m),la (.int P),la (.loc pb),la (.loc Y),la (.int i),la (.int J),la (.int lo),la (.int t)] G1:=λs y _ os R F=>by
    have g9:=F _ _ h5.1 g8;rw[xg g9];refine⟨by rw[Ua];exact bf (show ss.length<25 by lia) (by decide),λGa pa=>?_⟩
    refine hk _ _ ⟨ss++[s],_,_,_,_,rfl,R.off h5 pa,Sm.wr s2 I.no (s5.trans (S8.trans F)) pa,pa.sm _ _ (Qa ja) (F _ _ hb.1 (S8 _ _ hb.1 gb)),by rw[Oc];exact pa.at,by simp[l5],λz hz=>?_⟩
    rcases Fa.mp hz with z'|z'
    ·exact o5 z z'
    ·rw[bc.mp z'];exact os
   by_cases c1:J<3
   ·rw[if_pos (by simpa using c1)]
    simp! only[Of g8];exact QE f8 h1 (by lia) (S8 _ _ hb.1 gb) hb.1 hl w0 w8 λs y os za R F=>add s y Aa ⟨os,za⟩ R F
   ·rw[if_neg (by simpa using c1)]
    simp! only[];by_cases c2:J<5
    ·rw[if_pos (by simpa using c2)]
     simp! only[Of g8];refine⟨by lia,by decide,by decide,Vc f8 (by lia) (by lia) λr9 y a9 b9 R F=>⟨by decide,?_⟩⟩
     rw[ho];exact add ⟨"span",o,t,lo,lo+r9⟩ y Aa ⟨⟨.inr rfl,by dsimp only;lia,by dsimp only;lia,by dsimp only;lia,by dsimp only;lia⟩,λ_=>by dsimp only;lia⟩ R F
    ·rw[if_neg (by simpa using c2)]
     simp! only[Of g8];refine⟨by lia,Ro f8 h1 (by lia) λxa y a9 b9 R F=>⟨by decide,?_⟩⟩
     rw[ho];exact add ⟨"apart",t,o,lo,xa⟩ y Aa ⟨⟨.inl rfl,by dsimp only;lia,by dsimp only;lia,by dsimp only;lia,by dsimp only;lia⟩,λz=>absurd (show("apart" : Str) = "span" from z) (by decide +kernel)⟩ R F
 ·rintro i x O G1 K hx ⟨f1,s1,bs,rfl,hl⟩ hk _;exact⟨trivial,Vc f1 (by lia) (by lia) λr G2 a2 b2 f2 s2=>hk _ _ ⟨f2,s1.trans s2,bs++[r],by simp,by simp[hl]⟩⟩
def GN  (hf:Fd G f c)(h1:1<=P)(h2:P<=300)(sl:ss.length<=24)(so:∀s∈ss,Mj W s)(q:∀(j:List Qb) I ,j.length=ss.length->(∀s∈j,Mj W s)->Fd I f c->Sm f G I->Q (Jb xs j) I):db T (k+2) aE [.loc f,Jb xs ss,.int P] G Q X:=by
 refine⟨rfl,?_⟩;simp! only[HD,nc,Kb];refine⟨by decide,λp G1 O=>?_⟩
 have hp:=hf.away O;simp! only[Jb,ix_t (Ad _ _ _)];refine Ze (λi ς I=>∃(j:List Qb) (o4 o5 o6 o7 o8 o9:Option U),ς=[la (.loc f),la (Jb xs ss),la (.int P),la (.loc p),o4,o5,o6,o7,o8,o9]/\Fd I f c/\Sm f G I/\I p=la (.lst (j.map Qb.u))/\j.length=i/\∀s∈j,Mj W s) ?_ ?_ ⟨[],_,_,_,_,_,_,rfl,hf.new O,O.sa.sm,O.at,rfl,λ_ h=>(nomatch h)⟩
 ·rintro ς G2 ⟨j,o4,o5,o6,o7,o8,o9,rfl,f2,s2,g2,l2,k2⟩;rw[Ua]at l2;refine⟨trivial,?_⟩;simp! only[Jb,ix_t (Td _ _),it_l g2];exact⟨by decide,q j _ l2 k2 f2 s2⟩
 ·rintro i x ς G2 K J ⟨j,o4,o5,o6,o7,o8,o9,rfl,f2,s2,g2,l2,k2⟩ hk;rw[Lc]at J;cases R:ss[i]? with
  |none=>rw[R]at J;cases J
  |some s=>
   rw[R]at J;have J:=(Zc J).symm;subst J;have il:i<24:=bf (Ba.mp R).1 sl;have F:=so s (Cd R);have w:=F.ok.w;have lo:=F.ok.lo;have hi:=F.ok.hi;refine⟨trivial,?_⟩;rw[show s.u=.tup [.str s.w,.int s.o,.int s.t,.int s.lo,.int s.hi]from rfl];simp! only[];refine⟨trivial,?_⟩;have add:∀(y:Int) (Y:Gp),Mj W ⟨s.w,s.o,s.t,s.lo+y,s.hi+y⟩->Fd Y f c->Sm f G2 Y->ze .append (.loc p) [.tup [.str s.w,.int s.o,.int s.t,.int (s.lo+y),.int (s.hi+y)]] Y λ_ G1=>K [la (.loc f),la (Jb xs ss),la (.int P),la (.loc p),la (.str s.w),la (.int s.o),la (.int s.t),la (.int s.lo),la (.int s.hi),la (.int y)] G1:=λy Y Z f9 s9=>by
    have g9:=s9 _ _ hp.1 g2;rw[xg g9];refine⟨by rw[Ua];exact bf (show j.length<25 by lia) (by decide),λGa pa=>?_⟩
    refine hk _ _ ⟨j++[⟨s.w,s.o,s.t,s.lo+y,s.hi+y⟩],_,_,_,_,_,_,rfl,f9.off hp pa,Sm.wr Sm.refl O.no (s2.trans s9) pa,by rw[Oc];exact pa.at,by simp[l2],λz hz=>?_⟩
    rcases Fa.mp hz with z'|z'
    ·exact k2 z z'
    ·rw[bc.mp z'];exact Z
   by_cases c1:s.w = "span"
   ·rw[if_pos (by simpa using c1)]
    have d0:0<=(9999-s.hi)/P:=Int.ediv_nonneg (by lia) (by lia)
    have d1:P*((9999-s.hi)/P)<=9999-s.hi:=Int.mul_ediv_self_le (by lia)
    have d2:(9999-s.hi)/P<=9999:=by
     have:=xJ h1 d0
     lia
    simp! only[];refine⟨by lia,by lia,Vc f2 (by lia) (by lia) λr G3 a3 b3 f3 s3=>⟨.inl (by constructor<;>lia),?_⟩⟩
    have g3:=s3 _ _ hp.1 g2;have e0:0<=P*r:=Int.mul_nonneg (by lia) a3
    have e1:P*r<=P*((9999-s.hi)/P):=Int.mul_le_mul_of_nonneg_left (by lia) (by lia)
    have le:=F.le c1;simp! only[Of g3];exact⟨by decide,add (P*r) G3 ⟨⟨w,F.ok.o,F.ok.t,by dsimp only;lia,by dsimp only;lia⟩,λ_=>by dsimp only;lia⟩ f3 s3⟩
   ·rw[if_neg (by simpa using c1)]
    simp! only[Of g2];exact⟨by decide,add 0 G2 ⟨⟨w,F.ok.o,F.ok.t,by dsimp only;lia,by dsimp only;lia⟩,λz=>absurd z c1⟩ f2 Sm.refl⟩
def CU  (hf:Fd G f c)(q:∀(xs:List Str) (ss:List Qb) (P:Int) G' ,1<=xs.length->xs.length<=8->1<=P->P<=300->P.toNat ^ (xs.length-1)<=300->(∀x∈xs,Nm x)->ss≠[]->ss.length<=24->(∀s∈ss,Mj xs.length s)->Fd G' f c->Sm f G G'->Q (.tup [Jb xs ss,.int P]) G'):db T (k+5) pG [.loc f] G Q X:=by
 refine⟨rfl,?_⟩;simp! only[nG,nc,Kb];refine sR hf λW P m G1 R F y j pw m1 m2 f1 s1=>?_;simp! only[];refine⟨trivial,uR f1 y j (by lia) F m1 m2 λxs ss G2 xl nm ne O so f2 s2=>?_⟩
 subst xl;simp! only[];refine Vc f2 (by decide) (by decide) λr G3 a3 b3 f3 Z=>?_
 simp! only[];by_cases Y:r=0
 ·rw[if_pos (by simpa using Y)]
  simp! only[];refine GN (xs:=xs) f3 y j O so λJ G4 l4 I f4 s4=>⟨by decide,?_⟩
  exact q xs J P _ R F y j pw nm (λz=>by rw[z]at l4;exact ne (uc.mp l4.symm)) (by lia) I f4 (s1.trans (s2.trans (Z.trans s4)))
 ·rw[if_neg (by simpa using Y)]
  simp! only[];exact⟨by decide,q xs ss P _ R F y j pw nm ne O so f3 (s1.trans (s2.trans Z))⟩

def lC  {j q:Type}{f:j->List q}{l:List j}{a:j}(h:l[i]?=la a):(l.take (i+1)).flatMap f=(l.take i).flatMap f++f a:=by
 rw[Ve,h,List.flatMap_append];simp
def VL    {f:List (List Int)}(q:1<=P)(j:P<=600)(z:f.length<=300) i:((f.take i).flatMap (rowX fs P w)).length<=180000:=by
 rw[Vs];have y:(f.take i).length<=300:=by rw[Zh];lia
 have j:=Fb (Xr (fs:=fs) q w) j;exact Fb (Il y j) (by decide)

def VA   {zs:List Int}{kk:Bool->Prop}(g:G a=la (.lst (zs.map .int)))(q:kk (decide (z∈zs))):ig (.int z) (.loc a) G kk:=by
 refine in_l g rfl (Zg _) ?_;rw[Xg];exact q
def kD    : (Qc (i+1)).map (λ(j:Nat)=>ub (b++[(j:Int)]))=(Qc i).map (λ(j:Nat)=>ub (b++[(j:Int)]))++[U.tup (b.map U.int++[.int i])]:=by
 rw[Dp,Oc];simp[ub]
def kS       {F rl:List (List Int)}(h1:1<=P)(h2:P<=600)(w8:w<8)(hb:b.length=w)(g2:J O=la (.lst (zs.map .int)))(gf:J pf=la (.lst (F.map ub)))(gl:J I=la (.lst (rl.map ub)))(l2:I≠O)(lf:I≠pf)(fr:G I=Aa)(s3:Sa G J)(rb:rl.length<=180000)(hD:D.nx=K)
  (kk:∀q ,Sa G q->q O=la (.lst (zs.map .int))->q pf=la (.lst (F.map ub))->q I=la (.lst ((rl++rowX zs P.toNat w b).map ub))->K [u0,la (.int P),la (.loc O),la (.loc pf),la (.int w),la (.loc I),la (ub b)] q) :
  He T.gs (db T k) Wx D [u0,la (.int P),la (.loc O),la (.loc pf),la (.int w),la (.loc I),la (ub b)] J:=by
 have nb:=Xr (fs:=zs) (P:=P.toNat) (by lia) w
 have y:newO J (.lst ((Qc (nB zs P.toNat w)).map λ(j:Nat)=>ub (b++[(j:Int)]))) λx G1=>ze .extend (.loc I) [x] G1 λ_ G1=>K [u0,la (.int P),la (.loc O),la (.loc pf),la (.int w),la (.loc I),la (ub b)] G1:=λp9 Z R=>by
  dsimp only;rw[Bo (R.sa _ _ gl) R.at];refine⟨by rw[Ua,Ua,ci];exact Fb (show _<=180600 by lia) (by decide),λG5 Y=>?_⟩
  refine kk G5 (λc u e=>Y.sm _ _ (λz=>by rw[z,fr]at e;cases e) (R.sa _ _ (s3 _ _ e))) (Y.sm _ _ (Qa l2) (R.sa _ _ g2)) (Y.sm _ _ (Qa lf) (R.sa _ _ gf)) ?_
  rw[Oc,rowX,Pe];exact Y.at
 simp! only[Wx,Ho gl];refine VA g2 ?_;by_cases c:(w:Int)∈zs
 ·have e:nB zs P.toNat w=((1:Int)).toNat:=by unfold nB;rw[if_pos c];rfl
  rw[e]at y;rw[if_pos (decide_eq_true c)];refine⟨by decide,by decide,by decide,?_⟩
  refine Ce (λi f q=>q=J/\f=(Qc i).map λ(j:Nat)=>ub (b++[(j:Int)])) ?_ ?_ ⟨rfl,rfl⟩
  ·rintro f Z ⟨rfl,rfl⟩;rw[Zd,hD];exact⟨trivial,y⟩
  ·rintro i x f Z K4 hx ⟨rfl,rfl⟩ hk _;obtain⟨hi,rfl⟩:=Xf hx;refine⟨trivial,?_⟩;simp! only[ub];refine⟨by decide,by rw[Ua];exact Fb (show b.length+_<=9 by lia) (by decide),?_⟩
   refine hk _ _ ⟨rfl,kD.symm⟩
 ·have e:nB zs P.toNat w=P.toNat:=by unfold nB;rw[if_neg c]
  rw[e]at y;rw[if_neg (by rw[decide_eq_false c];decide)]
  refine⟨by lia,by lia,by rw[Zd];exact Fb (show P.toNat<=600 by lia) (by decide),?_⟩
  refine Ce (λi f q=>q=J/\f=(Qc i).map λ(j:Nat)=>ub (b++[(j:Int)])) ?_ ?_ ⟨rfl,rfl⟩
  ·rintro f Z ⟨rfl,rfl⟩;rw[Zd,hD];exact⟨trivial,y⟩
  ·rintro i x f Z K4 hx ⟨rfl,rfl⟩ hk _;obtain⟨hi,rfl⟩:=Xf hx;refine⟨trivial,?_⟩;simp! only[ub];refine⟨by decide,by rw[Ua];exact Fb (show b.length+_<=9 by lia) (by decide),?_⟩
   refine hk _ _ ⟨rfl,kD.symm⟩
def nE  {j:Type}{f:j->Bool}{l:List j}{a:j}(h:l[i]?=la a):(l.take (i+1)).filter f=(l.take i).filter f++if f a=ma then [a] else []:=by
 rw[Ve,h,Ii];cases e:f a<;>simp[e]
def EN  (w0:0<xs.length)(w8:xs.length<=8)(so:∀s∈ss,s.Ok xs.length)(sl:ss.length<=24)(h1:1<=P)(h2:P<=600)(hR:∀ks ,Vd xs.length (ce ss) ks->∀w,w<=xs.length->(Af (ks.map (·.headD 0)) P.toNat w).length<=300)
  (q:∀(ks:List (List Int)) p I ,Vd xs.length (ce ss) ks->ks.Pairwise Sl->Sa G I->G p=Aa->I p=la (.lst (((Af (ks.map (·.headD 0)) P.toNat xs.length).filter (sf P ss)).map ub))->Q (.loc p) I):db T (k+3) ZD [Jb xs ss,.int P] G Q X:=by
 refine⟨rfl,?_⟩;simp! only[GD,nc,Kb];refine uF so w8 λp as O G1 s1 hs hP ja kl _=>?_;have q:=q O;have hR:=hR O hP;generalize xa:O.map (·.headD 0)=zs at hR q;have P1:1<=P.toNat:=by lia
 have P3:P.toNat<=600:=by lia
 rw[it_l hs.gp];refine⟨by rw[Ua,hs.l];exact Fb kl (by decide),?_⟩
 refine Ce (λi J I=>I=G1/\J=(zs.take i).map .int) ?_ ?_ ⟨rfl,rfl⟩
 ·rintro J G2 ⟨rfl,rfl⟩;have el:zs.length=as.length:=by rw[<- xa,Ua,hs.l]
  rw[Ua,<- el,Ke];refine⟨by unfold Bc;rw[hs.gp],λp2 G3 n3=>?_⟩
  simp! only[VF];refine⟨by decide,by decide,λp3 G4 n4=>?_⟩
  simp! only[WF,Jb,ix_t (Td _ _),Ua];refine⟨by lia,by lia,?_⟩
  refine Ze (λi Y I=>∃(pf:Ca) (o4 o5 o6:Option U),Y=[la (Jb xs ss),la (.int P),la (.loc p2),la (.loc pf),o4,o5,o6]/\Sa G I/\I p2=la (.lst (zs.map .int))/\I pf=la (.lst ((Af zs P.toNat i).map ub))) ?_ ?_ ⟨p3,_,_,_,rfl,(s1.trans n3.sa).trans n4.sa,n4.sa _ _ n3.at,n4.at⟩
  ·rintro Y G5 ⟨pf,o4,o5,o6,rfl,s5,g2,gf⟩;rw[Zd]at gf;have r3:=hR _ (Db _);refine⟨trivial,?_⟩;simp! only[XF,it_l gf];refine⟨by rw[Ua];exact Fb r3 (by decide),?_⟩
   refine Ce (λi J I=>Sa G5 I/\J=(((Af zs P.toNat xs.length).take i).filter (sf P ss)).map ub) ?_ ?_ ⟨Sa.refl,rfl⟩
   ·rintro J G6 ⟨s6,rfl⟩;rw[Ua,Ke];refine⟨by unfold Bc;rw[s6 _ _ gf],λp7 G7 n7=>?_⟩
    exact q p7 G7 hP ja ((s5.trans s6).trans n7.sa) (Bi (s5.trans s6) n7.no) n7.at
   ·rintro i x J G6 K6 F ⟨s6,rfl⟩ hk hn;rw[Lc]at F;cases R:(Af zs P.toNat xs.length)[i]? with
    |none=>rw[R]at F;cases F
    |some b=>
     rw[R]at F;have F:=(Zc F).symm;subst F;have bl:=(Wo.mp (Cd R)).1;have ft:=nE (f:=sf P ss) R;refine⟨by unfold Bc;rw[s6 _ _ gf],?_⟩
     simp! only[];refine qx (by lia) bl so sl λG7 s7=>?_
     cases c:sf P ss b with
     |true=>
      rw[c,if_pos rfl]at ft;rw[if_pos rfl];exact hk _ _ ⟨s6.trans s7,by rw[ft,Oc];rfl⟩
     |false=>
      rw[c,if_neg (by decide),vh]at ft
      rw[if_neg (by decide)]
      exact hn _ ⟨s6.trans s7,by rw[ft]⟩
  ·rintro w x Y G5 K F ⟨pf,o4,o5,o6,rfl,s5,g2,gf⟩ hk;obtain⟨hw,rfl⟩:=Xf F;have r3:=hR w (by lia)
   refine⟨trivial,?_⟩;simp! only[jG];refine⟨by decide,λpl G6 n6=>?_⟩
   have fr:G pl=Aa:=Bi s5 n6.no;have l2:pl≠p2:=Bg g2 n6.no;have lf:pl≠pf:=Bg gf n6.no;have za:=n6.sa _ _ gf;simp! only[it_l za];refine Ze (λj Y I=>∃o6:Option U,Y=[la (Jb xs ss),la (.int P),la (.loc p2),la (.loc pf),la (.int w),la (.loc pl),o6]/\Sa G I/\I p2=la (.lst (zs.map .int))/\I pf=la (.lst ((Af zs P.toNat w).map ub))/\I pl=la (.lst ((((Af zs P.toNat w).take j).flatMap (rowX zs P.toNat w)).map ub))) ?_ ?_ ⟨_,rfl,s5.trans n6.sa,n6.sa _ _ g2,za,n6.at⟩
   ·rintro Y G7 ⟨o6,rfl,s7,g27,gf7,gl7⟩;rw[Ua,Ke]at gl7;refine⟨by unfold Bc;rw[gf7],?_⟩
    simp! only[kG];exact hk _ _ ⟨pl,_,_,_,rfl,s7,g27,gl7⟩
   ·rintro j y Y G7 K7 Z ⟨o6,rfl,s7,g27,gf7,gl7⟩ hk7;rw[Lc]at Z;cases R:(Af zs P.toNat w)[j]? with
    |none=>rw[R]at Z;cases Z
    |some b=>
     rw[R]at Z;have Z:=(Zc Z).symm;subst Z;have bl:=(Wo.mp (Cd R)).1;refine⟨by unfold Bc;rw[gf7],?_⟩
     simp! only[];refine kS h1 h2 (by lia) bl g27 gf7 gl7 l2 lf fr s7 (VL P1 P3 r3 j) rfl λG8 s8 va wa ya=>hk7 _ _ ⟨_,rfl,s8,va,wa,?_⟩
     rw[ya,lC R]
 ·rintro i x J G2 K F ⟨rfl,rfl⟩ hk _;rw[Lc]at F;cases ea:as[i]? with
  |none=>rw[ea]at F;cases F
  |some a=>
   rw[ea]at F;have F:=(Zc F).symm;subst F;have hi:i<O.length:=by rw[<- hs.l];exact(Ba.mp ea).1
   have ek:=ac hi;have ga:=hs.ga i a _ ea ek;have ne:=hP.ne _ (Mh hi);refine⟨by unfold Bc;rw[hs.gp],?_⟩
   simp! only[];generalize O[i]=kp at ga ne ek;cases kp with
   |nil=>exact absurd rfl ne
   |cons z l=>
    rw[ix_l ga (Td _ _)];have ez:zs[i]?=la z:=by rw[<- xa,Lc,ek];rfl
    exact hk _ _ ⟨rfl,by rw[Ve,ez,Oc];rfl⟩


def BU   (O:Fd G f c)(h1:1<=P)(h2:P<=600)(w8:W<=8)(q:∀(bs:List Int) y ,bs.length=W->(∀b∈bs,0<=b/\b<P)->Fd y f c->Sm f G y->Q (ub bs) y):db T (k+2) zE [.loc f,.int W,.int P] G Q X:=by
 refine⟨rfl,?_⟩;simp! only[bF,nc,Kb];refine⟨by lia,by lia,by rw[Zd];exact Fb w8 (by decide),?_⟩
 refine Ce (λi j y=>Fd y f c/\Sm f G y/\∃bs:List Int,j=bs.map .int/\bs.length=i/\∀b∈bs,0<=b/\b<P) ?_ ?_ ⟨O,Sm.refl,[],rfl,rfl,λ_ h=>nomatch h⟩
 ·rintro j Y ⟨f1,s1,bs,rfl,hl,hb⟩;rw[Zd]at hl;refine⟨trivial,λpb J I=>?_⟩;simp! only[it_l I.at];exact q bs _ hl hb (f1.new I) (s1.nw I)
 ·rintro i x j Y K hx ⟨f1,s1,bs,rfl,hl,hb⟩ hk _;refine⟨trivial,Vc f1 (by lia) (by lia) λr J R b2 Z s2=>hk _ _ ⟨Z,s1.trans s2,bs++[r],by simp,by simp[hl],λb F=>?_⟩⟩
  rcases Fa.mp F with z|z
  ·exact hb b z
  ·rw[bc.mp z];exact⟨R,b2⟩
def tR  {W: Nat}(hf:Fd G f c)(w8:W<=8)(q:∀(st:List Int) Y ,(∀z∈st,0<=z/\z<W)->st.length<=8->Fd Y f c->Sm f G Y->Q (ub st) Y):db T (k+2) DE [.loc f,.int W] G Q X:=by
 refine⟨rfl,?_⟩;simp! only[jF,nc,Kb];refine⟨by lia,by lia,by rw[Zd];exact Fb (show _<=8 by lia) (by decide),?_⟩
 refine Ce (λi F Y=>Fd Y f c/\Sm f G Y/\∃y:List Int,F=y.map .int/\y.length<=i/\∀z∈y,0<=z/\z<W) ?_ ?_ ⟨hf,Sm.refl,[],rfl,Db _,λ_ h=>(nomatch h)⟩
 ·rintro F G1 ⟨f1,s1,y,rfl,zl,zb⟩;rw[Zd]at zl;refine⟨trivial,λp2 G2 R=>?_⟩;simp! only[];refine⟨by decide,by lia,by lia,λp3 G3 I=>⟨by decide,λp4 G4 O=>?_⟩⟩
  have f4:=((f1.new R).new I).new O;refine Vc f4 (by decide) (by decide) λr G5 a5 b5 f5 s5=>?_
  have h2:=f1.away R;have h3:=(f1.new R).away I;have h4:=((f1.new R).new I).away O;have Z:Sm f G G5:=(((s1.nw R).nw I).nw O).trans s5;have g2:=s5 _ _ h2.1 (O.sa _ _ (I.sa _ _ R.at));have g3:=s5 _ _ h3.1 (O.sa _ _ I.at);have g4:=s5 _ _ h4.1 O.at
  have J:y.length<=8:=by lia
  rcases(show r=0\/r=1\/r=2\/r=3 by lia)with rfl|rfl|rfl|rfl
  ·rw[ix_l g4 (Td _ _)];exact q [] _ (λ_ h=>(nomatch h)) (by decide) f5 Z
  ·rw[ix_l g4 (Ad _ _ _)];rw[it_l g2];exact q y _ zb J f5 Z
  ·rw[ix_l g4 (CA _ _ _ _)];rw[it_l g2];exact q y _ zb J f5 Z
  ·rw[ix_l g4 (show atI _ (3:Int)=la _ from tf (j:=3) rfl)];rw[it_l g3];have e:rngU 0 ((W:Int)).toNat=((Qc W).map λ(i:Nat)=>(i:Int)).map .int:=by
    unfold rngU;rw[Pe,show((W:Int)).toNat=W by lia]
    exact ul λi _=>by simp
   rw[e];refine q _ _ (λz J=>?_) (by simp;exact w8) f5 Z
   obtain⟨i,hi,rfl⟩:=Ea.mp J;have:=Ra.mp hi
   lia
 ·rintro i x F G1 K hx ⟨f1,s1,y,rfl,zl,zb⟩ hk hn;obtain⟨hi,rfl⟩:=Xf hx;refine⟨trivial,?_⟩;simp! only[];refine Vc f1 (by decide) (by decide) λr G2 a2 b2 f2 s2=>?_
  simp! only[];by_cases c:r=0
  ·rw[if_pos (by simpa using c)]
   refine hk _ _ ⟨f2,s1.trans s2,y++[(i:Int)],by simp,by simp;lia,λz J=>?_⟩
   rcases Fa.mp J with h|h
   ·exact zb z h
   ·rw[bc.mp h];lia
  ·rw[if_neg (by simpa using c)]
   exact hn _ ⟨f2,s1.trans s2,y,rfl,by lia,zb⟩

noncomputable def rowG  (ch:Nat->List Int)(w:Nat)(r:List Int):List (List Int):=(ch w).map λb=>r++[b]
noncomputable def Ie  (ch:Nat->List Int):Nat->List (List Int)
 |0=>[[]]
 |w+1=>(Ie ch w).flatMap (rowG ch w)
section
variable {ch:Nat->List Int}{P:Nat}
theorem Mw   : ∀l:List (List Int),(l.flatMap (rowG ch w)).length=l.length*(ch w).length
 |[]=>by simp
 |r::l=>by rw[II,Ae,Mw l,Nh,By];simp[rowG];lia
def yC   : (Ie ch (w+1)).length=(Ie ch w).length*(ch w).length:=Mw _
theorem Dx  (f:∀i,(ch i).length<=P):∀w,(Ie ch w).length<=P ^ w
 |0=>Db _
 |w+1=>by rw[yC,xu];exact Il (Dx f w) (f w)
theorem hE  (f:∀i,(ch i).length<=P)(j:(ch i).length<=1):∀w,i<w->(Ie ch w).length<=P ^ (w-1)
 |0,h=>absurd h (Ky _)
 |w+1,h=>by
  rw[yC,Nat.add_sub_cancel];by_cases e:i=w
  ·subst e;exact Fb (Il (Dx f i) j) (Yp (Nat.mul_one _))
  ·have:=hE f j w (by lia)
   have q:P ^ w=P ^ (w-1)*P:=by rw[<- xu];congr 1;lia
   rw[q];exact Il this (f w)
def uT   (f:∀i,(ch i).length<=P)(j:1<=P)(q:(ch i).length<=1)(hi:i<W)(h:P ^ (W-1)<=300)(y:w<=W):(Ie ch w).length<=300:=by
 by_cases e:w=W
 ·subst e;exact Fb (hE f q w hi) h
 ·exact Fb (Dx f w) (Fb (Au j (by lia)) h)
theorem km  : ∀{w } {b },b∈Ie ch w↔b.length=w/\∀i,i<w->b.getD i 0∈ch i
 |0,b=>by
  simp only[Ie,bc];exact⟨λh=>⟨by simp[h],λi h=>absurd h (Ky i)⟩,λh=>uc.mp h.1⟩
 |w+1,b=>by
  show b∈(Ie ch w).flatMap _↔_;rw[QH];constructor
  ·rintro⟨r,F,z⟩;obtain⟨x,y,rfl⟩:=Ea.mp z;obtain⟨j,f⟩:=km.mp F;refine⟨by simp[j],λi h=>?_⟩
   by_cases e:i=w
   ·subst e;rw[show(r++[x]).getD i 0=x by simp[Xc,j]]
    exact y
   ·rw[show(r++[x]).getD i 0=r.getD i 0 by simp[Xc,Lh (show i<r.length by lia)]]
    exact f i (by lia)
  ·rintro⟨j,f⟩;refine⟨b.take w,km.mpr ⟨by simp;lia,λi h=>?_⟩,Ea.mpr ⟨b.getD w 0,f w (by lia),?_⟩⟩
   ·rw[show(b.take w).getD i 0=b.getD i 0 by simp[Xc,Su,h]]
    exact f i (by lia)
   ·have q:w<b.length:=by lia
    rw[show b.getD w 0=b[w] by simp[Xc,q]]
    have:=dJ q;rw[this,Gu (by lia)]
end
def Zf  (sts B zs:List Int)(P:Nat)(w:Nat):List Int:=if (w:Int)∈sts then [bt B w] else (Qc (nB zs P w)).map λ(j:Nat)=>(j:Int)
def pO  {sts B zs:List Int}(f:1<=P) w:(Zf sts B zs P w).length<=P:=by
 unfold Zf;split
 ·exact f
 ·rw[Ua,ci];exact Xr f w
def qO  {sts B zs:List Int}{w:Nat}(h:(w:Int)∈sts\/(w:Int)∈zs):(Zf sts B zs P w).length<=1:=by
 unfold Zf;split
 ·exact Db _
 ·rename_i f;rw[Ua,ci];unfold nB;rw[if_pos (h.resolve_left f)];exact Db _
def rf  (sts:List Int)(ks:List (List Int)):List Int:=(ks.filter (fre sts)).map (·.headD 0)
def EL    {sts:List Int}(q:Vd W (ce ss) ks)(h:x∈rf sts ks):Hd ss sts x:=by
 obtain⟨p,f,rfl⟩:=Ea.mp h;obtain⟨f,F⟩:=Ff.mp f;have O:=q.ne p f;have I:=q.as p f;intro y j;cases p with
 |nil=>exact absurd rfl O
 |cons a r=>
  have j:y∈a::r:=q.part f (by simp) j
  refine⟨?_,λJ=>?_⟩
  ·show a<=y;rcases Ic.mp j with z|z
   ·lia
   ·have:=(Wa.mp I).1 y z;lia
  ·have:y∈stay sts (a::r):=Ci.mpr ⟨j,J⟩;unfold fre at F;rw[OH]at F;rw[F]at this;cases this
def IN    {sts:List Int}(q:Vd W (ce ss) ks)(j:0<W)(f:∀x∈sts,0<=x/\x<W):∃i,i<W/\((i:Int)∈sts\/(i:Int)∈rf sts ks):=by
 cases sts with
 |cons a r=>
  obtain⟨n,rfl⟩:=Gg (f a (by simp)).1
  exact⟨n,by have:=(f (n:Int) (by simp)).2;lia,.inl (by simp)⟩
 |nil=>
  have:ks.filter (fre [])=ks:=List.filter_eq_self.mpr λp _=>by unfold fre stay;simp
  refine⟨0,j,.inr ?_⟩;unfold rf;rw[this];exact Xv q j

def cQ  {sts: List Int}(I:1<=P)(q:Vd W (ce ss) ks)(f:b.length=W)(j:∀x∈b,0<=x/\x<P)(ag:Ag sts B b)(y:∀x:Int,0<=x->x<W->Hd ss sts x->bt b x=0):b∈Ie (Zf sts B (rf sts ks) P.toNat) W:=by
 refine km.mpr ⟨f,λi F=>?_⟩;have z:b.getD i 0=bt b (i:Int):=rfl;rw[z];unfold Zf;split
 ·rename_i h;rw[ag _ h];simp
 ·have:0<=bt b (i:Int)/\bt b (i:Int)<P:=j _ (mw (by lia) (by lia))
  refine Ea.mpr ⟨(bt b (i:Int)).toNat,Ra.mpr ?_,by lia⟩
  unfold nB;split
  ·rename_i h;rw[y i (by lia) (by lia) (EL q h)]
   decide
  ·lia
def JL  {P: Int}{sts: List Int}{W: Nat}(j:∀x∈sts,0<=x/\x<W)(h:b∈Ie (Zf sts B (rf sts ks) P.toNat) W):Ag sts B b:=λx f=>by
 obtain⟨n,rfl⟩:=Gg (j x f).1;have:=(km.mp h).2 n (by have:=(j _ f).2;lia)
 unfold Zf at this;rw[if_pos f]at this;exact bc.mp this


def GL {y:List U}{q:Cl}{f:Sg}{G:Gp}{Q:K1}{X:KX}{e:E}:(Ta y q (.rngL e)).1 f G Q X=(Ta y q e).1 f G (λx z=>match x with|.int j=>0<=j/\j<=1000000/\newO z (.lst (rngU 0 j.toNat)) Q|_=>False) X:=rfl
def uQ  {sts: List Int}{ks:List (List Int)}(e:ks[i]?=la (z::l)):rf sts (ks.take (i+1))=rf sts (ks.take i)++if fre sts (z::l)=ma then [z] else []:=by
 unfold rf;rw[Ve,e,Ii,Oc];cases c:fre sts (z::l)<;>simp[c]
def HE  {sts: List Int}(w0:0<xs.length)(w8:xs.length<=8)(so:∀s∈ss,s.Ok xs.length)(sl:ss.length<=24)(h1:1<=P)(h2:P<=300)(pw:P.toNat ^ (xs.length-1)<=300)(Bl:B.length=xs.length)(sb:∀x∈sts,0<=x/\x<xs.length)
  (q:∀ks p F ,Vd xs.length (ce ss) ks->Sa G F->F p=la (.lst (((Ie (Zf sts B (rf sts ks) P.toNat) xs.length).filter (sf P ss)).map ub))->Q (.loc p) F):db T (k+3) fG [Jb xs ss,.int P,ub B,ub sts] G Q X:=by
 refine⟨rfl,?_⟩;simp! only[bG,nc,Kb];refine uF so w8 λp as ks G1 s1 hs hP ha kl _=>?_;have P1:1<=P.toNat:=by lia
 rw[it_l hs.gp];refine⟨by rw[Ua,hs.l];exact Fb kl (by decide),?_⟩
 refine Ce (λi I F=>Sa G1 F/\I=(rf sts (ks.take i)).map .int) ?_ ?_ ⟨Sa.refl,rfl⟩
 ·rintro I G2 ⟨s2,rfl⟩;rw[Ua,hs.l,Ke];refine⟨by unfold Bc;rw[s2 _ _ hs.gp],λp2 G3 n3=>?_⟩
  obtain⟨i0,ka,h0⟩:=IN (ss:=ss) (sts:=sts) hP w0 sb;have q:=λp F=>q ks p F hP;have ag:=qO (B:=B) (P:=P.toNat) h0;have cl:=pO (sts:=sts) (B:=B) (zs:=rf sts ks) P1;have r3:∀w,w<=xs.length->(Ie (Zf sts B (rf sts ks) P.toNat) w).length<=300:=λw hw=>uT cl P1 ag ka pw hw;have R:∀w:Nat,Zf sts B (rf sts ks) P.toNat w=if (w:Int)∈sts then [bt B w] else (Qc (nB (rf sts ks) P.toNat w)).map λ(j:Nat)=>(j:Int):=λ_=>rfl
  generalize Zf sts B (rf sts ks) P.toNat=ch at q cl r3 R;generalize rf sts ks=zs at n3 R;simp! only[bH];refine⟨by decide,by decide,λp3 G4 n4=>?_⟩
  simp! only[cH,Jb,ix_t (Td _ _),Ua];refine⟨by lia,by lia,?_⟩
  refine Ze (λi ς F=>∃(pf:Ca) (o6 o7 o8 o9:Option U),ς=[la (Jb xs ss),la (.int P),la (ub B),la (ub sts),la (.loc p2),la (.loc pf),o6,o7,o8,o9]/\Sa G F/\F p2=la (.lst (zs.map .int))/\F pf=la (.lst ((Ie ch i).map ub))) ?_ ?_ ⟨p3,_,_,_,_,rfl,(s1.trans s2).trans (n3.sa.trans n4.sa),n4.sa _ _ n3.at,n4.at⟩
  ·rintro ς G5 ⟨pf,o6,o7,o8,o9,rfl,s5,g2,gf⟩;rw[Zd]at gf;have r3:=r3 _ (Db _);refine⟨trivial,?_⟩;simp! only[dH,it_l gf];refine⟨by rw[Ua];exact Fb r3 (by decide),?_⟩
   refine Ce (λi I F=>Sa G5 F/\I=(((Ie ch xs.length).take i).filter (sf P ss)).map ub) ?_ ?_ ⟨Sa.refl,rfl⟩
   ·rintro I G6 ⟨s6,rfl⟩;rw[Ua,Ke];refine⟨by unfold Bc;rw[s6 _ _ gf],λJ O n7=>?_⟩
    exact q J O ((s5.trans s6).trans n7.sa) n7.at
   ·rintro i x I G6 K6 Y ⟨s6,rfl⟩ hk hn;rw[Lc]at Y;cases es:(Ie ch xs.length)[i]? with
    |none=>rw[es]at Y;cases Y
    |some b=>
     rw[es]at Y;have Y:=(Zc Y).symm;subst Y;have bl:=(km.mp (Cd es)).1;have ft:=nE (f:=sf P ss) es;refine⟨by unfold Bc;rw[s6 _ _ gf],?_⟩
     simp! only[];refine qx (by lia) bl so sl λO s7=>?_
     cases c:sf P ss b with
     |true=>
      rw[c,if_pos rfl]at ft;rw[if_pos rfl];exact hk _ _ ⟨s6.trans s7,by rw[ft,Oc];rfl⟩
     |false=>
      rw[c,if_neg (by decide),vh]at ft
      rw[if_neg (by decide)]
      exact hn _ ⟨s6.trans s7,by rw[ft]⟩
  ·rintro w x ς G5 K Y ⟨pf,o6,o7,o8,o9,rfl,s5,g2,gf⟩ hk;obtain⟨hw,rfl⟩:=Xf Y;have r3:=r3 w (by lia)
   have cw:=cl w;have R:=R w;refine⟨trivial,?_⟩;have za:∀(J:Ca) (O:Gp),Sa G5 O->O J=la (.lst ((ch w).map .int))->He T.gs (db T (k+2)) Xx ⟨K,Q,λx _ F=>X x F⟩ [la (Jb xs ss),la (.int P),la (ub B),la (ub sts),la (.loc p2),la (.loc pf),la (.int w),la (.loc J),o8,o9] O:=λJ O s7 g7=>by
    simp! only[Xx];refine⟨by decide,λpl G8 n8=>?_⟩
    have va:=n8.sa _ _ (s7 _ _ gf);have fr:G pl=Aa:=Bi (s5.trans s7) n8.no;have l2:pl≠p2:=Bg (s7 _ _ g2) n8.no;have lf:pl≠pf:=Bg (s7 _ _ gf) n8.no;have l7:pl≠J:=Bg g7 n8.no;simp! only[RG,it_l va];refine Ze (λj ς F=>∃o9:Option U,ς=[la (Jb xs ss),la (.int P),la (ub B),la (ub sts),la (.loc p2),la (.loc pf),la (.int w),la (.loc J),la (.loc pl),o9]/\Sa G F/\F p2=la (.lst (zs.map .int))/\F pf=la (.lst ((Ie ch w).map ub))/\F J=la (.lst ((ch w).map .int))/\F pl=la (.lst ((((Ie ch w).take j).flatMap (rowG ch w)).map ub))) ?_ ?_ ⟨_,rfl,(s5.trans s7).trans n8.sa,n8.sa _ _ (s7 _ _ g2),va,n8.sa _ _ g7,n8.at⟩
    ·rintro ς G9 ⟨o9,rfl,s9,g29,gf9,g79,gl9⟩;rw[Ua,Ke]at gl9;refine⟨by unfold Bc;rw[gf9],?_⟩
     simp! only[SG];exact hk _ _ ⟨pl,_,_,_,_,rfl,s9,g29,gl9⟩
    ·rintro j y ς G9 K9 Z ⟨o9,rfl,s9,g29,gf9,g79,gl9⟩ hk9;rw[Lc]at Z;cases es:(Ie ch w)[j]? with
     |none=>rw[es]at Z;cases Z
     |some b=>
      rw[es]at Z;have Z:=(Zc Z).symm;subst Z;have bl:=(km.mp (Cd es)).1;refine⟨by unfold Bc;rw[gf9],?_⟩
      simp! only[xH,Ho gl9,it_l g79];refine⟨by rw[Ua];exact Fb (show(ch w).length<=300 by lia) (by decide),?_⟩
      refine Yg (λu=>.tup (b.map U.int++[u])) (by unfold Bc;rw[g79]) (λu hu K' hK=>?_) λpe Ge ne=>?_
      ·simp! only[ub];exact⟨by decide,by rw[Ua];exact Fb (show b.length+_<=9 by lia) (by decide),hK⟩
      ·have wa:=ne.sa _ _ gl9;dsimp only;rw[Bo wa ne.at];have b1:(((Ie ch w).take j).flatMap (rowG ch w)).length<=90000:=by
        rw[Mw];exact Fb (Il (show _<=300 by rw[Zh];lia) (show _<=300 by lia)) (by decide)
       refine⟨by simp only[Ua,ah];exact Fb (show _<=90300 by lia) (by decide),λGf xa=>?_⟩
       refine hk9 _ _ ⟨_,rfl,λc u e=>xa.sm _ _ (λz=>by rw[z,fr]at e;cases e) (ne.sa _ _ (s9 _ _ e)),xa.sm _ _ (Qa l2) (ne.sa _ _ g29),xa.sm _ _ (Qa lf) (ne.sa _ _ gf9),xa.sm _ _ (Qa l7) (ne.sa _ _ g79),?_⟩
       rw[xa.at,lC es,Oc];congr 2;congr 1;rw[ah,Pe];unfold rowG;rw[Pe];exact ul λx _=>by simp[ub]
   simp! only[QG,ub];refine⟨rfl,Zg _,?_⟩;rw[Xg];by_cases c:(w:Int)∈sts
   ·rw[if_pos c]at R;rw[if_pos (decide_eq_true c),ix_t (Vg (by lia) (by lia))]
    refine⟨by decide,λJ O n7=>?_⟩
    exact za J O n7.sa (by rw[n7.at,R];rfl)
   ·rw[if_neg c]at R;rw[if_neg (by rw[decide_eq_false c];decide)]
    have ya:∀(n:Nat) (J:Ca) (O:Gp),n=nB zs P.toNat w->Ri G5 J (.lst (rngU 0 n)) O->O J=la (.lst ((ch w).map .int)):=λn J O e n7=>by
     rw[n7.at,R,<- e];unfold rngU;rw[Pe];congr 2;exact ul λi _=>by simp
    simp! only[GL];refine VA g2 ?_;by_cases d:(w:Int)∈zs
    ·rw[if_pos (decide_eq_true d)];refine⟨by decide,by decide,λJ O n7=>?_⟩
     exact za J O n7.sa (ya _ J O (by unfold nB;rw[if_pos d];rfl) n7)
    ·rw[if_neg (by rw[decide_eq_false d];decide)]
     refine⟨by lia,by lia,λJ O n7=>?_⟩
     exact za J O n7.sa (ya _ J O (by unfold nB;rw[if_neg d]) n7)
 ·rintro i x I G2 K Y ⟨s2,rfl⟩ hk hn;rw[Lc]at Y;cases ea:as[i]? with
  |none=>rw[ea]at Y;cases Y
  |some a=>
   rw[ea]at Y;have Y:=(Zc Y).symm;subst Y;have hi:i<ks.length:=by rw[<- hs.l];exact(Ba.mp ea).1
   have ek:=ac hi;have ga:=s2 _ _ (hs.ga i a _ ea ek);have ne:=hP.ne _ (Mh hi);have pl:=Zw hP w8 (Mh hi);refine⟨by unfold Bc;rw[s2 _ _ hs.gp],?_⟩
   generalize ks[i]=kp at ga ne ek pl;cases kp with
   |nil=>exact absurd rfl ne
   |cons z l=>
    have zt:=uQ (sts:=sts) ek;simp! only[];rw[it_l ga];refine⟨by rw[Ua];exact Fb pl (by decide),?_⟩
    refine Ce (λj I F=>F=G2/\I=(stay sts ((z::l).take j)).map .int) ?_ ?_ ⟨rfl,rfl⟩
    ·rintro I G3 ⟨rfl,rfl⟩;rw[Ua,Ke];refine⟨by unfold Bc;rw[ga],λp5 G5 n5=>⟨by decide,λp6 G6 n6=>?_⟩⟩
     simp! only[];refine uB (n:=0) (n6.sa _ _ n5.at) n6.at (λu hu=>?_) (by decide) ?_
     ·obtain⟨y,_,rfl⟩:=Ea.mp hu;exact Hc.int y
     ·have em:((stay sts (z::l)).map U.int).isEmpty=fre sts (z::l):=zz;rw[em];have ja:Sa G3 G6:=n5.sa.trans n6.sa;cases c:fre sts (z::l)with
      |true=>
       rw[c,if_pos rfl]at zt;rw[if_pos rfl,ix_l (ja _ _ ga) (Td _ _)];exact hk _ _ ⟨s2.trans ja,by rw[zt,Oc];rfl⟩
      |false=>
       rw[c,if_neg (by decide),vh]at zt
       rw[if_neg (by decide)]
       exact hn _ ⟨s2.trans ja,by rw[zt]⟩
    ·rintro j y I G3 K3 Z ⟨rfl,rfl⟩ hk3 hn3;rw[Lc]at Z;cases ey:(z::l)[j]? with
     |none=>rw[ey]at Z;cases Z
     |some v=>
      rw[ey]at Z;have Z:=(Zc Z).symm;subst Z;have st:stay sts ((z::l).take (j+1))=stay sts ((z::l).take j)++if v∈sts then [v] else []:=by
       unfold stay;rw[Ve,ey,Ii];by_cases c:v∈sts<;>simp[c]
      refine⟨by unfold Bc;rw[ga],?_⟩
      simp! only[ub];refine⟨rfl,Zg _,?_⟩;rw[Xg];by_cases c:v∈sts
      ·rw[if_pos c]at st;rw[if_pos (decide_eq_true c)];exact hk3 _ _ ⟨rfl,by rw[st,Oc];rfl⟩
      ·rw[if_neg c,vh]at st;rw[if_neg (by rw[decide_eq_false c];decide)]
       exact hn3 _ ⟨rfl,by rw[st]⟩

structure Dn (xs:List Str)(ss:List Qb)(P:Int):Prop where
 w0:0<xs.length
 w8:xs.length<=8
 nm:∀x∈xs,Nm x
 sl:ss.length<=24
 so:∀s∈ss,s.Ok xs.length
 p1:1<=P
 p2:P<=300
 pw:P.toNat ^ (xs.length-1)<=300
structure Ds (W:Nat)(P:Int)(sts B:List Int):Prop where
 l:B.length=W
 b:∀b∈B,0<=b/\b<P
 tl:sts.length<=8
 sb:∀x∈sts,0<=x/\x<W
def mC   (f:l.length<=24)(h:∀z∈l,-100000<=z/\z<=100000):Ft 50000 1 (ub l):=by
 refine Ft.tup (n:=1921) (m:=24) (k:=0) (by rw[Ua];exact f) (λu hu=>?_) (by decide)
 obtain⟨z,j,rfl⟩:=Ea.mp hu;exact zB (h z j)
def ft_3     {sts B:List Int}(h:Dn xs ss P)(hs:Ds xs.length P sts B):Ft 2000000 4 (.tup [Jb xs ss,ub B,ub sts]):=by
 have j:=h.p2;have q:=h.w8;refine Ft.tup (n:=600000) (m:=3) (k:=3) (by simp) (λu hu=>?_) (by decide)
 simp only[Ic,Je,or_false]at hu;rcases hu with rfl|rfl|rfl
 ·exact mQ h.w8 h.nm h.sl h.so
 ·exact(mC (by have:=hs.l;lia) λz f=>by have:=hs.b z f;lia).mono (by decide) (by decide)
 ·exact(mC (by have:=hs.tl;lia) λz f=>by have:=hs.sb z f;lia).mono (by decide) (by decide)
def xL  : ∀kk ,kk ma->Wh .non .non kk:=λ_ h=>h

theorem Yw  {sts: List Int}(h:Dn xs ss P)(hs:Ds xs.length P sts B)(q:∀J,Sa G J->Q (.bl ma) J):db T (k+76) Ot [Jb xs ss,.int P,ub B,ub sts] G Q X:=by
 refine⟨rfl,?_⟩;have w0:=h.w0;have w8:=h.w8;have p1:=h.p1;have p2:=h.p2;have wl:(winO P ss).length=ss.length:=Ua _;have ja:Sb sts B:=λx f=>by have:=hs.sb x f;rw[hs.l];exact this
 obtain⟨z0,Z⟩:∃z:Str,∀(G:Gp) (Q:K1),Q (.str z) G->Xl [.tup [Jb xs ss,ub B,ub sts]] G Q:=⟨_,λG Q q=>AO (ft_3 h hs) (by decide) (by decide) q⟩
 simp! only[gF,nc,Kb];refine⟨by decide,Z _ _ ?_⟩
 simp! only[yG];have sm:∀F:List (List Int),∀u∈F.map ub,Hc 1 u:=λF u hu=>by
  obtain⟨l,_,rfl⟩:=Ea.mp hu;exact dD l
 refine GK (k:=k) (xs:=xs) h.so h.sl w0 w8 h.p1 (by lia) h.pw hs.l hs.b hs.tl hs.sb (λcs m G1 s1 hc=>?_) λbs G1 s1 bl bb ag xa hk=>?_
 ·simp! only[Px];refine HE (k:=k+72) (xs:=xs) w0 w8 h.so h.sl h.p1 h.p2 h.pw hs.l hs.sb λI p G2 hP s2 R=>?_
  have e:(Ie (Zf sts B (rf sts I) P.toNat) xs.length).filter (sf P ss)=[]:=by
   cases ef:(Ie (Zf sts B (rf sts I) P.toNat) xs.length).filter (sf P ss)with
   |nil=>rfl
   |cons b r=>
    have O:b∈(Ie (Zf sts B (rf sts I) P.toNat) xs.length).filter (sf P ss):=by rw[ef];exact cf
    obtain⟨O,kb⟩:=Ff.mp O;obtain⟨L,hL,hK⟩:=UL wl ((WC h.p1).mp kb);exact(hc.no h.p1 (JL hs.sb O) wl L hL hK).elim
  rw[e]at R;simp! only[Jx,oj];rw[if_neg (by decide)]
  simp! only[];rw[if_neg (by decide)]
  simp! only[];refine⟨by decide,Z _ _ ?_⟩
  refine IC ?_;rw[if_neg (by decide)]
  simp! only[Kx];refine⟨by decide,λp3 G3 j=>?_⟩
  refine Gw (j.sa _ _ R) j.at ?_;rw[if_pos rfl];simp! only[kH,ix_t (Td _ _)];rw[if_neg (by decide +kernel),ix_t (Ad _ _ _)]
  refine vR (k:=k+71) (xs:=xs) ja (λx f=>by have:=hs.sb x f;lia) h.so h.sl h.p1 (by lia) hc λG4 s4=>?_
  refine xL _ ?_;rw[if_neg (by decide)]
  simp! only[lH];rw[ix_t (Ad _ _ _)];refine jR (k:=k+74) hc λz G5 za s5=>?_;have va:=q G5 (s1.trans (s2.trans (j.sa.trans (s4.trans s5))));simp! only[];rw[decide_eq_true za];exact va
 ·simp! only[Px];refine HE (k:=k+72) (xs:=xs) w0 w8 h.so h.sl h.p1 h.p2 h.pw hs.l hs.sb λI p G2 hP s2 R=>?_
  have kp:sf P ss bs=ma:=(WC h.p1).mpr hk;have e:(((Ie (Zf sts B (rf sts I) P.toNat) xs.length).filter (sf P ss)).map ub).isEmpty=ua:=by
   have:bs∈(Ie (Zf sts B (rf sts I) P.toNat) xs.length).filter (sf P ss):=Ff.mpr ⟨cQ h.p1 hP bl bb ag xa,kp⟩;cases ef:(Ie (Zf sts B (rf sts I) P.toNat) xs.length).filter (sf P ss)with
   |nil=>rw[ef]at this;cases this
   |cons b r=>rfl
  simp! only[Jx,oj];rw[if_neg (by decide)]
  simp! only[];rw[if_neg (by decide)]
  simp! only[];refine⟨by decide,Z _ _ ?_⟩
  refine IC ?_;rw[if_neg (by decide)]
  simp! only[Kx];refine⟨by decide,λp3 G3 j=>?_⟩
  simp! only[];refine Qs (n:=1) (sm _) (by decide) (j.sa _ _ R) j.at ?_
  rw[e,if_neg (by decide)]
  simp! only[zG,ix_t (Td _ _)];rw[if_neg (by decide +kernel),ix_t (Ad _ _ _)]
  simp! only[ub,oj];rw[if_neg (by decide),ix_t (Ad _ _ _)]
  simp! only[Jb,ix_t (Td _ _),Ua];rw[if_neg (by simp[bl])]
  simp! only[AG];rw[ix_t (Ad _ _ _)];simp! only[];refine⟨by rw[Ua,bl];exact Fb (show xs.length<=8 by lia) (by decide),?_⟩
  refine Yg (λ_=>.bl ma) trivial (λu hu K hK=>?_) ?_
  ·obtain⟨b,O,rfl⟩:=Ea.mp hu;simp! only[];refine jm (k:=k+74) ?_;have:=bb b O;rw[decide_eq_true this.1,decide_eq_true (show b<=P-1 by lia)]
   exact hK
  intro p6 G6 n6;have e6:[]++(bs.map U.int).map (λ_=>U.bl ma)=Kb bs.length (.bl ma):=by rw[ah,Pe];exact List.map_const' ..
  rw[e6]at n6;refine LR n6.at ?_;rw[if_neg (by decide)]
  simp! only[BG];refine⟨by rw[Ua];exact Fb hs.tl (by decide),?_⟩
  refine Ce (λ_ y J=>y=[]/\J=G6) ?_ ?_ ⟨rfl,rfl⟩
  ·rintro y J ⟨rfl,rfl⟩;refine⟨trivial,λp7 G7 n7=>⟨by decide,λp8 G8 n8=>?_⟩⟩
   simp! only[];refine Gw (kk:=λb=>if (!b)=ma then _ else _) (n8.sa _ _ n7.at) n8.at ?_
   rw[if_neg (by decide)]
   simp! only[CG];rw[ix_t (Ad _ _ _)];have hp:0<P:=by lia
   refine qx (k:=k+73) (xs:=xs) (bs:=bs) (kk:=λc G1=>Q (.bl c) G1) hp bl h.so h.sl λG9 s9=>?_;rw[kp];exact q G9 (s1.trans (s2.trans (j.sa.trans (n6.sa.trans (n7.sa.trans (n8.sa.trans s9))))))
  ·rintro i x y J K f ⟨rfl,rfl⟩ _ hkn;rw[Lc]at f;cases ex:sts[i]? with
   |none=>rw[ex]at f;cases f
   |some v=>
    rw[ex]at f;have f:=(Zc f).symm;subst f;have vm:=Cd ex;have Y:=hs.sb v vm;refine⟨trivial,?_⟩;simp! only[];rw[ix_t (Ad _ _ _)];simp! only[ix_t (Vg Y.1 (show v<(bs.length:Int) by rw[bl];exact Y.2)),ix_t (Vg Y.1 (show v<(B.length:Int) by rw[hs.l];exact Y.2))]
    rw[if_neg (by rw[ag v vm];simp)]
    exact hkn _ ⟨rfl,rfl⟩


def yU  (hf:Fd G f c)(h:Dn xs ss P)(q:∀sts B G' ,Ds xs.length P sts B->Fd G' f c->Q (.tup [ub sts,ub B]) G'):db T (k+5) XG [.loc f,Jb xs ss,.int P] G Q X:=by
 have Y:=h.w8;have p1:=h.p1;have p2:=h.p2;refine⟨rfl,?_⟩;simp! only[WG,nc,Kb,Jb,ix_t (Td _ _),Ua];simp! only[LG];refine tR hf Y λsts G1 R O f1 s1=>?_;simp! only[MG];refine BU (k:=k+2) f1 p1 (by lia) Y λB G2 Bl Bb f2 s2=>?_
 simp! only[NG];refine Vc f2 (by decide) (by decide) λr G3 a3 b3 f3 s3=>?_
 simp! only[];by_cases c0:r=0
 ·rw[if_pos (by simpa using c0)]
  simp! only[vH];refine EN (k:=k+1) h.w0 Y h.so h.sl p1 (by lia) (λJ hP w hw=>nD (Xv hP h.w0) (by lia) h.pw hw) λJ p G4 hP hS s4 np g4=>?_
  have f4:=f3.sa s4;have pf:p≠f:=λz=>by
   obtain⟨_,_,_,_,h1,_⟩:=f3.ex;rw[<- z,np]at h1;cases h1
  have F:∀b∈(Af (J.map (·.headD 0)) P.toNat xs.length).filter (sf P ss),b.length=xs.length:=λb hb=>(Wo.mp (Ff.mp hb).1).1;have l4:((Af (J.map (·.headD 0)) P.toNat xs.length).filter (sf P ss)).length<=300:=Fb (nJ _ _) (nD (Xv hP h.w0) (by lia) h.pw (Db _))
  generalize (Af (J.map (·.headD 0)) P.toNat xs.length).filter (sf P ss)=rows at g4 F l4;simp! only[wH];refine⟨by decide,λp5 G5 I=>?_⟩
  simp! only[];refine Qs (n:=1) (λu hu=>by obtain⟨l,_,rfl⟩:=Ea.mp hu;exact dD l) (by decide) (I.sa _ _ g4) I.at ?_
  have f5:=f4.new I;cases rows with
  |nil=>
   rw[if_neg (by decide)]
   simp! only[Pt];exact⟨by decide,q sts B _ ⟨Bl,Bb,O,R⟩ f5⟩
  |cons b0 rr=>
   rw[if_pos (by simp)]
   simp! only[CH];refine Vc f5 (by lia) (by lia) λj G6 a6 b6 f6 s6=>?_
   have g6:=s6 _ _ pf (I.sa _ _ g4);simp! only[DH,xi g6];refine Vc f6 (by simp) (by simp at l4 ⊢;lia) λr7 G7 a7 b7 f7 s7=>?_
   refine PC (s7 _ _ pf g6) a7 b7 λu hu=>?_;obtain⟨b,hb,rfl⟩:=Ea.mp hu;have bl:=F b hb;simp! only[ub];refine⟨by rw[Ua];exact Fb (show b.length<=8 by lia) (by decide),?_⟩
   refine Yg (λu=>match u with|.int z=>.int ((z+j)%P)|u=>u) trivial (λu hu K hK=>?_) λp8 G8 Z=>?_
   ·obtain⟨z,_,rfl⟩:=Ea.mp hu;simp! only[];exact⟨by lia,hK⟩
   ·have e8:[]++(b.map U.int).map (λu=>match u with|.int z=>U.int ((z+j)%P)|u=>u)=(b.map λz=>(z+j)%P).map .int:=by
     rw[ah,Pe,Pe];rfl
    rw[e8]at Z;simp! only[it_l Z.at];simp! only[Pt];refine⟨by decide,q sts (b.map λz=>(z+j)%P) _ ⟨by rw[Ua];exact bl,λz hz=>?_,O,R⟩ (f7.new Z)⟩
    obtain⟨y,_,rfl⟩:=Ea.mp hz;exact⟨uh _ (by lia),rh _ (by lia)⟩
 ·rw[if_neg (by simpa using c0)]
  simp! only[Pt];exact⟨by decide,q sts B _ ⟨Bl,Bb,O,R⟩ f3⟩
def othZ  (P:Int)(sts B:List Int)(i:Nat):Int:=if (i:Int)∈sts then bt B i else (bt B i+1)%P
theorem VC  {X: KX}(Y:Fd G f c)(h:Dn xs ss P)(kk:∀O y,(∃o2 o3 o4 o5 o6 o7,O=[la (.loc a),la (.loc f),o2,o3,o4,o5,o6,o7])->Fd y f c->K O y) :
  He T.gs (db T (k+81)) Ax ⟨K,Q,λx _ y=>X x y⟩ [la (.loc a),la (.loc f),o2,la (Jb xs ss),la (.int P),o5,o6,o7] G:=by
 have p1:=h.p1;have p2:=h.p2;simp! only[Ax];refine yU (k:=k+76) Y h λsts B G1 q f1=>?_;have Bl:=q.l;have w8:=h.w8;simp! only[];refine⟨trivial,?_⟩;simp! only[XE,ub,Ua];refine⟨by lia,by lia,by rw[Zd];exact Fb (show((B.length:Int)).toNat<=8 by lia) (by decide),?_⟩
 refine Ce (λi j y=>y=G1/\j=((Qc i).map (othZ P sts B)).map .int) ?_ ?_ ⟨rfl,rfl⟩
 ·rintro j G2 ⟨rfl,rfl⟩;rw[Zd];refine⟨trivial,λp3 G3 J=>?_⟩;simp! only[it_l J.at];have f3:=f1.new J;have ho:Ds xs.length P sts ((Qc B.length).map (othZ P sts B)):=⟨by simp[Bl],λz hz=>by
   obtain⟨i,F,rfl⟩:=Ea.mp hz;have F:=Ra.mp F;unfold othZ;split
   ·exact q.b _ (mw (by lia) (by lia))
   ·exact⟨uh _ (by lia),rh _ (by lia)⟩,q.tl,q.sb⟩
  simp! only[YE];refine Yw (k:=k+5) h q λG4 Z=>?_;simp! only[];refine Yw (k:=k+5) h ho λG5 s5=>?_;simp! only[];rw[if_neg (by decide)]
  simp! only[ZE];refine⟨by decide,Yw (k:=k+5) (sts:=[]) h ⟨q.l,q.b,by decide,λ_ h=>(nomatch h)⟩ λG6 s6=>?_⟩
  simp! only[];rw[if_neg (by decide)]
  exact kk _ _ ⟨_,_,_,_,_,_,rfl⟩ (f3.sa (Z.trans (s5.trans s6)))
 ·rintro i x j G2 K2 hx ⟨rfl,rfl⟩ hk _;obtain⟨F,rfl⟩:=Xf hx;have F:i<B.length:=by lia
  have R:(Qc (i+1)).map (othZ P sts B)=(Qc i).map (othZ P sts B)++[othZ P sts B i]:=by rw[Dp,Oc];rfl
  have I:othZ P sts B i=if (i:Int)∈sts then bt B i else (bt B i+1)%P:=rfl
  refine⟨trivial,?_⟩;simp! only[];refine⟨rfl,Zg _,?_⟩;rw[Xg];by_cases c1:(i:Int)∈sts
  ·rw[if_pos c1]at I;rw[if_pos (decide_eq_true c1),ix_t (Vg (by lia) (by lia))]
   exact hk _ _ ⟨rfl,by rw[R,I,Oc];rfl⟩
  ·rw[if_neg c1]at I;rw[if_neg (by rw[decide_eq_false c1];decide)]
   simp! only[ix_t (Vg (show(0:Int)<=i by omega) (show(i:Int)<B.length by omega))]
   exact⟨by lia,hk _ _ ⟨rfl,by rw[R,I,Oc];rfl⟩⟩
def law_ir   a (ns:List Int)(hl:ns.length<=63):db T 300 Wv [.loc a] (G0 a ns) (λu _=>u=.bl ma) λ_ _=>False:=by
 refine⟨rfl,?_⟩;simp! only[FA,nc,Kb];refine fP (k:=298) (show G0 a ns a=la (.fro (ns.map .int))from if_pos rfl) hl λf c G1 f1=>?_;simp! only[BC];refine⟨by decide,by decide,?_⟩
 refine Ze (λi q F=>(∃o2 o3 o4 o5 o6 o7:Option U,q=[la (.loc a),la (.loc f),o2,o3,o4,o5,o6,o7])/\Fd F f c) ?_ ?_ ⟨⟨_,_,_,_,_,_,rfl⟩,f1⟩
 ·rintro q G3 ⟨⟨o2,o3,o4,o5,o6,o7,rfl⟩,f3⟩;refine⟨trivial,?_⟩;simp! only[]
 ·rintro i x q G3 K hx ⟨⟨o2,o3,o4,o5,o6,o7,rfl⟩,f3⟩ hk;obtain⟨hi,rfl⟩:=Xf hx;refine⟨trivial,?_⟩;simp! only[VE];refine CU (k:=294) f3 λxs ss P G4 w0 Z J Y pw nm _ sl so f4 s4=>?_;simp! only[];refine⟨trivial,?_⟩;simp! only[WE];refine Vc f4 (by decide) (by decide) λr G5 a5 b5 f5 s5=>?_
  simp! only[];by_cases hr:r=0
  ·rw[if_pos (by simpa using hr)]
   simp! only[Jb,ix_t (Td _ _),Ua];refine iP (k:=295) f5 J (by lia) (show 0<xs.length by lia) Z (by decide) (by decide) λza xa G6 R I z y f6 s6=>?_
   exact VC (k:=218) f6 ⟨by lia,by lia,I,z,by rw[R];exact y,J,Y,by rw[R];exact pw⟩ λq F j O=>hk _ _ ⟨j,O⟩
  ·rw[if_neg (by simpa using hr)]
   exact VC (k:=218) f5 ⟨by lia,Z,nm,sl,λs hs=>(so s hs).ok,J,Y,pw⟩ λq F j O=>hk _ _ ⟨j,O⟩

def sts  : List Pa:=[s_top_of,s_window_of,s_windows_of,s_with_window,s_ends_of,s_entry_sums,s_sums_of,s_ring_bars,s_entries_to,s_forest_from,s_path_to_root,s_closing_ring,s_closing_rings,s_beats_along,s_parts_of,s_staying,s_size_of,s_refuse_great,s_first_void,s_first_wide,s_halved,s_seek,s_times_or_none_with,s_law_feed,s_law_draw,s_law_names,s_law_number,s_law_span,s_law_fitting,s_law_plan,s_law_tight,s_law_beats,s_law_end,s_law_lacks,s_law_parts,s_law_all,s_law_windows,s_law_whole,s_law_ends,s_law_is_ring,s_law_sums,s_law_bars,s_law_wrong,s_law_small,s_law_far,s_law_some_plan,s_law_stays,s_law_some_stays,s_law_all_with,s_law_depth,s_law_right,s_law]
def prog_rep  : zi T 0 T.funs sts=ma:=by decide +kernel
def prog_eq  : fj T sts 0 T.funs sts:=⟨rfl,rfl,rfl,rfl,rfl,rfl,rfl,rfl,rfl,rfl,rfl,rfl,rfl,rfl,rfl,rfl,rfl,rfl,rfl,rfl,rfl,rfl,rfl,rfl,rfl,rfl,rfl,rfl,rfl,rfl,rfl,rfl,rfl,rfl,rfl,rfl,rfl,rfl,rfl,rfl,rfl,rfl,rfl,rfl,rfl,rfl,rfl,rfl,rfl,rfl,rfl,rfl,trivial⟩
def tabsU  : ∀t∈tabs,∀t'∈tabs,t.1=t'.1->t=t':=λt h=>(nomatch (show t∈[]from h))
noncomputable def tbs  : List (Str×Ca×Ca):=[]
def walk  {l:Dz}{K:Vb->Lb}(hn:l.most=la 63)(y:d.params.defaults=[])
  (R:∀(w:Cb) (h:Xa),YP w h->(K w.params).In h) (Z:∀w:Cb,((K w.params).all λp=>p.2.cls != .type "list")=ma) (j:∀w:Cb,∃o,(K w.params).lookup jf=la o/\o.cls=.type "dict")
  (hT:∀(w:Cb),∀t∈tbs,(∃Y,(PyProof.Rows.recsOf q).find? (λe=>e.name==t.1)=la Y)/\PySem.W.tabIn (K w.params) t.1=la (t.2.1,t.2.2)/\(K w.params).lookup t.2.2=Aa)
  (F:∀(w:Cb) mg fa (h:Xa),(K w.params).In h->h.Ns Ue mg->mg d.name=la (.ref fa)->
   ∃I ,(∀(s:Ia) u ,Lg s I ⟨[u],[]⟩ [("_law_script",u)])/\∀base ,(K w.params).In base->base.Ns Ue mg->BmAt mg base->FnOk l.prog w (K w.params) mg base (Uf l.prog w) 302 fa I ["_law_script"] (Vh (K w.params) (db T 300 Wv))) :
  RH q loose XP YP l.row.toRowW d [] (λf vs=>Cy f vs):=
 L2.walk_ofT (n:=63) (k:=302) (x := "_law_script") (CX:=λw=>Uf l.prog w) (sp:=λw=>Vh (K w.params) (db T 300 Wv)) Z hT hn (by decide) y ⟨rfl,by decide,by decide,rfl⟩ R j F (λw _ _ a J O hO hS=>law_sp (by decide) hO hS (law_ir a J O)) λ_ _ _ _ _ ⟨_,_,_,_,_,_,_,_,_,_,z⟩=>z
end Z
namespace Y
open PySem L2
set_option maxHeartbeats 0
noncomputable def q0  : Str := "/claim/cut.py"
noncomputable def q1  : Str := "<module>"
noncomputable def q2  : Str := "__main__"
noncomputable def q3  : Str := "closing_rings"
noncomputable def q4  : Str := "windows_of"
noncomputable def q5  : Str := "parts_of"
noncomputable def q6  : Str := "beatplans.joining"
noncomputable def q7  : Str := "ends_of"
noncomputable def q8  : Str := "beatplans.rings"
noncomputable def q9  : Str := "forest_from"
noncomputable def Jk  : Str := "beats_along"
noncomputable def Ik  : Str := "with_window"
noncomputable def Hk  : Str := "entries_to"
noncomputable def Gn  : Str := "__init__"
noncomputable def Fv  : Str := "TooMany.__init__"
noncomputable def Gk  : Str := "path_to_root"
noncomputable def gh  : Str := "beatplans.forests"
noncomputable def Bq  : Str := "__module__"
noncomputable def Fk  : Str := "beatplans.errors"
noncomputable def Aq  : Str := "__firstlineno__"
noncomputable def zq  : Str := "__static_attributes__"
noncomputable def AA  : Str := "__weakref__"
noncomputable def Ev  : Str := "__doc__"
noncomputable def Ah  : Str := "plan"
noncomputable def Fn  : Str := "forest"
noncomputable def yq  : Str := "work"
noncomputable def wK  : Str := "path"
noncomputable def Ek  : Str := "top_of"
noncomputable def vK  : Str := "parts"
noncomputable def uK  : Str := "placed"
noncomputable def tK  : Str := "part"
noncomputable def zA  : Str := "entry"
noncomputable def fh  : Str := "s"
noncomputable def Cn  : Str := "way"
noncomputable def Ul  : Str := "word"
noncomputable def Dv  : Str := "one"
noncomputable def Cv  : Str := "other"
noncomputable def xq  : Str := "low"
noncomputable def Bv  : Str := "high"
noncomputable def Dk  : Str := "sums_of"
noncomputable def Ck  : Str := "closing_ring"
noncomputable def Bk  : Str := "window_of"
noncomputable def Av  : Str := "__name__"
noncomputable def dg  : Str := "beatplans.finding"
noncomputable def sK  : Str := "__package__"
noncomputable def rK  : Str := "__loader__"
noncomputable def qK  : Str := "__spec__"
noncomputable def pK  : Str := "__annotations__"
noncomputable def oK  : Str := "__builtins__"
noncomputable def nK  : Str := "__file__"
noncomputable def mK  : Str := "__cached__"
noncomputable def Ak  : Str := "PlanError"
noncomputable def zk  : Str := "TooMany"
noncomputable def yk  : Str := "entry_sums"
noncomputable def xk  : Str := "ring_bars"
noncomputable def lK  : Str := "MOST_SIZE"
noncomputable def Xi  : Str := "beatplans.plans"
noncomputable def Tl  : Str := "period"
noncomputable def xA  : Str := "__qualname__"
noncomputable def yv  : Str := "found"
noncomputable def kK  : Str := "self"
noncomputable def wq  : Str := "beats"
noncomputable def jK  : Str := "lengths"
noncomputable def iK  : Str := "nearer"
noncomputable def vk  : Str := "windows"
noncomputable def fK  : Str := "window"
noncomputable def eK  : Str := "roots"
noncomputable def cK  : Str := "reached"
noncomputable def bK  : Str := "at"
noncomputable def aK  : Str := "start"
noncomputable def ZJ  : Str := "apart"
noncomputable def Bn  : Str := "least"
noncomputable def An  : Str := "most"
noncomputable def wA  : Str := "ring"
noncomputable def uk  : Str := "_law_end"
noncomputable def ic  : Str := "law_beatplans_k19_found_with_stays"
noncomputable def qk  : Str := "times_or_none_with"
noncomputable def pk  : Str := "_law_ends"
noncomputable def nk  : Str := "refuse_great"
noncomputable def jk  : Str := "_law_all"
noncomputable def ik  : Str := "_law_some_plan"
noncomputable def gk  : Str := "_law_draw"
noncomputable def fk  : Str := "_law_far"
noncomputable def ck  : Str := "_law_feed"
noncomputable def ak  : Str := "first_void"
noncomputable def Zj  : Str := "_law_fitting"
noncomputable def Yj  : Str := "size_of"
noncomputable def Xj  : Str := "_law_feed_here"
noncomputable def Sh  : Str := "_law_cycle"
noncomputable def vq  : Str := "_law_plan_here"
noncomputable def uq  : Str := "_law_beats_here"
noncomputable def YJ  : Str := "_law_stays_here"
noncomputable def vA  : Str := "_law_thing"
noncomputable def XJ  : Str := "_law_line"
noncomputable def WJ  : Str := "_law_at"
noncomputable def VJ  : Str := "_law_node"
noncomputable def uA  : Str := "_law_windows_here"
noncomputable def sA  : Str := "_law_s"
noncomputable def UJ  : Str := "_law_cut"
noncomputable def wv  : Str := "_law_least"
noncomputable def q100  : Str := "_law_most"
noncomputable def q101  : Str := "_law_beats"
noncomputable def q102  : Str := "_law_windows"
noncomputable def q103  : Str := "staying"
noncomputable def q104  : Str := "_law_stays"
noncomputable def q105  : Str := "_law_names"
noncomputable def q106  : Str := "_law_bars"
noncomputable def q107  : Str := "halved"
noncomputable def q108  : Str := "_law_tight"
noncomputable def q109  : Str := "_law_parts"
noncomputable def q110  : Str := "_law_many"
noncomputable def q111  : Str := "_law_cell"
noncomputable def q112  : Str := "_law_mixed"
noncomputable def q113  : Str := "_law_found"
noncomputable def q114  : Str := "_law_sums"
noncomputable def q115  : Str := "_law_whole"
noncomputable def q116  : Str := "_law_number"
noncomputable def q117  : Str := "_law_wrong"
noncomputable def q118  : Str := "seek"
noncomputable def q119  : Str := "_law_span_here"
noncomputable def q120  : Str := "_law_top"
noncomputable def q121  : Str := "first_wide"
noncomputable def q122  : Str := "_law_span"
noncomputable def q123  : Str := "_law_plan"
noncomputable def q124  : Str := "_law_lacks"
noncomputable def q125  : Str := "_law_is_ring"
noncomputable def q126  : Str := "_law_small"
noncomputable def q127  : Str := "cut"
noncomputable def q128  : Str := "_law_ring"
noncomputable def q129  : Str := "_law_entry"
noncomputable def q130  : Str := "_law_spans"
noncomputable def q131  : Str := "_law_word"
noncomputable def q132  : Str := "_law_one"
noncomputable def q133  : Str := "_law_other"
noncomputable def q134  : Str := "_law_low"
noncomputable def q135  : Str := "_law_high"
noncomputable def q136  : Str := "_law_by"
noncomputable def q137  : Str := "_law_gap"
noncomputable def q138  : Str := "_law_length"
noncomputable def q139  : Str := "_law_sums_here"
noncomputable def q140  : Str := "_law_first"
noncomputable def q141  : Str := "_law_last"
noncomputable def q142  : Str := "rings"
noncomputable def q143  : Str := "sides"
noncomputable def q144  : Str := "cases"
noncomputable def q145  : Str := "side"
noncomputable def q146  : Str := "_law_script"
noncomputable def q147  : Str := "_law_works"
noncomputable def q148  : Str := "stays"
noncomputable def q149  : Str := "_law_wide"
noncomputable def q150  : Str := "_law_all_with"
noncomputable def q151  : Str := "_law_right"
noncomputable def q152  : Str := "_law_depth"
noncomputable def q153  : Str := "_law_some_stays"
noncomputable def q154  : Str := "law"
noncomputable def h0  : List Da:=[]
def o0  : Obj:=sO .none h0
def o1  : Obj:=kO q0 q1 q1 182 1 0 0 11 ua .none .none .none 185
def o2  : Obj:=rO [(la (.ref 13)),(la (.ref 3)),(la (.ref 3)),Aa,(la (.str q2 164)),Aa,(la (.ref 0))]
def o3  : Obj:=gO q3 q3 (Z.Ma 18)
def o4  : Obj:=gO q4 q4 (Z.Ma 6)
def o5  : Obj:=fO q5 q5 (Z.Ma 21) (.str q6 392) 142
def o6  : Obj:=fO q7 q7 (Z.Ma 9) (.str q8 273) 78
def o7  : Obj:=kO q0 q9 q9 340 48 2 3 106 ma (.ref 108) (.ref 109) (.ref 110) 351
def o8  : Obj:=tO [(.type "ValueError")]
def o9  : Obj:=kO q0 Jk Jk 376 78 5 3 130 ma (.ref 132) (.ref 133) (.ref 134) 389
def eg  : Obj:=kO q0 Ik Ik 264 17 3 3 66 ma (.ref 68) (.ref 69) (.ref 70) 270
def Bh  : Obj:=gO Hk Hk (Z.Ma 14)
def o12  : Obj:=gO Gn Fv (qC (Z.Ma 2) 0)
def o13  : Obj:=fO Gk Gk (Z.Ma 16) (.str gh 323) 118
def Vr  (P:Vb):Obj:=dO (dE P Bq 196 (.str Fk 187)::dE P Aq 200 (.int 2 199)::dE P zq 201 (.ref 22)::dE P AA 203 (.ref 25)::dE P Ev 204 .none::[]) 3
def Ur  : Obj:=tO [(.str Ah 357),(.str Fn 358),(.str yq 359),(.str wK 360)]
def Tr  : Obj:=gO Ek Ek (Z.Ma 4)
def Sr  : Obj:=tO [(.str Ah 397),(.str vK 398),(.str uK 399),(.str yq 400),(.str tK 401)]
def Rr  : Obj:=tO [(.str Ah 278),(.str zA 279),(.str fh 280),(.str Cn 281),(.str Ul 282),(.str Dv 283),(.str Cv 284),(.str xq 285),(.str Bv 286)]
def Qr  (P:Vb):Obj:=dO (dE P Bq 214 (.str Fk 187)::dE P Aq 218 (.int 4 217)::dE P Gn 226 (.ref 41)::dE P zq 228 (.ref 42)::dE P Ev 229 .none::[]) 2
def yo  : Obj:=fO Dk Dk (Z.Ma 11) (.str q8 273) 90
def xo  : Obj:=kO q0 Ck Ck 364 65 3 3 120 ma .none .none (.ref 122) 367
def wo  : Obj:=kO q0 Bk Bk 248 12 3 3 54 ma (.ref 56) (.ref 57) (.ref 58) 255
def Pr  : Obj:=sO (.type "builtin_function_or_method") [(.builtin "object.__init_subclass__"),(.ref 24)]
def IH  (P:Vb):List vj:=dE P Ev 166 .none::dE P sK 167 .none::dE P rK 168 (.builtin "__main__.__loader__#opaque")::dE P qK 169 .none::dE P pK 170 (.ref 6)::dE P oK 171 (.ref 4)::dE P nK 173 (.str q0 172)::dE P mK 174 .none::dE P Ak 206 (.ref 24)::dE P zk 231 (.ref 44)::dE P Ek 247 (.ref 53)::dE P Bk 257 (.ref 60)::dE P q4 263 (.ref 65)::dE P Ik 272 (.ref 72)::dE P q7 289 (.ref 79)::dE P yk 303 (.ref 86)::dE P Dk 309 (.ref 91)::dE P xk 322 (.ref 98)::dE P Hk 339 (.ref 105)::dE P q9 353 (.ref 112)::dE P Gk 363 (.ref 119)::dE P Ck 369 (.ref 124)::dE P q3 375 (.ref 129)::dE P Jk 391 (.ref 136)::dE P q5 404 (.ref 143)::dE P lK 408 (.int 300 407)::[]
def BK  (P:Vb):Obj:=dO (dE P Av 165 (.str dg 405)::IH P) 27
def vo  : Obj:=fO q3 q3 (Z.Ma 18) (.str gh 323) 128
def uo  : Obj:=fO q4 q4 (Z.Ma 6) (.str Xi 232) 64
def qo  : Obj:=kO q0 xk xk 310 36 5 3 92 ma (.ref 94) (.ref 95) (.ref 96) 320
def Nr  : Obj:=kO q0 zk zk 209 4 0 0 31 ua .none .none .none 212
def Mr  : Obj:=tO [(.str Ah 237),(.str Tl 238),(.str fh 239),(.str Ul 240),(.str Dv 241),(.str Cv 242),(.str xq 243),(.str Bv 244)]
def Lr  (P:Vb):Obj:=dO (dE P Bq 196 (.str Fk 187)::dE P xA 198 (.str Ak 197)::dE P Aq 200 (.int 2 199)::dE P zq 201 (.ref 22)::[]) 4
def oo  : Obj:=fO Hk Hk (Z.Ma 14) (.str gh 323) 104
def Kr  : Obj:=fO Gn Fv (qC (Z.Ma 2) 0) (.str Fk 187) 40
def Jr  : Obj:=gO Dk Dk (Z.Ma 11)
def Ir  : Obj:=sO (.type "getset_descriptor") [(.str AA 202),(.ref 24),(.builtin "ExceptionGroup.__weakref__"),.none]
def Hr  : Obj:=tO [(.str Ah 328),(.str yq 329),(.str yv 330),(.str fh 331),(.str Ul 332),(.str Dv 333),(.str Cv 334),(.str xq 335),(.str Bv 336)]
def Gr  : Obj:=tO [(.str kK 222),(.str Ul 223)]
def jo  : Obj:=kO q0 yk yk 290 26 3 3 80 ma (.ref 82) (.ref 83) (.ref 84) 301
def Er  : Obj:=gO Gk Gk (Z.Ma 16)
def io  : Obj:=fO Ek Ek (Z.Ma 4) (.str Xi 232) 52
def Dr  : Obj:=rO [(la (.ref 20)),(la (.ref 3)),(la (.ref 17)),Aa,(la (.str Fk 187)),Aa,(la (.ref 0))]
def Cr  : Obj:=gO q5 q5 (Z.Ma 21)
def Br  : Obj:=gO q7 q7 (Z.Ma 9)
def Ar  : Obj:=sO (.type "super") [(.ref 44),(.ref 44),(.ref 44)]
def Yi  : Obj:=sO (.type "builtin_function_or_method") [(.builtin "type.__prepare__"),(.type "type")]
def fo  : Obj:=kO q0 q3 q3 370 74 3 3 125 ma .none .none (.ref 127) 373
def ao  : Obj:=kO q0 q4 q4 258 15 2 3 61 ma .none .none (.ref 63) 261
def zr  : Obj:=gO xk xk (Z.Ma 12)
def yr  : Obj:=sO .none [(.int 6 0),(.int 4 0),(.ref 40)]
def Zn  : Obj:=fO q9 q9 (Z.Ma 15) (.str gh 323) 111
def Yn  : Obj:=fO Jk Jk (Z.Ma 19) (.str gh 323) 135
def Xn  : Obj:=fO Ik Ik (Z.Ma 7) (.str Xi 232) 71
def Vn  : Obj:=kO q0 Hk Hk 325 40 2 3 99 ma (.ref 101) (.ref 102) (.ref 103) 337
def xr  : Obj:=kO q0 Gn Fv 219 6 2 3 35 ma (.ref 37) (.ref 38) (.ref 39) 224
def ur  : Obj:=tO [(.str Ah 251),(.str Tl 252),(.str fh 253),(.str xq 254)]
def qr  : Obj:=cO Ak [(.type "ValueError")] [(.ref 24),(.type "ValueError"),(.type "Exception"),(.type "BaseException"),(.type "object")] 23 [(.ref 44)] [(la (.ref 15)),Aa,(la (.str Ak 189)),(la (.str Ak 197)),(la (.builtin "ValueError.__new__")),(la (.bool ma))]
def mr  : Obj:=tO [(.str Ah 379),(.str Tl 380),(.str wq 381),(.str Fn 382),(.str jK 383),(.str yv 384),(.str yq 385),(.str fh 386),(.str Cn 387),(.str iK 388)]
def lr  : Obj:=tO [(.str vk 267),(.str fh 268),(.str fK 269)]
def kr  : Obj:=gO yk yk (Z.Ma 10)
def Tn  : Obj:=kO q0 Ek Ek 234 9 3 3 47 ma (.ref 49) (.ref 50) (.ref 51) 245
def jr  : Obj:=kO q0 Ak Ak 191 2 0 0 18 ua .none .none .none 194
def br  : Obj:=tO [(.str Ah 343),(.str eK 344),(.str Fn 345),(.str cK 346),(.str bK 347),(.str fh 348),(.str Cn 349),(.str aK 350)]
def Zq  : Obj:=cO zk [(.ref 24)] [(.ref 44),(.ref 24),(.type "ValueError"),(.type "Exception"),(.type "BaseException"),(.type "object")] 43 [] [(la (.ref 28)),Aa,(la (.str zk 207)),(la (.str zk 215)),(la (.builtin "ValueError.__new__")),(la (.bool ma))]
def Sn  : Obj:=fO Ck Ck (Z.Ma 17) (.str gh 323) 123
def Rn  : Obj:=fO Bk Bk (Z.Ma 5) (.str Xi 232) 59
def Yq  : Obj:=tO [(.ref 24)]
def HH  : List Da:=h0++[(.int 2 0),(.int 0 0),(.ref 20),(.int 4 0),(.int 0 0),(.ref 33),(.int 9 0),(.int 0 0),(.ref 52),(.int 12 0),(.int 0 0),(.ref 59),(.int 15 0),(.int 0 0),(.ref 64),(.int 17 0),(.int 0 0),(.ref 71),(.int 20 0),(.int 0 0),(.ref 78),(.int 26 0),(.int 0 0),(.ref 85),(.int 33 0),(.int 0 0),(.ref 90),(.int 36 0),(.int 0 0),(.ref 97),(.int 40 0),(.int 0 0),(.ref 104),(.int 48 0),(.int 0 0),(.ref 111),(.int 59 0),(.int 0 0),(.ref 118),(.int 65 0),(.int 0 0),(.ref 123),(.int 74 0),(.int 0 0),(.ref 128),(.int 78 0),(.int 0 0),(.ref 135),(.int 85 0),(.int 0 0),(.ref 142)]
def AK  : Obj:=sO .none HH
def Qn  : Obj:=fO xk xk (Z.Ma 12) (.str q8 273) 97
def Xq  : Obj:=rO [(la (.ref 33)),(la (.ref 3)),(la (.ref 30)),Aa,(la (.str Fk 187)),Aa,(la (.ref 0))]
def Wq  : Obj:=tO [(.str wq 293),(.str vk 294),(.str zA 295),(.str ZJ 296),(.str fh 297),(.str Cn 298),(.str Bn 299),(.str An 300)]
def Vq  : Obj:=tO [(.str Ul 227)]
def Pn  : Obj:=kO q0 Dk Dk 304 33 5 3 87 ma .none .none (.ref 89) 307
def Uq  : Obj:=gO Ck Ck (Z.Ma 17)
def Tq  : Obj:=gO Bk Bk (Z.Ma 5)
def Sq  : Obj:=sO (.type "super") [(.ref 24),(.ref 24),(.ref 24)]
def Rq  : Obj:=gO Jk Jk (Z.Ma 19)
def Qq  : Obj:=gO Ik Ik (Z.Ma 7)
def On  : Obj:=fO yk yk (Z.Ma 10) (.str q8 273) 85
def Nn  : Obj:=kO q0 Gk Gk 354 59 3 3 113 ma (.ref 115) (.ref 116) (.ref 117) 361
def Mn  : Obj:=kO q0 q5 q5 394 85 1 3 137 ma (.ref 139) (.ref 140) (.ref 141) 402
def Ln  : Obj:=kO q0 q7 q7 275 20 2 3 73 ma (.ref 75) (.ref 76) (.ref 77) 287
def Pq  : Obj:=gO q9 q9 (Z.Ma 15)
def Oq  : Obj:=sO (.type "builtin_function_or_method") [(.builtin "object.__init_subclass__"),(.ref 44)]
def Nq  : Obj:=tO [(.str Ah 313),(.str Tl 314),(.str wq 315),(.str vk 316),(.str wA 317),(.str Bn 318),(.str An 319)]
def Mq  (P:Vb):Obj:=dO (dE P Bq 214 (.str Fk 187)::dE P xA 216 (.str zk 215)::dE P Aq 218 (.int 4 217)::dE P Gn 226 (.ref 41)::dE P zq 228 (.ref 42)::[]) 5
def Kq  : Obj:=fO uk uk (Z.Ma 42) (.str ic 489) 254
def Pv  : Obj:=gO qk qk (Z.Ma 31)
def Ov  : Obj:=gO pk pk (Z.Ma 48)
def Jq  : Obj:=kO q0 nk nk 421 104 3 3 154 ma (.ref 156) (.ref 157) (.ref 158) 427
def Iq  : Obj:=kO q0 jk jk 600 238 2 3 268 ma .none .none (.ref 270) 603
def Hq  : Obj:=kO q0 ik ik 699 328 1 3 330 ma (.ref 332) (.ref 333) (.ref 334) 707
def Gq  : Obj:=fO gk gk (Z.Ma 34) (.str ic 489) 206
def Nv  : Obj:=gO fk fk (Z.Ma 54)
def Fq  : Obj:=kO q0 ck ck 491 152 1 3 194 ma (.ref 196) (.ref 197) (.ref 198) 495
def Dq  : Obj:=fO ak ak (Z.Ma 27) (.str dg 405) 166
def Mv  : Obj:=gO Zj Zj (Z.Ma 38)
def Lv  : Obj:=gO Yj Yj (Z.Ma 25)
def Kv  : Obj:=tO [(.str Xj 518),(.str Sh 519)]
def Jv  : Obj:=tO [(.str vq 658),(.str Sh 659),(.str uq 660),(.str YJ 661),(.str vA 662),(.str XJ 663),(.str WJ 664),(.str VJ 665),(.str uA 666),(.str sA 667),(.str UJ 668),(.str wv 669),(.str q100 670)]
def Cq  : Obj:=kO q0 q101 q101 562 215 3 3 244 ma .none .none (.ref 246) 565
def o100  : Obj:=tO [(.str vk 433),(.str fh 434),(.str Bn 435),(.str An 436)]
def o101  : Obj:=gO q102 q102 (Z.Ma 46)
def o102  : Obj:=kO q0 q103 q103 409 96 2 3 144 ma .none .none (.ref 146) 412
def o103  : Obj:=gO q104 q104 (Z.Ma 56)
def o104  : Obj:=kO q0 q105 q105 509 167 2 3 208 ma .none .none (.ref 210) 512
def o105  : Obj:=kO q0 q106 q106 645 285 2 3 302 ma (.ref 304) (.ref 305) (.ref 306) 652
def o106  : Obj:=gO q107 q107 (Z.Ma 29)
def o107  : Obj:=fO q108 q108 (Z.Ma 40) (.str ic 489) 242
def o108  : Obj:=fO q109 q109 (Z.Ma 44) (.str ic 489) 266
def o109  : Obj:=tO [(.str Xj 501),(.str q110 502),(.str q111 503),(.str q112 504),(.str q113 505)]
def o110  : Obj:=gO q114 q114 (Z.Ma 50)
def o111  : Obj:=kO q0 q115 q115 612 249 3 3 278 ma (.ref 280) (.ref 281) (.ref 282) 618
def o112  : Obj:=fO q116 q116 (Z.Ma 36) (.str ic 489) 218
def o113  : Obj:=fO q117 q117 (Z.Ma 52) (.str ic 489) 314
def o114  : Obj:=kO q0 q118 q118 463 122 6 3 182 ma (.ref 184) (.ref 185) (.ref 186) 480
def o115  : Obj:=tO [(.str Sh 571),(.str q119 572),(.str q120 573)]
def g119  (P:Vb):List vj:=IH P++[dE P q103 414 (.ref 148),dE P Yj 420 (.ref 153),dE P nk 429 (.ref 160),dE P ak 439 (.ref 167),dE P q121 451 (.ref 174),dE P q107 462 (.ref 181),dE P q118 482 (.ref 188),dE P qk 488 (.ref 193),dE P ck 497 (.ref 200),dE P gk 508 (.ref 207),dE P q105 514 (.ref 212),dE P q116 522 (.ref 219),dE P q122 535 (.ref 226),dE P Zj 549 (.ref 233),dE P q123 555 (.ref 238),dE P q108 561 (.ref 243),dE P q101 567 (.ref 248),dE P uk 576 (.ref 255),dE P q124 593 (.ref 262),dE P q109 599 (.ref 267),dE P jk 605 (.ref 272),dE P q102 611 (.ref 277),dE P q115 620 (.ref 284),dE P pk 626 (.ref 289),dE P q125 632 (.ref 294),dE P q114 644 (.ref 301),dE P q106 654 (.ref 308),dE P q117 673 (.ref 315),dE P q126 682 (.ref 322),dE P fk 698 (.ref 329),dE P ik 709 (.ref 336),dE P q104 715 (.ref 341)]
def o116  (P:Vb):Obj:=dO (dE P Av 165 (.str ic 489)::g119 P) 59
def o117  : Obj:=kO q0 q126 q126 674 313 1 3 316 ma (.ref 318) (.ref 319) (.ref 320) 680
def o118  : Obj:=fO qk qk (Z.Ma 31) (.str dg 405) 192
def o119  : Obj:=fO pk pk (Z.Ma 48) (.str ic 489) 288
def o120  : Obj:=kO q0 q122 q122 523 175 3 3 220 ma (.ref 222) (.ref 223) (.ref 224) 533
def o121  : Obj:=tO [(.str vk 455),(.str fh 456),(.str Bn 457),(.str An 458),(.str q127 459)]
def o122  : Obj:=gO q108 q108 (Z.Ma 40)
def o123  : Obj:=gO q109 q109 (Z.Ma 44)
def o124  : Obj:=fO fk fk (Z.Ma 54) (.str ic 489) 328
def o125  : Obj:=tO [(.str uq 636),(.str uA 637),(.str q128 638),(.str wv 639),(.str q100 640),(.str q129 641)]
def o126  : Obj:=fO Zj Zj (Z.Ma 38) (.str ic 489) 232
def o127  : Obj:=fO Yj Yj (Z.Ma 25) (.str dg 405) 152
def o128  : Obj:=gO q116 q116 (Z.Ma 36)
def o129  : Obj:=gO q117 q117 (Z.Ma 52)
def o130  : Obj:=kO q0 q124 q124 577 220 3 3 256 ma (.ref 258) (.ref 259) (.ref 260) 591
def o131  : Obj:=tO [(.str Xj 686),(.str vq 687),(.str Sh 688),(.str q130 689),(.str q131 690),(.str q132 691),(.str q133 692),(.str q134 693),(.str q135 694),(.str q136 695)]
def o132  : Obj:=kO q0 q125 q125 627 264 3 3 290 ma .none .none (.ref 292) 630
def o133  : Obj:=gO ak ak (Z.Ma 27)
def o134  : Obj:=tO [(.str Xj 539),(.str uq 540),(.str Sh 541),(.str q132 542),(.str q133 543),(.str q137 544),(.str q134 545),(.str q138 546)]
def o135  : Obj:=fO q102 q102 (Z.Ma 46) (.str ic 489) 276
def o136  : Obj:=fO q104 q104 (Z.Ma 56) (.str ic 489) 340
def o137  : Obj:=fO q107 q107 (Z.Ma 29) (.str dg 405) 180
def o138  : Obj:=gO gk gk (Z.Ma 34)
def o139  : Obj:=fO q114 q114 (Z.Ma 50) (.str ic 489) 300
def o140  : Obj:=kO q0 q121 q121 440 112 2 3 168 ma (.ref 170) (.ref 171) (.ref 172) 449
def o141  : Obj:=kO q0 q123 q123 550 190 4 3 234 ma .none .none (.ref 236) 553
def o142  : Obj:=gO uk uk (Z.Ma 42)
def o143  : Obj:=gO q126 q126 (Z.Ma 53)
def o144  : Obj:=kO q0 qk qk 483 137 4 3 189 ma .none .none (.ref 191) 486
def o145  : Obj:=kO q0 pk pk 621 251 3 3 285 ma .none .none (.ref 287) 624
def o146  : Obj:=fO nk nk (Z.Ma 26) (.str dg 405) 159
def o147  : Obj:=gO q122 q122 (Z.Ma 37)
def o148  : Obj:=fO jk jk (Z.Ma 45) (.str ic 489) 271
def o149  : Obj:=fO ik ik (Z.Ma 55) (.str ic 489) 335
def o150  : Obj:=tO [(.str Sh 648),(.str q139 649),(.str wv 650),(.str q100 651)]
def o151  : Obj:=kO q0 fk fk 683 320 3 3 323 ma (.ref 325) (.ref 326) (.ref 327) 696
def o152  : Obj:=fO ck ck (Z.Ma 33) (.str ic 489) 199
def o153  : Obj:=kO q0 Zj Zj 536 182 3 3 227 ma (.ref 229) (.ref 230) (.ref 231) 547
def o154  : Obj:=tO [(.str vA 615),(.str q140 616),(.str q141 617)]
def o155  : Obj:=kO q0 Yj Yj 415 98 3 3 149 ma .none .none (.ref 151) 418
def o156  : Obj:=tO [(.str Ah 466),(.str Tl 467),(.str wq 468),(.str Fn 469),(.str q142 470),(.str vk 471),(.str wA 472),(.str fh 473),(.str q127 474),(.str q143 475),(.str q144 476),(.str q145 477),(.str Ul 478),(.str yv 479)]
def o157  : Obj:=fO q101 q101 (Z.Ma 41) (.str ic 489) 247
def o158  : Obj:=gO q124 q124 (Z.Ma 43)
def o159  : Obj:=tO [(.str q146 494)]
def o160  : Obj:=gO q125 q125 (Z.Ma 49)
def o161  : Obj:=kO q0 q102 q102 606 247 2 3 273 ma .none .none (.ref 275) 609
def o162  : Obj:=fO q103 q103 (Z.Ma 24) (.str dg 405) 147
def o163  : Obj:=kO q0 q104 q104 710 334 2 3 337 ma .none .none (.ref 339) 713
def o164  : Obj:=fO q105 q105 (Z.Ma 35) (.str ic 489) 211
def o165  : Obj:=fO q106 q106 (Z.Ma 51) (.str ic 489) 307
def o166  : Obj:=kO q0 q107 q107 452 118 2 3 175 ma (.ref 177) (.ref 178) (.ref 179) 460
def o167  : Obj:=tO [(.str Xj 702),(.str q147 703),(.str Sh 704),(.str q100 705),(.str vq 706)]
def o168  : Obj:=kO q0 q114 q114 633 271 3 3 295 ma (.ref 297) (.ref 298) (.ref 299) 642
def o169  : Obj:=gO q121 q121 (Z.Ma 28)
def o170  : Obj:=gO q123 q123 (Z.Ma 39)
def o171  : Obj:=fO q115 q115 (Z.Ma 47) (.str ic 489) 283
def o172  : Obj:=tO [(.str Ah 424),(.str Tl 425),(.str q148 426)]
def o173  : Obj:=fO q118 q118 (Z.Ma 30) (.str dg 405) 187
def h178  : List Da:=HH++[(.int 96 0),(.int 0 0),(.ref 147),(.int 98 0),(.int 0 0),(.ref 152),(.int 104 0),(.int 0 0),(.ref 159),(.int 107 0),(.int 0 0),(.ref 166),(.int 112 0),(.int 0 0),(.ref 173),(.int 118 0),(.int 0 0),(.ref 180),(.int 122 0),(.int 0 0),(.ref 187),(.int 137 0),(.int 0 0),(.ref 192),(.int 152 0),(.int 0 0),(.ref 199),(.int 154 0),(.int 0 0),(.ref 206),(.int 167 0),(.int 0 0),(.ref 211),(.int 173 0),(.int 0 0),(.ref 218),(.int 175 0),(.int 0 0),(.ref 225),(.int 182 0),(.int 0 0),(.ref 232),(.int 190 0),(.int 0 0),(.ref 237),(.int 201 0),(.int 0 0),(.ref 242),(.int 215 0),(.int 0 0),(.ref 247),(.int 217 0),(.int 0 0),(.ref 254),(.int 220 0),(.int 0 0),(.ref 261),(.int 228 0),(.int 0 0),(.ref 266),(.int 238 0),(.int 0 0),(.ref 271),(.int 247 0),(.int 0 0),(.ref 276),(.int 249 0),(.int 0 0),(.ref 283),(.int 251 0),(.int 0 0),(.ref 288),(.int 264 0),(.int 0 0),(.ref 293),(.int 271 0),(.int 0 0),(.ref 300),(.int 285 0),(.int 0 0),(.ref 307),(.int 288 0),(.int 0 0),(.ref 314),(.int 313 0),(.int 0 0),(.ref 321),(.int 320 0),(.int 0 0),(.ref 328),(.int 328 0),(.int 0 0),(.ref 335),(.int 334 0),(.int 0 0),(.ref 340)]
def o174  : Obj:=sO .none h178
def o175  : Obj:=tO [(.str vq 580),(.str Sh 581),(.str uq 582),(.str q113 583),(.str sA 584),(.str q131 585),(.str q132 586),(.str q133 587),(.str q134 588),(.str q135 589),(.str q137 590)]
def o176  : Obj:=fO q126 q126 (Z.Ma 53) (.str ic 489) 321
def o177  : Obj:=fO q122 q122 (Z.Ma 37) (.str ic 489) 225
def o178  : Obj:=gO q103 q103 (Z.Ma 24)
def o179  : Obj:=gO q105 q105 (Z.Ma 35)
def o180  : Obj:=gO q106 q106 (Z.Ma 51)
def o181  : Obj:=kO q0 q108 q108 556 201 4 3 239 ma .none .none (.ref 241) 559
def o182  : Obj:=kO q0 q109 q109 594 228 1 3 263 ma .none .none (.ref 265) 597
def o183  : Obj:=tO [(.str Fn 443),(.str vk 444),(.str fh 445),(.str Cn 446),(.str Bn 447),(.str An 448)]
def o184  : Obj:=gO q115 q115 (Z.Ma 47)
def o185  : Obj:=kO q0 q116 q116 515 173 2 3 213 ma (.ref 215) (.ref 216) (.ref 217) 520
def o186  : Obj:=kO q0 q117 q117 655 288 5 3 309 ma (.ref 311) (.ref 312) (.ref 313) 671
def o187  : Obj:=gO q118 q118 (Z.Ma 30)
def o188  : Obj:=fO q124 q124 (Z.Ma 43) (.str ic 489) 261
def o189  : Obj:=gO ck ck (Z.Ma 33)
def o190  : Obj:=fO q125 q125 (Z.Ma 49) (.str ic 489) 293
def o191  : Obj:=kO q0 ak ak 430 107 1 3 161 ma (.ref 163) (.ref 164) (.ref 165) 437
def o192  : Obj:=gO q101 q101 (Z.Ma 41)
def o193  : Obj:=gO jk jk (Z.Ma 45)
def o194  : Obj:=gO ik ik (Z.Ma 55)
def o195  : Obj:=kO q0 gk gk 498 154 2 3 201 ma (.ref 203) (.ref 204) (.ref 205) 506
def o196  : Obj:=fO q121 q121 (Z.Ma 28) (.str dg 405) 173
def o197  : Obj:=fO q123 q123 (Z.Ma 39) (.str ic 489) 237
def o198  : Obj:=gO nk nk (Z.Ma 26)
def o199  : Obj:=tO [(.str Xj 526),(.str q147 527),(.str Sh 528),(.str q132 529),(.str q133 530),(.str q134 531),(.str q149 532)]
def o200  : Obj:=tO [(.str Xj 677),(.str q147 678),(.str Sh 679)]
def o201  : Obj:=kO q0 uk uk 568 217 2 3 249 ma (.ref 251) (.ref 252) (.ref 253) 574
def o202  : Obj:=fO q150 q150 (Z.Ma 58) (.str ic 489) 350
def o203  : Obj:=gO q151 q151 (Z.Ma 60)
def o204  : Obj:=kO q0 q152 q152 728 357 1 3 352 ma .none .none (.ref 354) 731
def g210  (P:Vb):List vj:=g119 P++[dE P q153 721 (.ref 346),dE P q150 727 (.ref 351),dE P q152 733 (.ref 356),dE P q151 739 (.ref 361),dE P q154 745 (.ref 366)]
def o205  (P:Vb):Obj:=dO (dE P Av 165 (.str ic 489)::g210 P) 64
def o206  : Obj:=fO q151 q151 (Z.Ma 60) (.str ic 489) 360
def o207  : Obj:=kO q0 q153 q153 716 337 3 3 342 ma .none .none (.ref 344) 719
def o208  : Obj:=kO q0 q154 q154 740 383 1 3 362 ma .none .none (.ref 364) 743
def o209  : Obj:=gO q150 q150 (Z.Ma 58)
def o210  : Obj:=kO q0 q151 q151 734 366 4 3 357 ma .none .none (.ref 359) 737
def o211  : Obj:=gO q153 q153 (Z.Ma 57)
def o212  : Obj:=fO q152 q152 (Z.Ma 59) (.str ic 489) 355
def o213  : Obj:=gO q154 q154 (Z.Ma 61)
def h220  : List Da:=h178++[(.int 337 0),(.int 0 0),(.ref 345),(.int 347 0),(.int 0 0),(.ref 350),(.int 357 0),(.int 0 0),(.ref 355),(.int 366 0),(.int 0 0),(.ref 360),(.int 383 0),(.int 0 0),(.ref 365)]
def o214  : Obj:=sO .none h220
def o215  : Obj:=gO q152 q152 (Z.Ma 59)
def o216  : Obj:=fO q153 q153 (Z.Ma 57) (.str ic 489) 345
def o217  : Obj:=fO q154 q154 (Z.Ma 61) (.str ic 489) 365
def o218  : Obj:=kO q0 q150 q150 722 347 4 3 347 ma .none .none (.ref 349) 725
def Ha  (P:Vb):Xa:=⟨⟨Qm P::Fl P::Rm P::aI P::Fm P::Gm P::Hm P::Im P::Jm P::Km P::Om P::tE::o0::o1::o2::[]⟩,{}⟩
def t0  (P:Vb):Fi:=(bN (Qm P) (bN (Fl P) (bN (aI P) (bL (Im P)) (bL tE)) (bN (Gm P) (bL (Km P)) (bL o1))) (bN (Rm P) (bN (Fm P) (bL (Jm P)) (bL o0)) (bN (Hm P) (bL (Om P)) (bL o2))))
def t1  (P:Vb):Fi:=(bN (Qm P) (bN (Fl P) (bN (BK P) (bN (Im P) (bN o8 (bN tE (bN o4 (bL o3) bE) (bL tE)) (bN tE (bN o6 (bL o5) bE) (bL o7))) (bN (Vr P) (bN o12 (bN eg (bL o9) bE) (bL Bh)) (bN nO (bL tE) (bL o13)))) (bN tE (bN nO (bN tE (bN nO (bL nO) bE) (bL tE)) (bN Tr (bL tE) (bL Ur))) (bN Pr (bN (Qr P) (bN Rr (bL Sr) bE) (bL nO)) (bN wo (bL yo) (bL xo))))) (bN (Gm P) (bN (Km P) (bN (Lr P) (bN Nr (bN uo (bL vo) bE) (bL qo)) (bN Mr (bL nO) (bL tE))) (bN Ir (bN Kr (bN tE (bL tE) bE) (bL oo)) (bN tE (bL Jr) (bL nO)))) (bN o1 (bN Dr (bN Gr (bN tE (bL tE) bE) (bL Hr)) (bN io (bL jo) (bL Er))) (bN Yi (bN Ar (bN Br (bL Cr) bE) (bL tE)) (bN tE (bL nO) (bL tE)))))) (bN (Rm P) (bN (Fm P) (bN (Jm P) (bN Yi (bN yr (bN ao (bL fo) bE) (bL zr)) (bN nO (bL tE) (bL Zn))) (bN qr (bN xr (bN Xn (bL Yn) bE) (bL Vn)) (bN ur (bL nO) (bL tE)))) (bN AK (bN jr (bN nO (bN lr (bL mr) bE) (bL nO)) (bN Tn (bL kr) (bL tE))) (bN Yq (bN Zq (bN tE (bL tE) bE) (bL br)) (bN Rn (bL tE) (bL Sn))))) (bN (Hm P) (bN (Om P) (bN tE (bN Xq (bN tE (bL tE) bE) (bL Qn)) (bN tE (bL Wq) (bL nO))) (bN Sq (bN Vq (bN nO (bL nO) bE) (bL tE)) (bN Tq (bL Pn) (bL Uq)))) (bN o2 (bN tE (bN tE (bN Qq (bL Rq) bE) (bL tE)) (bN tE (bL On) (bL Nn))) (bN (Mq P) (bN Oq (bN Ln (bL Mn) bE) (bL Pq)) (bN nO (bL Nq) (bL nO)))))))
def t2  (P:Vb):Fi:=(bN (Qm P) (bN (Fl P) (bN (o116 P) (bN (Im P) (bN o8 (bN tE (bN o4 (bN o3 (bL Kq) bE) (bN Pv (bL tE) bE)) (bN tE (bN Jq (bL Ov) bE) (bL tE))) (bN tE (bN o6 (bN o5 (bL Iq) bE) (bN Gq (bL Hq) bE)) (bN o7 (bN tE (bL nO) bE) (bL tE)))) (bN (Vr P) (bN o12 (bN eg (bN o9 (bL tE) bE) (bN Fq (bL Nv) bE)) (bN Bh (bN Dq (bL tE) bE) (bL Mv))) (bN nO (bN tE (bN Lv (bL nO) bE) (bL Kv)) (bN o13 (bN nO (bL Jv) bE) (bL Cq))))) (bN tE (bN nO (bN tE (bN nO (bN nO (bL tE) bE) (bN nO (bL tE) bE)) (bN tE (bN o100 (bL nO) bE) (bL tE))) (bN Tr (bN tE (bN o102 (bL o101) bE) (bN o104 (bL o103) bE)) (bN Ur (bN o106 (bL o105) bE) (bL o107)))) (bN Pr (bN (Qr P) (bN Rr (bN Sr (bL o108) bE) (bN o109 (bL nO) bE)) (bN nO (bN tE (bL o110) bE) (bL nO))) (bN wo (bN yo (bN nO (bL o111) bE) (bL o112)) (bN xo (bN o114 (bL o113) bE) (bL o115)))))) (bN (Gm P) (bN (Km P) (bN (Lr P) (bN Nr (bN uo (bN vo (bL nO) bE) (bN o118 (bL o117) bE)) (bN qo (bN tE (bL o119) bE) (bL o120))) (bN Mr (bN nO (bN nO (bL tE) bE) (bN nO (bL tE) bE)) (bN tE (bN o121 (bL tE) bE) (bL o122)))) (bN Ir (bN Kr (bN tE (bN tE (bL o123) bE) (bN tE (bL o124) bE)) (bN oo (bN nO (bL o125) bE) (bL o126))) (bN tE (bN Jr (bN o127 (bL tE) bE) (bL o128)) (bN nO (bN tE (bL o129) bE) (bL tE))))) (bN o1 (bN Dr (bN Gr (bN tE (bN tE (bL o130) bE) (bN tE (bL o131) bE)) (bN Hr (bN o133 (bL o132) bE) (bL o134))) (bN io (bN jo (bN tE (bL o135) bE) (bN tE (bL o136) bE)) (bN Er (bN o137 (bL tE) bE) (bL nO)))) (bN Yi (bN Ar (bN Br (bN Cr (bL nO) bE) (bN o138 (bL tE) bE)) (bN tE (bN o140 (bL o139) bE) (bL o141))) (bN tE (bN nO (bN tE (bL tE) bE) (bL nO)) (bN tE (bN tE (bL nO) bE) (bL o142))))))) (bN (Rm P) (bN (Fm P) (bN (Jm P) (bN Yi (bN yr (bN ao (bN fo (bL tE) bE) (bN o144 (bL o143) bE)) (bN zr (bN o146 (bL o145) bE) (bL o147))) (bN nO (bN tE (bN tE (bL o148) bE) (bN tE (bL o149) bE)) (bN Zn (bN nO (bL o150) bE) (bL nO)))) (bN qr (bN xr (bN Xn (bN Yn (bL nO) bE) (bN o152 (bL o151) bE)) (bN Vn (bN tE (bL nO) bE) (bL o153))) (bN ur (bN nO (bN o155 (bL o154) bE) (bL tE)) (bN tE (bN o156 (bL tE) bE) (bL o157))))) (bN o174 (bN jr (bN nO (bN lr (bN mr (bL o158) bE) (bN o159 (bL nO) bE)) (bN nO (bN tE (bL o160) bE) (bL nO))) (bN Tn (bN kr (bN o162 (bL o161) bE) (bN o164 (bL o163) bE)) (bN tE (bN o166 (bL o165) bE) (bL tE)))) (bN Yq (bN Zq (bN tE (bN tE (bL tE) bE) (bN tE (bL o167) bE)) (bN br (bN o169 (bL o168) bE) (bL o170))) (bN Rn (bN tE (bN o172 (bL o171) bE) (bL tE)) (bN Sn (bN o173 (bL tE) bE) (bL tE)))))) (bN (Hm P) (bN (Om P) (bN tE (bN Xq (bN tE (bN tE (bL o175) bE) (bN tE (bL o176) bE)) (bN Qn (bN nO (bL tE) bE) (bL o177))) (bN tE (bN Wq (bN o178 (bL nO) bE) (bN o179 (bL nO) bE)) (bN nO (bN tE (bL o180) bE) (bL o181)))) (bN Sq (bN Vq (bN nO (bN nO (bL o182) bE) (bN nO (bL tE) bE)) (bN tE (bN o183 (bL tE) bE) (bL tE))) (bN Tq (bN Pn (bN tE (bL o184) bE) (bL o185)) (bN Uq (bN o187 (bL o186) bE) (bL nO))))) (bN o2 (bN tE (bN tE (bN Qq (bN Rq (bL o188) bE) (bN o189 (bL tE) bE)) (bN tE (bN o191 (bL o190) bE) (bL tE))) (bN tE (bN On (bN nO (bL tE) bE) (bL nO)) (bN Nn (bN tE (bL nO) bE) (bL o192)))) (bN (Mq P) (bN Oq (bN Ln (bN Mn (bL o193) bE) (bN o195 (bL o194) bE)) (bN Pq (bN o196 (bL tE) bE) (bL o197))) (bN nO (bN Nq (bN o198 (bL nO) bE) (bL o199)) (bN nO (bN nO (bL o200) bE) (bL o201))))))))
def t3  (P:Vb):Fi:=(bN (Qm P) (bN (Fl P) (bN (o205 P) (bN (Im P) (bN o8 (bN tE (bN o4 (bN o3 (bL Kq) bE) (bN Pv (bL tE) bE)) (bN tE (bN Jq (bL Ov) bE) (bN tE (bL o202) bE))) (bN tE (bN o6 (bN o5 (bL Iq) bE) (bN Gq (bL Hq) bE)) (bN o7 (bN tE (bL nO) bE) (bL tE)))) (bN (Vr P) (bN o12 (bN eg (bN o9 (bL tE) bE) (bN Fq (bL Nv) bE)) (bN Bh (bN Dq (bL tE) bE) (bN Mv (bL o203) bE))) (bN nO (bN tE (bN Lv (bL nO) bE) (bN Kv (bL nO) bE)) (bN o13 (bN nO (bL Jv) bE) (bL Cq))))) (bN tE (bN nO (bN tE (bN nO (bN nO (bL tE) bE) (bN nO (bL tE) bE)) (bN tE (bN o100 (bL nO) bE) (bN tE (bL o204) bE))) (bN Tr (bN tE (bN o102 (bL o101) bE) (bN o104 (bL o103) bE)) (bN Ur (bN o106 (bL o105) bE) (bL o107)))) (bN Pr (bN (Qr P) (bN Rr (bN Sr (bL o108) bE) (bN o109 (bL nO) bE)) (bN nO (bN tE (bL o110) bE) (bN nO (bL nO) bE))) (bN wo (bN yo (bN nO (bL o111) bE) (bN o112 (bL tE) bE)) (bN xo (bN o114 (bL o113) bE) (bL o115)))))) (bN (Gm P) (bN (Km P) (bN (Lr P) (bN Nr (bN uo (bN vo (bL nO) bE) (bN o118 (bL o117) bE)) (bN qo (bN tE (bL o119) bE) (bN o120 (bL nO) bE))) (bN Mr (bN nO (bN nO (bL tE) bE) (bN nO (bL tE) bE)) (bN tE (bN o121 (bL tE) bE) (bL o122)))) (bN Ir (bN Kr (bN tE (bN tE (bL o123) bE) (bN tE (bL o124) bE)) (bN oo (bN nO (bL o125) bE) (bN o126 (bL o206) bE))) (bN tE (bN Jr (bN o127 (bL tE) bE) (bN o128 (bL o207) bE)) (bN nO (bN tE (bL o129) bE) (bL tE))))) (bN o1 (bN Dr (bN Gr (bN tE (bN tE (bL o130) bE) (bN tE (bL o131) bE)) (bN Hr (bN o133 (bL o132) bE) (bN o134 (bL tE) bE))) (bN io (bN jo (bN tE (bL o135) bE) (bN tE (bL o136) bE)) (bN Er (bN o137 (bL tE) bE) (bL nO)))) (bN Yi (bN Ar (bN Br (bN Cr (bL nO) bE) (bN o138 (bL tE) bE)) (bN tE (bN o140 (bL o139) bE) (bN o141 (bL o208) bE))) (bN tE (bN nO (bN tE (bL tE) bE) (bN nO (bL o209) bE)) (bN tE (bN tE (bL nO) bE) (bL o142))))))) (bN (Rm P) (bN (Fm P) (bN (Jm P) (bN Yi (bN yr (bN ao (bN fo (bL tE) bE) (bN o144 (bL o143) bE)) (bN zr (bN o146 (bL o145) bE) (bN o147 (bL tE) bE))) (bN nO (bN tE (bN tE (bL o148) bE) (bN tE (bL o149) bE)) (bN Zn (bN nO (bL o150) bE) (bL nO)))) (bN qr (bN xr (bN Xn (bN Yn (bL nO) bE) (bN o152 (bL o151) bE)) (bN Vn (bN tE (bL nO) bE) (bN o153 (bL o210) bE))) (bN ur (bN nO (bN o155 (bL o154) bE) (bN tE (bL o211) bE)) (bN tE (bN o156 (bL tE) bE) (bL o157))))) (bN o214 (bN jr (bN nO (bN lr (bN mr (bL o158) bE) (bN o159 (bL nO) bE)) (bN nO (bN tE (bL o160) bE) (bN nO (bL o212) bE))) (bN Tn (bN kr (bN o162 (bL o161) bE) (bN o164 (bL o163) bE)) (bN tE (bN o166 (bL o165) bE) (bL tE)))) (bN Yq (bN Zq (bN tE (bN tE (bL tE) bE) (bN tE (bL o167) bE)) (bN br (bN o169 (bL o168) bE) (bN o170 (bL o213) bE))) (bN Rn (bN tE (bN o172 (bL o171) bE) (bN tE (bL nO) bE)) (bN Sn (bN o173 (bL tE) bE) (bL tE)))))) (bN (Hm P) (bN (Om P) (bN tE (bN Xq (bN tE (bN tE (bL o175) bE) (bN tE (bL o176) bE)) (bN Qn (bN nO (bL tE) bE) (bN o177 (bL o215) bE))) (bN tE (bN Wq (bN o178 (bL nO) bE) (bN o179 (bL nO) bE)) (bN nO (bN tE (bL o180) bE) (bL o181)))) (bN Sq (bN Vq (bN nO (bN nO (bL o182) bE) (bN nO (bL tE) bE)) (bN tE (bN o183 (bL tE) bE) (bN tE (bL tE) bE))) (bN Tq (bN Pn (bN tE (bL o184) bE) (bN o185 (bL o216) bE)) (bN Uq (bN o187 (bL o186) bE) (bL nO))))) (bN o2 (bN tE (bN tE (bN Qq (bN Rq (bL o188) bE) (bN o189 (bL tE) bE)) (bN tE (bN o191 (bL o190) bE) (bN tE (bL nO) bE))) (bN tE (bN On (bN nO (bL tE) bE) (bN nO (bL tE) bE)) (bN Nn (bN tE (bL nO) bE) (bL o192)))) (bN (Mq P) (bN Oq (bN Ln (bN Mn (bL o193) bE) (bN o195 (bL o194) bE)) (bN Pq (bN o196 (bL tE) bE) (bN o197 (bL o217) bE))) (bN nO (bN Nq (bN o198 (bL nO) bE) (bN o199 (bL o218) bE)) (bN nO (bN nO (bL o200) bE) (bL o201))))))))
def Hz  (P:Vb):Xa:=⟨⟨Qm P::Fl P::Rm P::o205 P::Fm P::Gm P::Hm P::Im P::Jm P::Km P::Om P::tE::o214::o1::o2::o8::Yi::Lr P::tE::nO::jr::Dr::tE::Vr P::qr::Ir::Sq::Pr::Yq::Yi::Mq P::tE::yr::Nr::Xq::tE::nO::Gr::tE::o12::xr::Kr::Vq::Qr P::Zq::Ar::Oq::tE::nO::Mr::tE::Tr::Tn::io::tE::nO::ur::tE::Tq::wo::Rn::tE::nO::o4::ao::uo::tE::nO::lr::tE::Qq::eg::Xn::tE::nO::Rr::tE::Br::Ln::o6::tE::nO::Wq::tE::kr::jo::On::tE::nO::Jr::Pn::yo::tE::nO::Nq::tE::zr::qo::Qn::tE::nO::Hr::tE::Bh::Vn::oo::tE::nO::br::tE::Pq::o7::Zn::tE::nO::Ur::tE::Er::Nn::o13::tE::nO::Uq::xo::Sn::tE::nO::o3::fo::vo::tE::nO::mr::tE::Rq::o9::Yn::tE::nO::Sr::tE::Cr::Mn::o5::tE::nO::o178::o102::o162::tE::nO::Lv::o155::o127::tE::nO::o172::tE::o198::Jq::o146::tE::nO::o100::tE::o133::o191::Dq::tE::nO::o183::tE::o169::o140::o196::tE::nO::o121::tE::o106::o166::o137::tE::nO::o156::tE::o187::o114::o173::tE::nO::Pv::o144::o118::tE::nO::o159::tE::o189::Fq::o152::tE::nO::o109::tE::o138::o195::Gq::tE::nO::o179::o104::o164::tE::nO::Kv::tE::o128::o185::o112::tE::nO::o199::tE::o147::o120::o177::tE::nO::o134::tE::Mv::o153::o126::tE::nO::o170::o141::o197::tE::nO::o122::o181::o107::tE::nO::o192::Cq::o157::tE::nO::o115::tE::o142::o201::Kq::tE::nO::o175::tE::o158::o130::o188::tE::nO::o123::o182::o108::tE::nO::o193::Iq::o148::tE::nO::o101::o161::o135::tE::nO::o154::tE::o184::o111::o171::tE::nO::Ov::o145::o119::tE::nO::o160::o132::o190::tE::nO::o125::tE::o110::o168::o139::tE::nO::o150::tE::o180::o105::o165::tE::nO::Jv::tE::o129::o186::o113::tE::nO::o200::tE::o143::o117::o176::tE::nO::o131::tE::Nv::o151::o124::tE::nO::o167::tE::o194::Hq::o149::tE::nO::o103::o163::o136::tE::nO::o211::o207::o216::tE::nO::o209::o218::o202::tE::nO::o215::o204::o212::tE::nO::o203::o210::o206::tE::nO::o213::o208::o217::[]⟩,{}⟩
noncomputable def st1  : List Pa:=[Z.Ma 0,Z.Ma 1,Z.Ma 2,Z.Ma 3,Z.Ma 4,Z.Ma 5,Z.Ma 6,Z.Ma 7,Z.Ma 8,Z.Ma 9,Z.Ma 10,Z.Ma 11,Z.Ma 12,Z.Ma 13,Z.Ma 14,Z.Ma 15,Z.Ma 16,Z.Ma 17,Z.Ma 18,Z.Ma 19,Z.Ma 20,Z.Ma 21,Z.Ma 22,Z.Ma 23]
noncomputable def st2  : List Pa:=[Z.Ma 24,Z.Ma 25,Z.Ma 26,Z.Ma 27,Z.Ma 28,Z.Ma 29,Z.Ma 30,Z.Ma 31,Z.Ma 32,Z.Ma 33,Z.Ma 34,Z.Ma 35,Z.Ma 36,Z.Ma 37,Z.Ma 38,Z.Ma 39,Z.Ma 40,Z.Ma 41,Z.Ma 42,Z.Ma 43,Z.Ma 44,Z.Ma 45,Z.Ma 46,Z.Ma 47,Z.Ma 48,Z.Ma 49,Z.Ma 50,Z.Ma 51,Z.Ma 52,Z.Ma 53,Z.Ma 54,Z.Ma 55,Z.Ma 56]
noncomputable def yn  : List Pa:=[Z.Ma 57,Z.Ma 58,Z.Ma 59,Z.Ma 60,Z.Ma 61]
def bd  : List Pa:=st1++(st2++(yn++[]))
noncomputable abbrev pw  : Tb:=PySem.Challenge.pw_beatplans_k19_found_with_stays
def qw  : Tb:={ pw with main:={ pw.main with body:=[Z.Ma 1,Z.Ma 2,Z.Ma 4,Z.Ma 5,Z.Ma 6,Z.Ma 7,Z.Ma 9,Z.Ma 10,Z.Ma 11,Z.Ma 12,Z.Ma 14,Z.Ma 15,Z.Ma 16,Z.Ma 17,Z.Ma 18,Z.Ma 19,Z.Ma 21,Z.Ma 23,Z.Ma 24,Z.Ma 25,Z.Ma 26,Z.Ma 27,Z.Ma 28,Z.Ma 29,Z.Ma 30,Z.Ma 31,Z.Ma 33,Z.Ma 34,Z.Ma 35,Z.Ma 36,Z.Ma 37,Z.Ma 38,Z.Ma 39,Z.Ma 40,Z.Ma 41,Z.Ma 42,Z.Ma 43,Z.Ma 44,Z.Ma 45,Z.Ma 46,Z.Ma 47,Z.Ma 48,Z.Ma 49,Z.Ma 50,Z.Ma 51,Z.Ma 52,Z.Ma 53,Z.Ma 54,Z.Ma 55,Z.Ma 56,Z.Ma 57,Z.Ma 58,Z.Ma 59,Z.Ma 60,Z.Ma 61] } }
def en  : Env:={ scope:=pw.main.scope,locals:=mainNs,globals:=mainNs,cells:=[],code:=.ref 13,frame:=la 14 }
def cE  : Code:=.body bd en
noncomputable abbrev pz  : Pos:=⟨0,0,0,0⟩
abbrev fz  : List Frame:=[PySem.W.topFrame pz]
noncomputable abbrev s0  (w:Cb)(f:li):Ia:=⟨Mm w.params,⟨[]⟩,PySem.W.boot_drawn,PySem.W.boot_toks,f⟩
abbrev sz  (w:Cb)(f:li):Ia:=⟨Hz w.params,⟨[]⟩,{},746,f⟩
noncomputable def sT  (t:Vb->Fi)(n k:Nat)(w:Cb)(f:li):PySem.W.SharedT:=⟨t w.params,n,{},⟨[]⟩,{},k,f⟩
section
variable (w:Cb)(os:li)
def jL  : PySem.W.topGo zj pw w 11 (la (.ref 6)) 12 (s0 w os) (EI pw)=la (⟨Ha w.params,⟨[]⟩,{},187,os⟩,⟨denote zj cE,cE,pz,fz⟩):=by
 rw[PySem.W.Fast.te15667345088766844465,Um,PySem.W.Fast.te11892475500146522536];kernel_rfl
def gL  : PySem.W.segRun zj pw w 11 (la (.ref 6)) 1 1 ⟨Ha w.params,⟨[]⟩,{},187,os⟩ (PySem.W.blockOf bd en cE pz fz)=la (.next,(sT t0 15 187 w os).abs,cE,pz):=by
 rw[PySem.W.Fast.te14374325043358763698,Um];kernel_rfl
def r1  : Fz zj pw w 11 (la (.ref 6)) 1 982 (sT t0 15 187 w os) (dz st1 en cE pz fz)=la (.next,sT t1 144 409 w os,cE,⟨95,0,95,9⟩):=by
 rw[bA,Um];kernel_rfl
def r2  : Fz zj pw w 11 (la (.ref 6)) 1 993 (sT t1 144 409 w os) (dz st2 en cE ⟨95,0,95,9⟩ fz)=la (.next,sT t2 342 716 w os,cE,⟨334,0,336,99⟩):=by
 rw[bA,Um];kernel_rfl
def r3  : Fz zj pw w 11 (la (.ref 6)) 1 131 (sT t2 342 716 w os) (dz yn en cE ⟨334,0,336,99⟩ fz)=la (.next,sT t3 367 746 w os,cE,⟨383,0,395,15⟩):=by
 rw[bA,Um];kernel_rfl
def iL  : qI zj pw w 11 (la (.ref 6)) 2 (sT t3 367 746 w os).abs ⟨PySem.W.doneF .next,cE,⟨383,0,395,15⟩,fz⟩=la (sz w os):=by
 rw[PySem.W.Fast.te14082659384304107361,Um];kernel_rfl
def zM  : qI zj pw w 11 (la (.ref 6)) (12+(1+(982+(993+(131+(2)))))) (s0 w os) (EI pw)=la (sz w os):=
 PySem.W.go_top (jL w os) (PySem.W.piece_block (gL w os) (jz (kz (r1 w os)) (jz (kz (r2 w os)) (jz (kz (r3 w os)) (iL w os)))))
end
def KK  : Vb->Lb:=λP=>((1:Ca),Fl P)::((3:Ca),o205 P)::((52:Ca),Tn)::((53:Ca),io)::((59:Ca),wo)::((60:Ca),Rn)::((64:Ca),ao)::((65:Ca),uo)::((71:Ca),eg)::((72:Ca),Xn)::((78:Ca),Ln)::((79:Ca),o6)::((85:Ca),jo)::((86:Ca),On)::((90:Ca),Pn)::((91:Ca),yo)::((97:Ca),qo)::((98:Ca),Qn)::((104:Ca),Vn)::((105:Ca),oo)::((111:Ca),o7)::((112:Ca),Zn)::((118:Ca),Nn)::((119:Ca),o13)::((123:Ca),xo)::((124:Ca),Sn)::((128:Ca),fo)::((129:Ca),vo)::((135:Ca),o9)::((136:Ca),Yn)::((142:Ca),Mn)::((143:Ca),o5)::((147:Ca),o102)::((148:Ca),o162)::((152:Ca),o155)::((153:Ca),o127)::((159:Ca),Jq)::((160:Ca),o146)::((166:Ca),o191)::((167:Ca),Dq)::((173:Ca),o140)::((174:Ca),o196)::((180:Ca),o166)::((181:Ca),o137)::((187:Ca),o114)::((188:Ca),o173)::((192:Ca),o144)::((193:Ca),o118)::((199:Ca),Fq)::((200:Ca),o152)::((206:Ca),o195)::((207:Ca),Gq)::((211:Ca),o104)::((212:Ca),o164)::((218:Ca),o185)::((219:Ca),o112)::((225:Ca),o120)::((226:Ca),o177)::((232:Ca),o153)::((233:Ca),o126)::((237:Ca),o141)::((238:Ca),o197)::((242:Ca),o181)::((243:Ca),o107)::((247:Ca),Cq)::((248:Ca),o157)::((254:Ca),o201)::((255:Ca),Kq)::((261:Ca),o130)::((262:Ca),o188)::((266:Ca),o182)::((267:Ca),o108)::((271:Ca),Iq)::((272:Ca),o148)::((276:Ca),o161)::((277:Ca),o135)::((283:Ca),o111)::((284:Ca),o171)::((288:Ca),o145)::((289:Ca),o119)::((293:Ca),o132)::((294:Ca),o190)::((300:Ca),o168)::((301:Ca),o139)::((307:Ca),o105)::((308:Ca),o165)::((314:Ca),o186)::((315:Ca),o113)::((321:Ca),o117)::((322:Ca),o176)::((328:Ca),o151)::((329:Ca),o124)::((335:Ca),Hq)::((336:Ca),o149)::((340:Ca),o163)::((341:Ca),o136)::((345:Ca),o207)::((346:Ca),o216)::((350:Ca),o218)::((351:Ca),o202)::((355:Ca),o204)::((356:Ca),o212)::((360:Ca),o210)::((361:Ca),o206)::((365:Ca),o208)::((366:Ca),o217)::[]
noncomputable def KA  : List Ca:=1::3::52::53::59::60::64::65::71::72::78::79::85::86::90::91::97::98::104::105::111::112::118::119::123::124::128::129::135::136::142::143::147::148::152::153::159::160::166::167::173::174::180::181::187::188::192::193::199::200::206::207::211::212::218::219::225::226::232::233::237::238::242::243::247::248::254::255::261::262::266::267::271::272::276::277::283::284::288::289::293::294::300::301::307::308::314::315::321::322::328::329::335::336::340::341::345::346::350::351::355::356::360::361::365::366::[]
def fl  : Z.FL:=(53,52,(.str Xi 232))::(60,59,(.str Xi 232))::(65,64,(.str Xi 232))::(72,71,(.str Xi 232))::(79,78,(.str q8 273))::(86,85,(.str q8 273))::(91,90,(.str q8 273))::(98,97,(.str q8 273))::(105,104,(.str gh 323))::(112,111,(.str gh 323))::(119,118,(.str gh 323))::(124,123,(.str gh 323))::(129,128,(.str gh 323))::(136,135,(.str gh 323))::(143,142,(.str q6 392))::(148,147,(.str dg 405))::(153,152,(.str dg 405))::(160,159,(.str dg 405))::(167,166,(.str dg 405))::(174,173,(.str dg 405))::(181,180,(.str dg 405))::(188,187,(.str dg 405))::(193,192,(.str dg 405))::(200,199,(.str ic 489))::(207,206,(.str ic 489))::(212,211,(.str ic 489))::(219,218,(.str ic 489))::(226,225,(.str ic 489))::(233,232,(.str ic 489))::(238,237,(.str ic 489))::(243,242,(.str ic 489))::(248,247,(.str ic 489))::(255,254,(.str ic 489))::(262,261,(.str ic 489))::(267,266,(.str ic 489))::(272,271,(.str ic 489))::(277,276,(.str ic 489))::(284,283,(.str ic 489))::(289,288,(.str ic 489))::(294,293,(.str ic 489))::(301,300,(.str ic 489))::(308,307,(.str ic 489))::(315,314,(.str ic 489))::(322,321,(.str ic 489))::(329,328,(.str ic 489))::(336,335,(.str ic 489))::(341,340,(.str ic 489))::(346,345,(.str ic 489))::(351,350,(.str ic 489))::(356,355,(.str ic 489))::(361,360,(.str ic 489))::(366,365,(.str ic 489))::[]
def k_dyn   P:Z.dynB Z.T (KK P) 0 fl Z.T.funs Z.sts=ma:=by kernel_rfl
def k_lk   P:fl.map (λx=>(KK P).lookup x.1)=Z.Vl fl Z.T.funs Z.sts:=by kernel_rfl
def k_blt   P:Z.bltB (KK P)=ma:=by kernel_rfl
def k_gs   P:Z.bp (KK P) Z.T.gn Z.T.gs=ma:=by kernel_rfl
def k_cs   P:Z.mq (KK P) Z.T.cs:=trivial
noncomputable abbrev rr  : PySem.W.OpenRow:=PySem.Challenge.rw_beatplans_k19_found_with_stays.row
def Xt  : Ia->Bool:=λs=>PySem.W.xlAt qw [] s&&PySem.W.recOk (PySem.W.RowW.records rr.toRowW) s
abbrev hk  : Ed:=PySem.W.kHook KK KA (λ_=>by kernel_rfl)
def oN  (w:Cb):((Mm w.params).isNs Ue&&(⟨[]⟩:Array GenState).size==0,(Mm w.params).objs.size,(Mm w.params).nsMap Ue "__annotations__")=(ma,11,la (sg 6)):=by
 rw[PySem.W.Fast.te8920871248978507458];kernel_rfl
def k_l1  (w:Cb) os:(PySem.W.staticsOk (importedModules pw.main.body) (Mm w.params) (Hz w.params)&&PySem.W.namesBound pw (Hz w.params)&&PySem.W.gensDone (sz w os)&&PySem.W.laidKept (Mm w.params) (Hz w.params))=ma:=by
 rw[BJ];kernel_rfl
def k_l2  (w:Cb) os:PySem.W.openSeen qw [] (importedModules pw.main.body) Xt ma (sz w os)=PySem.W.openGood qw []:=by
 rw[PySem.W.Fast.te4187177175401517315,BJ];kernel_rfl
def k_l3   w os:qz hk (sz w os)=uz hk w:=by kernel_rfl
def k_hl  : PySem.W.LeftO pw qw [] Xt (qz hk) (uz hk) 4332:=PySem.W.LeftO.of_pieces (PySem.W.boot_open (by kernel_rfl) (by decide) λ_=>by kernel_rfl) oN zM (by decide) λw=>funext λf=>Aj (k_l1 w f) (Aj (k_l2 w f) (k_l3 w f))
end Y
open PySem PySem.W PyProof.Rows
set_option maxRecDepth 100000 in
set_option maxHeartbeats 0 in
theorem PySem.Challenge.cw_beatplans_k19_found_with_stays_holds : PySem.Challenge.rw_beatplans_k19_found_with_stays.Holds := by
 refine PySem.W.holds_law Z.wellS λsaid=>?_
 refine PySem.W.holds_open (q:=Y.qw) (loose:=[]) (Xt:=Y.Xt) (XP:=PySem.W.XL Y.qw []) (Yf:=qz Y.hk) (Ya:=uz Y.hk) (YP:=Ed.says Y.hk) (N:=4332) Y.k_hl (Ed.of Y.hk) (Ed.keeps Y.hk) (λs e=>PySem.W.xl_of s (Bool.and_eq_true_iff.mp e).1) PySem.W.XL.keeps (by rfl) (by rfl) (by rfl) (λs e=>PySem.W.recFacts_of (Bool.and_eq_true_iff.mp e).2) (by rfl) said (by decide +kernel) ⟨rfl,rfl,rfl,rfl,rfl,by decide +kernel⟩ ?hw ?hc
 case hw=>w_witness2
 refine Z.walk (l:=PySem.Challenge.rw_beatplans_k19_found_with_stays) rfl rfl (λw h Y=>PySem.W.kIn_of Y) ?K ?S ?B ?F
 case K=>intro w;rfl
 case S=>intro w;exact⟨_,rfl,rfl⟩
 case B=>exact λw t ht=>(nomatch (show t∈[]from ht))
 case F=>exact λw mg fa h X G hm=>Z.all2 X G hm Z.prog_rep Z.prog_eq Z.tabsU (Y.k_dyn _) (Y.k_lk _) (Y.k_blt _) (Y.k_gs _) (Y.k_cs _) rfl rfl rfl rfl rfl
