import PyProof.Rows.All
import Wide.All
import OpenK.AllK
import Wide.FinOn
import Lean
import PyProof.EqAt
import PyProof.EqKinds
import PyProof.TupleCall
import PySem.Challenge.RW_beatplans_k36_no_cases_of_waits
set_option maxRecDepth 100000 in
set_option maxHeartbeats 0 in
theorem Z.wellS:PySem.Challenge.rw_beatplans_k36_no_cases_of_waits.wellSaid=true:=by decide +kernel
noncomputable section
set_option compiler.extract_closed false
set_option genSizeOf false
set_option genInjectivity false
set_option Elab.async false
set_option linter.all false
set_option maxRecDepth 100000
set_option maxHeartbeats 8000000
open List renaming all_cons->Bh,all_map->PB,any_cons->tj,append_assoc->Op,append_nil->Li,contains_cons->xn,dropLast_eq_take->EL,drop_eq_getElem_cons->zC,drop_length->aL,drop_of_length_le->sL,drop_zero->rB,eraseIdxIfInBounds_toArray->NL,filterMap_cons->Ex,filterMap_map->RK,filter_append->SK,find?->Kw,find?_cons->Mi,flatten_cons->Wp,foldl->Ts,foldl_append->GK,foldl_cons->wB,forIn_cons->xB,getD->Hf,getElem?_append_left->Qn,getElem?_append_right->At,getElem?_cons_succ->wL,getElem?_eq_getElem->Sh,getElem?_eq_none->cC,getElem?_map->Lf,getElem?_range->QB,getElem?_replicate->mx,getElem?_set_ne->uj,getElem?_set_self->Rp,getElem?_take_of_lt->zL,getElem_mem->vt,isEmpty_iff->cL,length_append->Ke,length_cons->pj,length_drop->dL,length_map->Bc,length_nil->Mn,length_replicate->GL,length_reverse->SB,length_set->Mp,length_singleton->IL,length_take->xt,lookup->mi,lookup_cons->oi,map_append->ue,map_congr_left->Ws,map_cons->af,map_fst_zip->eL,map_id->dB,map_map->gk,map_nil->Uw,map_reverse->yt,map_take->Ww,mem_append_left->nk,mem_append_right->Ag,mem_cons->Oc,mem_cons_of_mem->Le,mem_cons_self->Uf,mem_map_of_mem->Xs,mem_of_getElem?->Ze,mem_of_mem_take->yn,nil_append->Dl,nodup_append->kC,not_mem_nil->Je,of_mem_zip->Np,range->Be,range_succ->jt,replicate->Ab,replicate_succ->ck,reverse_cons->Jx,set_cons_succ->TK,set_cons_zero->UK,set_eq_take_append_cons_drop->PL,size_toArray->ud,sum_append->Pw,take_length->Ng,take_of_length_le->tL,take_sublist->lC,take_succ->Mg,zip_cons_cons->WK
open PySem.W renaming BT->nj,CodeHd->JK,Frag->Hb,OpenLaw->fC,WalkO->fL,boot_heap->Xp,boot_o_0->zn,boot_o_1->ol,boot_o_10->Ln,boot_o_2->An,boot_o_3->vK,boot_o_4->Bn,boot_o_5->Cn,boot_o_6->Dn,boot_o_7->Gn,boot_o_8->Hn,boot_o_9->Jn,callWith_K->UB,cellsFrom_some->sx,codeIn->Zj,codeRec_of->VB,findIn->LK,fnMade->AB,fnOf->ah,instObj->gC,keepIn->oj,kia_one->Ni,kitOne->Qw,kitx_dict->DK,kitx_list->EK,lookIn->BB,methodObj->pC,mg_of->Ys,nsIn->yh,piece_app->yx,piecesOf->wx,plainGet->wK,segRunT->Hx,segRun_of->zx,topRun->MK,topStub->ZK
open Nat renaming add_le_add_left->Dx,add_le_add_right->Up,le_add_left->uB,le_of_eq->Zw,le_of_lt->fk,le_refl->ub,le_succ->Hw,le_trans->Jb,lt_irrefl->Ki,lt_of_le_of_lt->Yg,lt_of_lt_of_le->Mf,lt_succ_self->zB,lt_trans->iB,mul_comm->ax,mul_le_mul_right->uK,ne_of_lt->dg,succ_le_succ->ut,zero_add->Rw,zero_le->Me
open PySem renaming Arguments->ww,Comprehension->Iw,DictEntry->Xk,ExcBaseFacts->Fw,FuncData->Bp,NameKind->Kf,Operator->Vj,PassesOwn->Wj,Spec->fX,StoreFacts->Zm,assignEach->ug,assignInOrder->nB,attributeBase->jn,behindInMarks->Xw,binaryOp->Se,bindArgs->Gs,bindName->Cp,bootBuiltins->rj,builtinLookup_eq_fast->Vp,builtinsNs->Ep,call->lB,call_meets->Ah,call_meetsIn->oB,cellsFrom->Gf,checkBuiltinCall->Ow,closureFor->xw,codeAny_call_builtin->mC,codeAny_call_function->qC,codeAny_func->pB,codeAny_mono->Qp,compTurn->Dp,compareOp->Ed,concat_meets->qB,evalPart_none->XA,excClassObj->vn,foldedForSure->YA,foldedSetIterable->Qi,inplaceOp->Fp,isInstance->zw,lastMarks->Dw,letOwnedTupleGo->Zs,lookupAlong_cons->HB,mainGlobals->Ud,mem_of_lookup->cg,newFunctionEnv->LB,noFill_tuple_add->IB,noteFrame->Bw,post_val_or_str->Lw,pushCells->Ps,qualnameIn->nl,repr_of_reads'->MB,seqIndex?->Cw,seqIndex_neg->jB,seqSlot_of->NK,seq_tuple_add->ZA,setFlight->Ip,sizeLine->Wa,sizeLine_eq->Pi,sliceBounds->Xj,slicePick->Jp,starEach->uc,strLen_append->aB,swappedStores->li,swapsWith->ii,swapsWithSole->sj,sysModules->Of,treeTable->Yj,tupleKind->Kp,tupleKind_room_in1->Us,typeIs_int->Ls,typeIs_str->cn,typeLookup->Bf,typeLookup_eq->cB,typeLookup_type->Lp,wpAny_Call_Name_kw->rl,wpAny_binaryOp_repeat_ref->DL,wpAny_bind->db,wpAny_call->Ms,wpAny_callSpecial?_slot->bC,wpAny_call_entry->JB,wpAny_comprehension_free->zK,wpAny_execs_cons->On,wpAny_execs_nil->gt,wpAny_field->Oi,wpAny_getItem_list_slice->BC,wpAny_getItem_str_slice->gx,wpAny_holding->al,wpAny_isSubtype_exc->Tp,wpAny_loadPart_at->Af,wpAny_mono->Pe,wpAny_mroOf_exc->DB,wpAny_newFunctionEnv_cells->EC,wpAny_newObj_type->Ri,wpAny_passesOwn->rn,wpAny_pure->Zb,wpAny_sequenceKey->vB,wpAny_setField->NB,wpAny_standAt->ml,wpAny_truthy_bool->Si,wpAny_typeOf->Qs
open PySem.Heap renaming SameBut->Tw,get?_none_of_le->XB,get?_push_at->FK,get?_push_of_some->Uc,get?_push_size->Zg,get?_update_ne->tK,get?_update_other->CC,get?_update_self->cx,lt_size->Nc
open Bool renaming and_eq_true->Lc,and_false->KB,eq_iff_iff->ak,false_eq_true->Yp,false_ne_true->Dd,false_or->GB,not_eq_true'->Vs,or_eq_true->Bl,or_true->wn,true_and->Vw
open Option.some renaming inj->Te
open PySem.NameKind renaming cell->Nf,free->Ue
open Int renaming add_mul->kB,ediv_one->gB,emod_lt_of_pos->zl,emod_nonneg->Al,eq_ofNat_of_zero_le->pi,mul_ediv_add_emod->Fx,mul_le_mul_of_nonneg_right->Zp,toNat->Js,toNat_natCast->Kn
open PySem.W.Fast renaming te10110043849684766642->Kx,te14364793385576792824->Pn,te5923862056798008813->RL
open PySem.PyData renaming canLayAll0->xx,depthAll->Rh,eqv->Ce,eqvAll->Pp,int->Ks,showable->Gx,showableAll->CK,shown->Zk,shownAll->IK
open PySem.Value renaming bool->Gw,builtin->zt,int->Os,none->uh,ref->Ae,str->Jw
open PySem.Builtin.Slice renaming sliceAdjust->Bt,sliceApplied->Lx,sliceFields->QL,slicePlaces->Fl
open PySem.Builtin.Tuple renaming tupleExact->El,tupleIsExact->KL,tupleItemsOf->vC,tupleTooMany->LL
open PyProof.Rows renaming args_tuple_getitem->rC,assignInOrder_cons->uC,boot_isinstance->ML,callWith_type1->Mx,entry_tuple_getitem->jC,slot_tuple_getitem->ik,subscriptTail->Yw,subscriptTail_builtinR->OK,tupleItemsOf_->bB
open False renaming elim->Qh
open True renaming intro->Ph
open Array renaming append_assoc->rK,find?_toList->oC,getElem?_setIfInBounds_self_of_lt->FC,getElem?_toList->qL,length_toList->TB
open PySem.Builtin.List renaming listTooLong->Nx
open PySem.Builtin.Str renaming occurrences->ux
open Sum.inr renaming injEq->nn
open PySem.Str renaming ofString->Yk
open PySem.Obj renaming data_mapFields->HK,isFreed_of_fields->aC,mapFields->kn,mapSeq->Rs
open PySem.F renaming args_dict_get_3->lL,args_tuple_add_2->AC,args_tuple_mul_2->dC,entry_dict_get->jL,entry_tuple_add->wC,entry_tuple_mul->yB,plainAttrs_dict->xC,plainAttrs_list->yC,slot_dict_eq_refl->qK,slot_dict_get->jx,slot_dict_update->nL,slot_int_rmul->Nw,slot_tuple_add->DC,slot_tuple_mul->Hs,type_dict_get->AL
open PySem.EqBoolInt renaming of_rcne->Ax
open PySem.W.Hook renaming obs->YB,val->ZB
open PySem.SeqAt renaming EqAt->Zf,in_listAt->iL,in_tupleAt->iC,notIn_listAt->xK,notIn_tupleAt->WB
open PySem.Paired renaming length->Mw
open Option renaming getD_none->YK,isSome_map->nC,map->fB,toList_some->BK
open PySem.Builtin.Range renaming rangeSize->OL
open PySem.Txt renaming slice->Aw,slice_le->Sw
open PySem.SeqAt.RcNeAt renaming tuples->pL
open PySem.Calls renaming Name_function_global->mL,callWith_builtin->vL,spliced_cons->sK
open List.Pairwise renaming nil->kL
open PySem.SeqAt.EqAt renaming int_str->BL,str_int->CL
open PySem.ScopeKind renaming function->yL
open PySem.Manifest renaming signature?->xL
open PySem.Around renaming frames_deeper->JL,under->FB
open Sum.inl renaming inj->CB
open PySem.PassesOwn renaming looking->uL
open PySem.Code renaming isFrame->OB,quiet_builtin->PK
open List.cons renaming inj->QK,injEq->AK
open Lean.Parser.Tactic renaming simpLemma->UW
open Array renaming getElem?_eq_some_iff->Yb
open Bool renaming false->ia,true->da
open List renaming all_eq_true->Qa,any->Yn,any_eq_true->Ic,getElem?_eq_some_iff->Ka,getElem?_zip_eq_some->fc,length_pos_iff->Fe,mem_append->Oa,mem_filter->Od,mem_map->Fb,mem_reverse->Hc,mem_singleton->Ea,nodup_cons->Cb
open Nat renaming max_le->Dj,not_lt->Ub
open Ne renaming symm->Ua
open Option renaming isSome_iff_exists->Lb,none->la,some->ca
open Prod renaming ext->Xn
open PyProof.Rows renaming AllBare->re,IntsAre->Ej,IsTup->Vi,Subscript_->lq,envOfC->Jc,tail_any->Ol
open PySem renaming Addr->Aa,Around->Kb,BindsTo->Jd,Builtin->Mb,CmpOp->Pt,Code->Fj,Expr->Ia,Heap->Va,IsPart->Qe,Keyword->Ot,Meets->Nt,Model->Mt,OsState->ie,Paired->td,Params->Za,Program->Ib,PyData->Ma,Scope->Cc,Shared->Da,Stmt->Pa,Value->Ba,World->ib,assign->Ec,atKey->Fh,backTo->Tb,bindC->Ui,bindL->Ti,cLine->Pb,callerA->fh,cellOf->jq,eval->lb,excMatches->iq,getItem->Vc,holding->Wb,isTrue->ce,leaving->Rf,lookupAlong->Ql,model->Fa,piled->Jt,rawInt->Sb,release->dh,seqIndex_of->Pl,setItem->Ve,slot_list_getitem->Qf,standAt->be,storeName->Qx,truthy->Bj,valueAt->Pf,wpAny_Name->cq,wpAny_loadPart'->Xa,wpAny_of_eq->Nl
open PySem.Heap renaming IsSliceOf->Wd
open PySem.SeqAt renaming RcAt->Di
open PySem.W renaming Frag->Gh,Hook->md,OpenLaw->Cj,WShape->kq,fnMade->gq,kitOne->fq,mroIn->Kt,tabObj->dq
open Sum renaming inl->Ee,inr->Bb
namespace L2
open PySem PySem.Spec PyProof.Rows

abbrev Vb:=Sum Int Str
noncomputable def No  : Vb->Ba->Bool
 |.inl k,v=>Ba.isInt k v
 |.inr x,v=>Ba.isStrOf x v
noncomputable def keyH  (w:ib):Vb->Int
 |.inl k=>hashInt k
 |.inr x=>hashStr w x
def Sj  : ∀{k } {v },No k v=da->(∃i t,k=Ee i/\v=Os i t)\/(∃x t,k=Bb x/\v=Jw x t)
 |.inl i,v,h=>by
  obtain⟨t,e⟩:=Ba.isInt_shape (k:=i) (v:=v) h;exact .inl ⟨i,t,rfl,e⟩
 |.inr x,v,h=>by
  obtain⟨t,e⟩:=Ba.isStrOf_shape (x:=x) (v:=v) h;exact .inr ⟨x,t,rfl,e⟩
def eV   i t:No (.inl i) (.int i t)=da:=by simp[No,Ba.isInt]
def fV   x t:No (.inr x) (.str x t)=da:=by simp[No,Ba.isStrOf]
def pP   a b:decide ((Ee a:Vb)=Ee b)=(a==b):=by
 by_cases e:a=b
 ·subst e;simp
 ·have h:¬(Ee a:Vb)=Ee b:=λq=>e (CB q);rw[decide_eq_false h];exact(beq_eq_false_iff_ne.mpr e).symm
def sP   a b:decide ((Bb a:Vb)=Bb b)=decide (a=b):=by
 by_cases e:a=b
 ·subst e;simp
 ·have h:¬(Bb a:Vb)=Bb b:=λq=>e (Bb.inj q);rw[decide_eq_false h,decide_eq_false e]
def qP   a b:decide ((Ee a:Vb)=Bb b)=ia:=decide_eq_false (λq=>nomatch q)
def rP   a b:decide ((Bb a:Vb)=Ee b)=ia:=decide_eq_false (λq=>nomatch q)

def sf   prog w:PySem.KeyKind prog w Vb where
 is:=No
 hash:=keyH w
 inj:=λv a b I F=>by
  rcases Sj I with⟨i,t,rfl,rfl⟩|⟨x,t,rfl,rfl⟩
  ·rcases Sj F with⟨j,u,rfl,e⟩|⟨y,u,rfl,e⟩
   ·injection e with e1 _;rw[e1]
   ·exact nomatch e
  ·rcases Sj F with⟨j,u,rfl,e⟩|⟨y,u,rfl,e⟩
   ·exact nomatch e
   ·injection e with e1 _;rw[e1]
 byValue:=λk v h=>by
  rcases Sj h with⟨i,t,rfl,rfl⟩|⟨x,t,rfl,rfl⟩<;>rfl
 pyHash:=λz h=>by
  rcases Sj z with⟨i,t,rfl,rfl⟩|⟨x,t,rfl,rfl⟩
  ·exact wpAny_pyHash_int h
  ·exact wpAny_pyHash_str h
 eqBool:=λhu z h=>by
  rcases Sj hu with⟨i,t,rfl,rfl⟩|⟨x,t,rfl,rfl⟩
  ·rcases Sj z with⟨j,u,rfl,rfl⟩|⟨y,u,rfl,rfl⟩
   ·rw[pP]at h;exact wpAny_eqBool_int h
   ·rw[qP]at h;exact BL i t y u _ _ _ _ h
  ·rcases Sj z with⟨j,u,rfl,rfl⟩|⟨y,u,rfl,rfl⟩
   ·rw[rP]at h;exact CL x t j u _ _ _ _ h
   ·rw[sP]at h;exact wpAny_eqBool_str h
 «strs»:=λk x t v h=>by
  rcases Sj h with⟨i,u,rfl,e⟩|⟨y,u,rfl,e⟩
  ·exact nomatch e
  ·injection e with e1 _
   subst e1
   cases v<;>rfl

def dW   prog w i t:(sf prog w).is (.inl i) (.int i t)=da:=eV i t
def eW   prog w x t:(sf prog w).is (.inr x) (.str x t)=da:=fV x t

set_option genInjectivity true
inductive V where
 |non|bl (b:Bool)|int (i:Int)|str (x:Str)|byt (b:Array UInt8)|flt (b:UInt64)|ref (a:Aa)|ty (n:String)
 deriving DecidableEq

set_option genInjectivity false
def RelV  : V->Ba->Prop
 |.non,u=>u=uh
 |.bl b,u=>u=Gw b
 |.int i,u=>∃t,u=Os i t
 |.str x,u=>∃t,u=Jw x t
 |.byt b,u=>∃t,u=Ba.bytes b t
 |.flt b,u=>∃t,u=Ba.float b t
 |.ref a,u=>u=Ae a
 |.ty n,u=>u=Ba.type n

abbrev Vals  : List V->List Ba->Prop:=td RelV
def Vals.length    (r:Vals xs us):xs.length=us.length:=Mw r
theorem Vals.get  : ∀{xs } {us } {i:Nat} {x },Vals xs us->xs[i]?=ca x->∃u,us[i]?=ca u/\RelV x u
 |_,_,_,_,.nil,e=>by simp at e
 |_,_,0,_,.cons r _,e=>by simp at e;subst e;exact⟨_,rfl,r⟩
 |_,_,i+1,x,.cons _ t,e=>by
  obtain⟨u,F,z⟩:=Vals.get (i:=i) (x:=x) t (by simpa using e)
  exact⟨u,by simpa using F,z⟩
theorem Vals.set    (r:RelV x u):∀{xs } {us } i ,Vals xs us->Vals (xs.set i x) (us.set i u)
 |_,_,_,.nil=>.nil
 |_,_,0,.cons _ t=>.cons r t
 |_,_,i+1,.cons q t=>.cons q (Vals.set r i t)
theorem Vals.append  : ∀{xs ys } {us ws },Vals xs us->Vals ys ws->Vals (xs++ys) (us++ws)
 |_,_,_,_,.nil,s=>s
 |_,_,_,_,.cons r t,s=>.cons r (Vals.append t s)
theorem Vals.take  : ∀{xs } {us } n ,Vals xs us->Vals (xs.take n) (us.take n)
 |_,_,0,_=>.nil
 |_,_,_+1,.nil=>.nil
 |_,_,n+1,.cons r t=>.cons r (Vals.take n t)
theorem Vals.drop  : ∀{xs } {us } n ,Vals xs us->Vals (xs.drop n) (us.drop n)
 |_,_,0,r=>r
 |_,_,_+1,.nil=>.nil
 |_,_,n+1,.cons _ t=>Vals.drop n t
def RelO  : Option V->Option Ba->Prop
 |some v,ca u=>RelV v u
 |none,la=>True
 |_,_=>False
def KV  {y:Type}:List (y×V)->List (y×Ba)->Prop:=td λ(p:y×V) (q:y×Ba)=>p.1=q.1/\RelV p.2 q.2

noncomputable def kV  : Vb->V
 |.inl i=>.int i
 |.inr x=>.str x

set_option genInjectivity true
inductive HO where
 |lst (xs:List V)
 |tup (xs:List V)
 |dK (kvs:List (Vb×V))|dT (kvs:List (List Vb×V))
 |set (S:Int->Bool) (n:Nat)
 |ins (C dx:Aa) (fs:List (Str×V))
 |own (x:Aa)
 |xd (fs:List (Str×V))
 |met (f x:Aa)
 |rng (lo hi:Int)
 |frz (o:Obj) (u:HO)
 |tbl (ps:Array Ba)
 |ext (φ:Va->Prop)

set_option genInjectivity false
abbrev Hp:=Aa->Option HO
noncomputable def upd  (H:Hp)(a:Aa)(o:HO):Hp:=λb=>if b=a then ca o else H b
def Xe     : upd H a o a=ca o:=by unfold upd;rw[if_pos rfl]
def Ac     (h:b≠a):upd H a o b=H b:=by unfold upd;rw[if_neg h]
def XM  {H:Hp}(h:H a=ca o)(h':H b=ca u)(d:o≠u):a≠b:=by
 intro e;subst e;rw[h]at h';exact d (Te h')
def Kg  {H:Hp}(h:H a=ca o)(h':H b=la):a≠b:=by
 intro e;subst e;rw[h]at h';cases h'

def TupD  (h:Va)(a:Aa)(items:Array Ba):Prop:=∃o,h.get? a=ca o/\o.cls=.type "tuple" /\ ∃n,o.data=.seq items n/\o.dict=la
def TupD.tup     (x:TupD h a items):Vi h a items:=let ⟨o,e,c,n,d,_⟩:=x;⟨o,e,c,n,d⟩
def TupD.new  (h:Va) items:TupD (h.push { cls:=.type "tuple",data:=.seq items }) h.objs.size items:=⟨_,Zg _ rfl,rfl,_,rfl,rfl⟩
section
variable (P:Ib)(w:ib)
def Sd (H:Hp)(h:Va)(a:Aa):HO->Prop
 |.lst F=>F.length<=Wa/\∃(y:List Ba) (n:Nat),Vals F y/\h.get? a=ca { cls:=.type "list",data:=.seq y.toArray n }
 |.tup F=>F.length<=Wa/\∃y:List Ba,Vals F y/\TupD h a y.toArray
 |.dK z=>z.length<=Wa/\(a==Of)=ia/\∃Y,KV z Y/\h.DictOf (sf P w) a Y
 |.dT z=>z.length<=Wa/\(a==Of)=ia/\∃F:List (List Vb×Aa×Ba),
   td (λ(p:List Vb×V) (q:List Vb×Aa×Ba)=>p.1=q.1/\H q.2.1=ca (.tup (p.1.map kV))/\RelV p.2 q.2.2) z F/\
   ∃o Z ep,h.get? a=ca o/\o.ExactDict/\o.data=.dict Z ep/\Z.toList=F.map (entryOfKey (Kp (sf P w)))/\(F.map (·.1)).Nodup
 |.set S n=>h.SetOf (intKind P w) a S n
 |.ins C J fs=>H J=ca (.own a)/\fs.length<=1000/\J≠a/\h.get? a=ca (gC C J)/\
   ∃I,h.Ns1 J I/\(∀f,RelO (fs.lookup f) (I f))/\PySem.Within I (fs.map (·.1))
 |.own _=>∃o,h.get? a=ca o
 |.xd fs=>∃I,h.Ns1 a I/\∀f,RelO (fs.lookup f) (I f)
 |.rng lo hi=>∃t u v,h.get? a=ca { cls:=.type "range",data:=.fields #[.int lo t,.int hi u,.int 1 v] }
 |.frz o u=>h.get? a=ca o/\Sd H h a u
 |.tbl ps=>h.get? a=ca { cls:=.none,data:=.fields ps }
 |.met f x=>h.get? a=ca (pC (.ref f) (.ref x))
 |.ext L=>L h/\(∃o,h.get? a=ca o)/\∀R O:Va,L R->(∀o,R.get? a=ca o->O.get? a=ca o)->L O
def Md (H:Hp)(h:Va):Prop:=∀a o,H a=ca o->Sd P w H h a o
end

section
variable {P:Ib}{w:ib}{H H':Hp}{h h':Va}{a:Aa}{o:HO}
theorem Sd.lt  (x:Sd P w H h a o):a<h.objs.size:=by
 cases o with
 |lst F=>obtain⟨_,_,_,_,e⟩:=x;exact Nc e
 |tup F=>obtain⟨_,_,_,p⟩:=x;exact p.tup.lt
 |dK z=>obtain⟨_,_,_,_,o,_,_,e,_⟩:=x;exact Nc e
 |dT z=>obtain⟨_,_,_,_,o,_,_,e,_⟩:=x;exact Nc e
 |set S n=>obtain⟨o,_,_,_,e,_⟩:=x;exact Nc e
 |ins C L fs=>obtain⟨_,_,_,e,_⟩:=x;exact Nc e
 |own y=>obtain⟨_,e⟩:=x;exact Nc e
 |xd fs=>obtain⟨_,⟨_,_,_,e,_⟩,_⟩:=x;exact Nc e
 |rng J O=>obtain⟨_,_,_,e⟩:=x;exact Nc e
 |frz Y u=>obtain⟨e,_⟩:=x;exact Nc e
 |tbl R=>exact Nc (show h.get? a=ca _ from x)
 |met f y=>exact Nc (show h.get? a=ca _ from x)
 |ext I=>obtain⟨_,⟨_,e⟩,_⟩:=x;exact Nc e
theorem Paired.mapP    : ∀{z } {I },td F z I->(∀a b,F a b->G a b)->td G z I
 |_,_,.nil,_=>.nil
 |_,_,.cons r t,f=>.cons (f _ _ r) (Paired.mapP t f)
def Sd.stay  (x:Sd P w H h a o)(k:∀b u,(b=a\/H b=ca (.own a))->h.get? b=ca u->h'.get? b=ca u)
  (ho:∀b,H b=ca (.own a)->H' b=ca (.own a)) (ht:∀b xs,H b=ca (.tup xs)->H' b=ca (.tup xs)):Sd P w H' h' a o:=by
 induction o with
 |lst xs=>obtain⟨z,L,n,r,e⟩:=x;exact⟨z,L,n,r,k _ _ (.inl rfl) e⟩
 |tup xs=>obtain⟨z,L,r,F,e,c⟩:=x;exact⟨z,L,r,F,k _ _ (.inl rfl) e,c⟩
 |dK R=>obtain⟨z,y,vs,r,F,J,I,e,c⟩:=x;exact⟨z,y,vs,r,F,J,I,k _ _ (.inl rfl) e,c⟩
 |dT R=>
  obtain⟨z,y,xs,r,F,J,I,e,c⟩:=x;exact⟨z,y,xs,Paired.mapP r λp q z=>⟨z.1,ht _ _ z.2.1,z.2.2⟩,F,J,I,k _ _ (.inl rfl) e,c⟩
 |set S n=>obtain⟨F,J,I,t,e,c⟩:=x;exact⟨F,J,I,t,k _ _ (.inl rfl) e,c⟩
 |ins C dx fs=>
  obtain⟨d,z,ne,e,Y,⟨O,J,I,e2,c⟩,r⟩:=x;exact⟨ho _ d,z,ne,k _ _ (.inl rfl) e,Y,⟨O,J,I,k _ _ (.inr d) e2,c⟩,r⟩
 |own y=>obtain⟨F,e⟩:=x;exact⟨F,k _ _ (.inl rfl) e⟩
 |xd fs=>obtain⟨Y,⟨O,J,I,e,c⟩,r⟩:=x;exact⟨Y,⟨O,J,I,k _ _ (.inl rfl) e,c⟩,r⟩
 |rng lo hi=>obtain⟨t,u,v,e⟩:=x;exact⟨t,u,v,k _ _ (.inl rfl) e⟩
 |frz F u ih=>obtain⟨e,q⟩:=x;exact⟨k _ _ (.inl rfl) e,ih q⟩
 |tbl ps=>
  have e:h.get? a=ca { cls:=.none,data:=.fields ps }:=x;show h'.get? a=ca { cls:=.none,data:=.fields ps };exact k a _ (.inl rfl) e
 |met f y=>
  have e:h.get? a=ca (pC (.ref f) (.ref y)):=x;show h'.get? a=ca (pC (.ref f) (.ref y));exact k a _ (.inl rfl) e
 |ext φ=>obtain⟨p,⟨o,e⟩,Z⟩:=x;exact⟨Z _ _ p λo q=>k _ _ (.inl rfl) q,⟨o,k _ _ (.inl rfl) e⟩,Z⟩
def Md.lt  (x:Md P w H h)(e:H a=ca o):a<h.objs.size:=(x a o e).lt
def Md.fresh  (x:Md P w H h)(e:h.objs.size<=a):H a=la:=by
 cases q:H a with
 |none=>rfl
 |some u=>exact absurd (Mf (x.lt q) e) (Ki _)
def Md.kept  (x:Md P w H h)(k:∀b u,h.get? b=ca u->h'.get? b=ca u):Md P w H h':=λa o e=>
 (x a o e).stay (λb u _ q=>k b u q) (λ_ q=>q) λ_ _ q=>q
def Md.laid  (x:Md P w H h)(k:∀b u,h.get? b=ca u->h'.get? b=ca u)(I:h.objs.size<=a)(new:Sd P w (upd H a o) h' a o):Md P w (upd H a o) h':=λb u e=>by
 have F:=x.fresh I;by_cases z:b=a
 ·subst z;rw[Xe]at e;cases e;exact new
 ·rw[Ac z]at e;exact(x b u e).stay (λc v _ q=>k c v q) (λc q=>by rw[Ac (Kg q F)];exact q) λc J q=>by rw[Ac (Kg q F)];exact q
end

def Rd  (H:Hp)(a:Aa)(u:HO):Prop:=H a=ca u\/∃o,H a=ca (.frz o u)
def Rd.ok        (r:Rd H a u)(x:Md P w H h):Sd P w H h a u:=by
 rcases r with r|⟨o,r⟩
 ·exact x a u r
 ·obtain⟨_,q⟩:=x a _ r;exact q
def Dt  : Option HO->Prop
 |some (.lst _)=>True
 |some (.dK _)=>True
 |some (.dT _)=>True
 |some (.set _ _)=>True
 |some (.ins _ _ _)=>True
 |some (.ext _)=>True
 |_=>False

def Md.write  (ok:Md P w H h)(R:Dt (H x))(he:e=x\/H e=ca (.own x))(k:∀b u,b≠e->h.get? b=ca u->h'.get? b=ca u)(Z:∃u,h'.get? e=ca u)
  (new:Sd P w (upd H x o') h' x o'):Md P w (upd H x o') h':=λb u q=>by
 have I:∀c y,H c=ca (.own y)->c≠x:=λc y r z=>by subst z;rw[r]at R;exact R
 have J:∀c L,H c=ca (.tup L)->c≠x:=λc L r z=>by subst z;rw[r]at R;exact R
 by_cases O:b=x
 ·subst O;rw[Xe]at q;cases q;exact new
 ·rw[Ac O]at q;by_cases F:b=e
  ·have q':H b=ca (.own x):=by
    rcases he with z|z
    ·exact absurd (F.trans z) O
    ·rw[F];exact z
   rw[q]at q';cases q';obtain⟨v,hv⟩:=Z;exact⟨v,by rw[F];exact hv⟩
  ·refine(ok b u q).stay (λc v Y r=>k c v ?_ r) (λc r=>by rw[Ac (I c b r)];exact r) λc L r=>by rw[Ac (J c L r)];exact r
   rcases Y with rfl|Y
   ·exact F
   ·rintro rfl;rcases he with z|z
    ·exact I c b Y z
    ·rw[Y]at z;cases z;exact O rfl

structure Un (fs ex:List Aa)(H H':Hp)(h h':Va):Prop where
 keep:∀b o,h.get? b=ca o->H b=la->b∉fs->b∉ex->h'.get? b=ca o
 slot:∀b o,h.get? b=ca o->H b=la->b∈fs->b∉ex->∃sl,h'.get? b=ca { o with slots:=sl }
 free:∀b o,h.get? b=ca o->H b=la->b∉ex->H' b=la
 there:∀b o,h.get? b=ca o->b∉ex->∃o',h'.get? b=ca o'
 tups:∀b xs,H b=ca (.tup xs)->H' b=ca (.tup xs)
 frzs:∀b o u,H b=ca (.frz o u)->H' b=ca (.frz o u)
 tbls:∀b ps,H b=ca (.tbl ps)->∃more,H' b=ca (.tbl (ps++more))

def Un.any  (u:Un fs ex H H1 h L)(q:h.get? b=ca z)(n:H b=la)(I:b∉ex):∃J,L.get? b=ca { z with slots:=J }:=by
 by_cases F:b∈fs
 ·exact u.slot b z q n F I
 ·exact⟨z.slots,u.keep b z q n F I⟩
def Un.trans  (a:Un fs ex H H1 h h1)(b:Un fs ex H1 H2 h1 h2):Un fs ex H H2 h h2 where
 keep:=λc F q n L z=>b.keep c F (a.keep c F q n L z) (a.free c F q n z) L z
 slot:=λc F q n L z=>by
  obtain⟨sl,I⟩:=a.slot c F q n L z;obtain⟨R,Y⟩:=b.slot c _ I (a.free c F q n z) L z;exact⟨R,Y⟩
 free:=λc F q n z=>by
  obtain⟨O,I⟩:=a.there c F q z;exact b.free c O I (a.free c F q n z) z
 there:=λc F q z=>by
  obtain⟨O,I⟩:=a.there c F q z;exact b.there c O I z
 tups:=λc J q=>b.tups c J (a.tups c J q)
 frzs:=λc F J q=>b.frzs c F J (a.frzs c F J q)
 tbls:=λc ps q=>by
  obtain⟨m1,I⟩:=a.tbls c ps q;obtain⟨Z,Y⟩:=b.tbls c _ I;exact⟨m1++Z,by rw[Y,rK]⟩
def Un.kept  (k:∀b u,h.get? b=ca u->h'.get? b=ca u):Un fs ex H H h h':=
 ⟨λb z q _ _ _=>k b z q,λb z q _ _ _=>⟨z.slots,k b z q⟩,λ_ _ _ n _=>n,λb z q _=>⟨z,k b z q⟩,λ_ _ q=>q,λ_ _ _ q=>q,λ_ F q=>⟨#[],by rw[q];simp⟩⟩
def Un.refl  : Un fs ex H H h h:=Un.kept λ_ _ q=>q
def Un.laid  {h: Va}{a: Aa}(k:∀b u,h.get? b=ca u->h'.get? b=ca u)(F:h.objs.size<=a)(z:H a=la):Un fs ex H (upd H a o) h h' where
 keep:=λb u q _ _ _=>k b u q
 slot:=λb u q _ _ _=>⟨u.slots,k b u q⟩
 free:=λb u q n _=>by rw[Ac (dg (Mf (Nc q) F))];exact n
 there:=λb u q _=>⟨u,k b u q⟩
 tups:=λb I q=>by rw[Ac (Kg q z)];exact q
 frzs:=λb u I q=>by rw[Ac (Kg q z)];exact q
 tbls:=λb J q=>⟨#[],by rw[Ac (Kg q z),q];simp⟩
def Un.write  (I:Dt (H x))(Z:e=x\/H e=ca (.own x))(k:∀b u,b≠e->h.get? b=ca u->h'.get? b=ca u)(L:∃u,h'.get? e=ca u):Un fs ex H (upd H x o) h h':=by
 have R:∀b,H b=la->b≠x:=λb n z=>by subst z;rw[n]at I;exact I
 have O:∀b,H b=la->b≠e:=λb n z=>by
  subst z;rcases Z with r|r
  ·exact R b n r
  ·rw[n]at r;cases r
 have J:∀b u,H b=ca u->¬Dt (ca u)->b≠x:=λb u q nm z=>by subst z;rw[q]at I;exact nm I
 refine⟨λb u q n _ _=>k b u (O b n) q,λb u q n _ _=>⟨u.slots,k b u (O b n) q⟩,λb u q n _=>by rw[Ac (R b n)];exact n,λb u q _=>?_,
  λb Y q=>by rw[Ac (J b _ q λz=>z)];exact q,λb u Y q=>by rw[Ac (J b _ q λz=>z)];exact q,λb ps q=>⟨#[],by rw[Ac (J b _ q λz=>z),q];simp⟩⟩
 by_cases F:b=e
 ·subst F;exact L
 ·exact⟨u,k b u F q⟩

noncomputable def Qt  (h:Va)(H:Hp):List Aa:=(Be h.objs.size).filter λa=>(H a).isSome
def hidT  (h:Va)(H:Hp):Va:=PySem.W.hideAll h (Qt h H)
def NT  (h:Va) H:(hidT h H).objs.size=h.objs.size:=PySem.W.hideAll_size _ _
def Bz      (e:h.get? b=ca o)(n:H b=la):(hidT h H).get? b=ca o:=
 PySem.W.hideAll_get _ e λy=>by
  have q:(H b).isSome=da:=(Od.mp y).2;rw[n]at q;simp at q
def VQ      (e:(hidT h H).get? b=ca o):h.get? b=ca o/\H b=la:=by
 have y:h.get? b=ca o:=PySem.W.of_hideAll (Qt h H) e;refine⟨y,?_⟩;cases q:H b with
 |none=>rfl
 |some x=>
  have F:b∈Qt h H:=Od.mpr ⟨List.mem_range.mpr (Nc y),by simp[q]⟩
  have z:(hidT h H).get? b=la:=PySem.W.hideAll_none (Qt h H) F;rw[z]at e;cases e

noncomputable def LR  (g h:Va)(L:Aa):List (Aa×Obj):=(Be h.objs.size).filterMap λa=>if a=L\/(g.get? a).isSome=da then la else (h.get? a).map λo=>(a,o)
def rest  (g h:Va)(L d:Aa):List (Aa×Obj):=(LR g h L).filter λp=>decide (p.1≠d)

structure Mod (K:Hb)(mg:Str->Option Ba)(base:Va):Prop where
 kin:K.In base
 glob:base.Ns Ud mg
 blt:∃mb,base.Ns Ep mb/\∀x:Str,x ≠ "__name__" -> mb x=rj x
 nolimit:base.NoLimit
 sys:∃o,K.lookup Of=ca o/\o.cls=.type "dict"

structure Cx where
 prog:Ib
 w:ib
 K:Hb
 mg:Str->Option Ba
 base:Va
 A:Kb
 N:List Str
 s₀:Da
 H₀:Hp
 env:Env
 outer:List Env
 stack:List Env
 ex:List Aa
 fn:Str->Bool
 calm:Bool
 pn:List (Aa×Obj)
 xe:Ba->Da->Prop
noncomputable def uf  (l:List Env):List Aa:=l.filterMap (·.frame)
abbrev Cx.fs  (X:Cx):List Aa:=uf X.outer

def Ai  (sc:Cc)(x:Str):Prop:=sc.names.lookup x=ca .local\/sc.names.lookup x=ca .cell\/sc.names.lookup x=ca .free
def Ml  (sc:Cc)(x:Str):Prop:=sc.names.lookup x=ca .local\/sc.names.lookup x=ca .cell
def Look  (env:Env)(h:Va)(m:Str->Option Ba)(x:Str)(u:Ba):Prop:=
 (env.kindOf x=ca .local/\m x=ca u)\/((env.kindOf x=ca .cell\/env.kindOf x=ca .free)/\∃c,env.cells.lookup x=ca c/\h.IsCell c (ca u))

structure Cx.Ok (X:Cx):Prop where
 mod:Mod X.K X.mg X.base
 kind:X.env.scope.kind=.function
 glob:X.env.globals=Ud
 blt:X.env.builtins=Ep
 above:X.s₀.heap.objs.size<=X.env.locals
 inj:∀x y c,X.env.cells.lookup x=ca c->X.env.cells.lookup y=ca c->x=y
 has:∀x,(X.env.kindOf x=ca .cell\/X.env.kindOf x=ca .free)->∃c,X.env.cells.lookup x=ca c
 cab:∀x c,X.fn x=da->X.env.cells.lookup x=ca c->X.s₀.heap.objs.size<=c
 hd:X.calm=da->X.A.handled=la
 frames:X.A.frames=ca X.stack
 stk:X.stack=X.outer\/(X.stack=X.env::X.outer/\X.env.frame=ca X.env.locals)
 exf:∀b∈X.ex,b≠X.env.locals/\∀x c,X.env.cells.lookup x=ca c->c≠b
 bs:∀b o,X.base.get? b=ca o->X.s₀.heap.get? b=ca o/\X.H₀ b=la
 bsz:X.base.objs.size<=X.s₀.heap.objs.size
 noex:∀b o,X.base.get? b=ca o->b∉X.ex
 exfs:∀b∈X.ex,b∉X.fs
 funs:X.s₀.heap.FunFrames X.base X.outer
 frf:∀b∈X.fs,X.H₀ b=la

structure La (X:Cx)(pins:List (Aa×Obj))(σ:List (Option V))(H:Hp)(s:Da):Prop where
 ok:X.Ok
 os:s.os=X.s₀.os
 bare:re s.gens
 base:Un X.fs X.ex X.H₀ H X.s₀.heap s.heap
 loc:∃m,s.heap.Ns X.env.locals m/\∀(i:Nat) (x:Str) (v:V),X.N[i]?=ca x->σ[i]?=ca (ca v)->Ai X.env.scope x->∃u,RelV v u/\Look X.env s.heap m x u
 cell:∀x c,X.env.cells.lookup x=ca c->∃v,s.heap.IsCell c v
 free:H X.env.locals=la
 freeC:∀x c,X.env.cells.lookup x=ca c->H c=la
 pin:∀p∈X.pn++pins,s.heap.get? p.1=ca p.2/\H p.1=la/\p.1≠X.env.locals/\p.1∉X.fs/\∀v,p.2.data≠.cell v
 hok:Md X.prog X.w H s.heap
 len:σ.length=X.N.length

section
variable {X:Cx}{pins:List (Aa×Obj)}{σ:List (Option V)}{H H':Hp}{s:Da}{h':Va}

def Cx.Ok.nofr  (ok:X.Ok)(e:X.base.get? b=ca o):b∉X.fs:=λz=>by
 have:=(ok.funs.mem z).1;rw[e]at this;cases this
def La.bs  (I:La X pins σ H s):∀b o,X.base.get? b=ca o->s.heap.get? b=ca o/\H b=la:=λb o e=>
 ⟨I.base.keep b o (I.ok.bs b o e).1 (I.ok.bs b o e).2 (I.ok.nofr e) (I.ok.noex b o e),I.base.free b o (I.ok.bs b o e).1 (I.ok.bs b o e).2 (I.ok.noex b o e)⟩
def La.bk  (I:La X pins σ H s):∀b o,X.base.get? b=ca o->s.heap.get? b=ca o:=λb o e=>(I.bs b o e).1
def La.mod  (I:La X pins σ H s):Mod X.K X.mg X.base:=I.ok.mod
def La.kIn  (I:La X pins σ H s):X.K.In s.heap:=I.ok.mod.kin.keeps I.bk
def La.lt  (I:La X pins σ H s):X.env.locals<s.heap.objs.size:=let ⟨_,z,_⟩:=I.loc;z.lt
def La.sz  (I:La X pins σ H s):X.s₀.heap.objs.size<=s.heap.objs.size:=Jb I.ok.above (fk I.lt)
def La.nofs  (I:La X pins σ H s){a:Aa}(h:s.heap.objs.size<=a):a∉X.fs:=λz=>by
 obtain⟨_,o,F,_⟩:=I.ok.funs.mem z;exact absurd (Mf (Nc F) (Jb I.sz h)) (Ki _)
def La.cne  (I:La X pins σ H s):∀x c,X.env.cells.lookup x=ca c->c≠X.env.locals:=λx c e z=>by
 obtain⟨v,o,L,hd⟩:=I.cell x c e;obtain⟨m,⟨R,Y,O,J,F,_⟩,_⟩:=I.loc;rw[z,J]at L;cases L;rw[F]at hd;cases hd
theorem La.funs  (I:La X pins σ H s):s.heap.FunFrames X.base X.outer:=by
 have all:∀(l:List Env),(∀b∈uf l,b∈X.fs)->X.s₀.heap.FunFrames X.base l->s.heap.FunFrames X.base l:=by
  intro l
  induction l with
  |nil=>intro _ _;trivial
  |cons xa r ih=>
   intro R hl;obtain⟨hk,⟨L,o,O,hn,Y,hd⟩,Z⟩:=hl;have J:L∈X.fs:=R L (by unfold uf;rw[Ex,O];exact Uf)
   obtain⟨sl,e⟩:=I.base.slot L o Y (I.ok.frf L J) J λz=>I.ok.exfs L z J;exact⟨hk,⟨L,_,O,hn,e,hd⟩,ih (λb F=>R b (by unfold uf;rw[Ex,O];exact Le _ F)) Z⟩
 exact all X.outer (λ_ F=>F) I.ok.funs

def La.stack  (I:La X pins σ H s):s.heap.FunFrames X.base X.stack:=by
 rcases I.ok.stk with e|⟨e,hf⟩
 ·rw[e];exact I.funs
 ·rw[e];obtain⟨m,z,_⟩:=I.loc;refine .cons (by rw[I.ok.kind];decide) hf z ?_ I.funs
  exact XB (Jb I.ok.bsz I.ok.above)
def La.stkSub  (I:La X pins σ H s):∀b∈uf X.stack,b∈X.env.locals::X.fs:=λb z=>by
 rcases I.ok.stk with e|⟨e,hf⟩
 ·rw[e]at z;exact Le _ z
 ·rw[e]at z;unfold uf at z;rw[Ex,hf]at z;exact z
def La.stkFree  (I:La X pins σ H s):∀b∈uf X.stack,H b=la:=λb F=>by
 rcases Oc.mp (I.stkSub b F)with e|F
 ·rw[e];exact I.free
 ·obtain⟨_,o,J,_⟩:=I.ok.funs.mem F;exact I.base.free b o J (I.ok.frf b F) λz=>I.ok.exfs b z F

def La.step     {ch:List Aa}(I:La X pins σ H s)
  (L:∀b∈ch,(b∈X.ex\/X.s₀.heap.objs.size<=b)/\b≠X.env.locals/\(∀x c,X.env.cells.lookup x=ca c->c≠b)/\∀p∈X.pn++pins,p.1≠b)
  (keep:∀b o,b≠X.env.locals->b∉X.fs->b∉ch->s.heap.get? b=ca o->H b=la->h'.get? b=ca o)
  (slot:∀b o,b≠X.env.locals->b∈X.fs->b∉ch->s.heap.get? b=ca o->H b=la->∃sl,h'.get? b=ca { o with slots:=sl }) (free:∀b o,b∉ch->s.heap.get? b=ca o->H b=la->H' b=la)
  (there:∀b o,b∉ch->s.heap.get? b=ca o->∃o',h'.get? b=ca o')
  (tups:∀b xs,H b=ca (.tup xs)->H' b=ca (.tup xs)) (frzs:∀b o u,H b=ca (.frz o u)->H' b=ca (.frz o u)) (tbls:∀b ps,H b=ca (.tbl ps)->∃xa,H' b=ca (.tbl (ps++xa)))
  (ns:∀m,s.heap.Ns X.env.locals m->h'.Ns X.env.locals m) (va:Md X.prog X.w H' h') (hg:re g') :
  La X pins σ H' { s with heap:=h',gens:=g',drawn:=d',toks:=t' }:=by
 have za:∀b o,X.s₀.heap.get? b=ca o->b≠X.env.locals:=λb o e=>dg (Mf (Nc e) I.ok.above);have Y:∀b o,X.s₀.heap.get? b=ca o->b∉X.ex->b∉ch:=λb o e F Z=>by
  rcases(L b Z).1 with z|z
  ·exact F z
  ·exact absurd (Mf (Nc e) z) (Ki _)
 have J:∀x c,X.env.cells.lookup x=ca c->∀v,s.heap.IsCell c v->h'.IsCell c v:=λx c e v ⟨o,ho,hd⟩=>by
  have O:c∉ch:=λz=>(L c z).2.2.1 x c e rfl;by_cases hc:c∈X.fs
  ·obtain⟨sl,q⟩:=slot c o (I.cne x c e) hc O ho (I.freeC x c e);exact⟨_,q,hd⟩
  ·exact⟨o,keep c o (I.cne x c e) hc O ho (I.freeC x c e),hd⟩
 refine⟨I.ok,I.os,hg,⟨λb o e n Z F=>?_,λb o e n Z F=>?_,λb o e n F=>?_,λb o e F=>?_,λb xs e=>tups b xs (I.base.tups b xs e),λb o xs e=>frzs b o xs (I.base.frzs b o xs e),λb ps e=>?_⟩,?_,λx c e=>?_,?_,λx c e=>?_,λp hp=>?_,va,I.len⟩
 ·exact keep b o (za b o e) Z (Y b o e F) (I.base.keep b o e n Z F) (I.base.free b o e n F)
 ·obtain⟨sl,R⟩:=I.base.slot b o e n Z F;obtain⟨ja,e2⟩:=slot b _ (za b o e) Z (Y b o e F) R (I.base.free b o e n F);exact⟨ja,e2⟩
 ·obtain⟨o',R⟩:=I.base.there b o e F;exact free b o' (Y b o e F) R (I.base.free b o e n F)
 ·obtain⟨o',R⟩:=I.base.there b o e F;exact there b o' (Y b o e F) R
 ·obtain⟨m1,R⟩:=I.base.tbls b ps e;obtain⟨m2,e2⟩:=tbls b _ R;exact⟨m1++m2,by rw[e2,rK]⟩
 ·obtain⟨m,hn,hl⟩:=I.loc;refine⟨m,ns m hn,λi x v R e2 e3=>?_⟩;obtain⟨u,r,l⟩:=hl i x v R e2 e3;refine⟨u,r,?_⟩;rcases l with l|⟨k,c,e,z⟩
  ·exact .inl l
  ·exact .inr ⟨k,c,e,J x c e _ z⟩
 ·obtain⟨v,z⟩:=I.cell x c e;exact⟨v,J x c e v z⟩
 ·obtain⟨m,⟨o,_,_,ho,_⟩,_⟩:=I.loc;exact free _ o (λz=>(L _ z).2.1 rfl) ho I.free
 ·obtain⟨v,o,ho,hd⟩:=I.cell x c e;exact free c o (λz=>(L c z).2.2.1 x c e rfl) ho (I.freeC x c e)
 ·obtain⟨e,n,ne,nf,d⟩:=I.pin p hp;have O:p.1∉ch:=λz=>(L p.1 z).2.2.2 p hp rfl;exact⟨keep p.1 p.2 ne nf O e n,free p.1 p.2 O e n,ne,nf,d⟩
def La.un   (I:La X pins σ H s)(u:Un X.fs [] H H' s.heap h')(R:Md X.prog X.w H' h'):La X pins σ H' { s with heap:=h',toks:=t' }:=by
 obtain⟨m,⟨o,es,ep,Y,r⟩,_⟩:=id I.loc;obtain⟨sl,Z⟩:=u.any Y I.free (by simp)
 exact I.step (g':=s.gens) (d':=s.drawn) (ch:=[]) (λ_ z=>nomatch z) (λb o _ J _ e n=>u.keep b o e n J (by simp)) (λb o _ J _ e n=>u.slot b o e n J (by simp)) (λb o _ e n=>u.free b o e n (by simp)) (λb o _ e=>u.there b o e (by simp)) u.tups u.frzs u.tbls (λm' hm=>by
  obtain⟨o',L,O,F,r'⟩:=hm;rw[Y]at F;cases F;exact⟨_,L,O,Z,r'⟩) R I.bare
def La.call      (I:La X pins σ H s)(u:Un (uf X.stack) ch H H' s.heap h')(Y:Md X.prog X.w H' h')(hg:re g')
  (J:∀b∈ch,(b∈X.ex\/X.s₀.heap.objs.size<=b)/\b≠X.env.locals/\(∀x c,X.env.cells.lookup x=ca c->c≠b)/\∀p∈X.pn++pins,p.1≠b) :
  La X pins σ H' { s with heap:=h',gens:=g',drawn:=d',toks:=t' }:=by
 obtain⟨m,⟨o,es,ep,ho,r⟩,_⟩:=id I.loc;obtain⟨sl,Z⟩:=u.any ho I.free λz=>(J _ z).2.1 rfl;exact I.step (ch:=ch) J (λb o Z hb F e n=>u.keep b o e n (λz=>(Oc.mp (I.stkSub b z)).elim Z hb) F) (λb o _ _ F e n=>u.any e n F) (λb o F e n=>u.free b o e n F) (λb o F e=>u.there b o e F) u.tups u.frzs u.tbls (λm' hm=>by
  obtain⟨o',O,R,L,r'⟩:=hm;rw[ho]at L;cases L;exact⟨_,O,R,Z,r'⟩) Y hg
def La.turned    (I:La X pins σ H s)(k:∀b o,b≠it->s.heap.get? b=ca o->h'.get? b=ca o)(hn:H it=la)(L:it≠X.env.locals)
  (h1:it∈X.ex\/X.s₀.heap.objs.size<=it) (Z:∀x c,X.env.cells.lookup x=ca c->c≠it) (Y:∀p∈X.pn++pins,p.1≠it):La X pins σ H { s with heap:=h',toks:=t' }:=by
 have J:∀b u,H b=ca u->b≠it:=λb u e z=>by rw[z,hn]at e;cases e
 refine I.step (g':=s.gens) (d':=s.drawn) (ch:=[it]) (λb O=>?_) (λb o _ _ F e _=>k b o (λz=>F (by simp[z])) e) (λb o _ _ F e _=>⟨o.slots,k b o (λz=>F (by simp[z])) e⟩) (λ_ _ _ _ n=>n)
  (λb o F e=>⟨o,k b o (λz=>F (by simp[z])) e⟩) (λ_ _ e=>e) (λ_ _ _ e=>e) (λb ps e=>⟨#[],by rw[e];simp⟩) (λm hm=>?_) (λb u e=>?_) I.bare
 ·have e:b=it:=by simpa using O
  subst e;exact⟨h1,L,Z,Y⟩
 ·obtain⟨o,es,ep,R,r⟩:=hm;exact⟨o,es,ep,k _ o (Ua L) R,r⟩
 ·refine(I.hok b u e).stay (λc v F q=>k c v ?_ q) (λ_ q=>q) λ_ _ q=>q;rcases F with z|z
  ·rw[z];exact J b u e
  ·exact J c _ z
def La.tok  (I:La X pins σ H s) t:La X pins σ H { s with toks:=t }:=I.un (h':=s.heap) (t':=t) Un.refl I.hok
def La.kept   (I:La X pins σ H s)(k:∀b u,s.heap.get? b=ca u->h'.get? b=ca u):La X pins σ H { s with heap:=h',toks:=t' }:=I.un (Un.kept k) (I.hok.kept k)
def La.laid  {a:Aa}(I:La X pins σ H s)(k:∀b u,s.heap.get? b=ca u->h'.get? b=ca u)(z:s.heap.objs.size<=a)(new:Sd X.prog X.w (upd H a o) h' a o) :
  La X pins σ (upd H a o) { s with heap:=h',toks:=t' }:=I.un (Un.laid k z (I.hok.fresh z)) (I.hok.laid k z new)
def La.write     (I:La X pins σ H s)(F:Dt (H x))(J:e=x\/H e=ca (.own x))(k:∀b u,b≠e->s.heap.get? b=ca u->h'.get? b=ca u)(z:∃u,h'.get? e=ca u)
  (new:Sd X.prog X.w (upd H x o) h' x o):La X pins σ (upd H x o) { s with heap:=h',toks:=t' }:=I.un (Un.write F J k z) (I.hok.write F J k z new)
def La.pins_of  {F:List (Aa×Obj)}(I:La X pins σ H s)(h:∀p∈F,s.heap.get? p.1=ca p.2/\H p.1=la/\p.1≠X.env.locals/\p.1∉X.fs/\∀v,p.2.data≠.cell v):La X F σ H s:=
 ⟨I.ok,I.os,I.bare,I.base,I.loc,I.cell,I.free,I.freeC,λp J=>(Oa.mp J).elim (λz=>I.pin p (nk _ z)) (h p),I.hok,I.len⟩

def Ov  {N:List Str}(y:N.Nodup){i j:Nat}(a:N[i]?=ca x)(b:N[j]?=ca x):i=j:=by
 obtain⟨J,z⟩:=Ka.mp a;obtain⟨I,F⟩:=Ka.mp b;exact(List.getElem_inj y).mp (z.trans F.symm)

section
variable {M:Mt}{A:Kb}{E:Ba->Da->Prop}{i:Nat}{x:Str}{v:V}{u:Ba}{Q:Unit->Da->Prop}
def iG (I:La X pins σ H s)(hN:X.N.Nodup)(hi:X.N[i]?=ca x)(R:Ml X.env.scope x)(r:RelV v u)
  (h:∀s',La X pins (σ.set i (ca v)) H s'->(∃a,Tw a s.heap s'.heap/\(a=X.env.locals\/X.env.cells.lookup x=ca a))->Q () s') (hf:X.fn x=da\/X.env.scope.names.lookup x=ca .local:=by first|exact .inl rfl|exact .inr rfl|assumption):wpAny M A (Qx X.env x u) Q E s:=by
 obtain⟨m,hn,hl⟩:=id I.loc;have ka:(X.env.scope.kind == .class||(X.env.scope.kind == .module&&X.env.locals != X.env.globals))=ia:=by rw[I.ok.kind];rfl
 have xa:i<σ.length:=by rw[I.len];exact(Ka.mp hi).1
 have cne:=I.cne;have J:∀{a:Aa} {h':Va},(∃o,s.heap.get? a=ca o/\H a=la)->Tw a s.heap h'->Md X.prog X.w H h':=λ{a h'} ha F b ob e=>by
  obtain⟨_,_,Y⟩:=ha;refine(I.hok b ob e).stay (λc w' O q=>(F.2 c ?_).trans q) (λ_ q=>q) λ_ _ q=>q;rintro rfl;rcases O with rfl|O
  ·rw[Y]at e;cases e
  ·rw[Y]at O;cases O
 rcases R with hk|hk
 ·refine wpAny_storeName_local hk hn (λh' zb F=>?_) ka;obtain⟨oL,_,_,jb,_⟩:=id hn;refine h _ ⟨I.ok,I.os,I.bare,⟨λb o e n hb R=>?_,λb o e n hb R=>?_,I.base.free,λb o e R=>?_,I.base.tups,I.base.frzs,I.base.tbls⟩,⟨_,zb,λj y v' L Z e3=>?_⟩,λy c e=>?_,I.free,I.freeC,λp hp=>?_,J ⟨oL,jb,I.free⟩ F,by simpa using I.len⟩ ⟨_,F,.inl rfl⟩
  ·exact(F.2 b (dg (Mf (Nc e) I.ok.above))).trans (I.base.keep b o e n hb R)
  ·obtain⟨sl,L⟩:=I.base.slot b o e n hb R;exact⟨sl,(F.2 b (dg (Mf (Nc e) I.ok.above))).trans L⟩
  ·obtain⟨o',L⟩:=I.base.there b o e R;exact⟨o',(F.2 b (dg (Mf (Nc e) I.ok.above))).trans L⟩
  ·by_cases hj:j=i
   ·subst hj;rw[hi]at L;cases L;rw[Rp xa]at Z;cases Z;exact⟨u,r,.inl ⟨hk,by simp⟩⟩
   ·rw[uj (Ua hj)]at Z;obtain⟨u',r',q⟩:=hl j y v' L Z e3;refine⟨u',r',?_⟩;rcases q with⟨k,e⟩|⟨k,c,e,z⟩
    ·refine .inl ⟨k,?_⟩;have:y≠x:=λe=>hj (Ov hN L (e ▸ hi));simp[this,e]
    ·exact .inr ⟨k,c,e,z.sameBut F (cne y c e)⟩
  ·obtain⟨w',z⟩:=I.cell y c e;exact⟨w',z.sameBut F (cne y c e)⟩
  ·obtain⟨e,n,ne,nf,d⟩:=I.pin p hp;exact⟨(F.2 p.1 ne).trans e,n,ne,nf,d⟩
 ·have za:X.fn x=da:=by
   rcases hf with z|z
   ·exact z
   ·rw[z]at hk;cases hk
  obtain⟨c,O⟩:=I.ok.has x (.inl hk);obtain⟨w',z⟩:=I.cell x c O;refine wpAny_storeName_cell I.ok.kind hk O z (λh' ya F=>?_);obtain⟨oc,xb,ja⟩:=id z;refine h { s with heap:=h' } ⟨I.ok,I.os,I.bare,⟨λb o e n hb R=>?_,λb o e n hb R=>?_,I.base.free,λb o e R=>?_,I.base.tups,I.base.frzs,I.base.tbls⟩,⟨m,hn.sameBut F (Ua (cne x c O)),λj y v' L Z e3=>?_⟩,λy c' e=>?_,I.free,I.freeC,λp hp=>?_,J ⟨oc,xb,I.freeC x c O⟩ F,by simpa using I.len⟩ ⟨c,F,.inr O⟩
  ·exact(F.2 b (dg (Mf (Nc e) (I.ok.cab x c za O)))).trans (I.base.keep b o e n hb R)
  ·obtain⟨sl,L⟩:=I.base.slot b o e n hb R;exact⟨sl,(F.2 b (dg (Mf (Nc e) (I.ok.cab x c za O)))).trans L⟩
  ·obtain⟨o',L⟩:=I.base.there b o e R;exact⟨o',(F.2 b (dg (Mf (Nc e) (I.ok.cab x c za O)))).trans L⟩
  ·by_cases hj:j=i
   ·subst hj;rw[hi]at L;cases L;rw[Rp xa]at Z;cases Z;exact⟨u,r,.inr ⟨.inl hk,c,O,ya⟩⟩
   ·rw[uj (Ua hj)]at Z;obtain⟨u',r',q⟩:=hl j y v' L Z e3;refine⟨u',r',?_⟩;rcases q with q|⟨k,c',e,z'⟩
    ·exact .inl q
    ·refine .inr ⟨k,c',e,z'.sameBut F ?_⟩;rintro rfl;exact hj (Ov hN L (I.ok.inj _ _ _ e O ▸ hi))
  ·by_cases va:c'=c
   ·subst va;exact⟨_,ya⟩
   ·obtain⟨w2,z2⟩:=I.cell y c' e;exact⟨w2,z2.sameBut F va⟩
  ·obtain⟨e,n,ne,nf,d⟩:=I.pin p hp;refine⟨(F.2 p.1 ?_).trans e,n,ne,nf,d⟩;intro q;rw[q,xb]at e;have q':oc=p.2:=Te e;exact d w' (by rw[<- q'];exact ja)
def Wm (I:La X pins σ H s)(y:X.N.Nodup)(z:X.N[i]?=ca x)(F:Ml X.env.scope x)(r:RelV v u)
  (h:∀s',La X pins (σ.set i (ca v)) H s'->Q () s') (J:X.fn x=da\/X.env.scope.names.lookup x=ca .local:=by first|exact .inl rfl|exact .inr rfl|assumption):wpAny M A (Qx X.env x u) Q E s:=
 iG I y z F r (λs' L _=>h s' L) J
end
def La.call'    (I:La X pins σ H s)(J:s'.os=s.os)(u:Un (uf X.stack) ch H H' s.heap s'.heap)(F:Md X.prog X.w H' s'.heap)(O:re s'.gens)
  (z:∀b∈ch,(b∈X.ex\/X.s₀.heap.objs.size<=b)/\b≠X.env.locals/\(∀x c,X.env.cells.lookup x=ca c->c≠b)/\∀p∈X.pn++pins,p.1≠b):La X pins σ H' s':=by
 obtain⟨R,g',d',t',L⟩:=s';have e:L=s.os:=J;subst e;exact I.call (g':=g') (t':=t') (d':=d') u F O z
end

abbrev XK:=Ba->Option Aa->Hp->Prop
abbrev St:=List (Option V)
abbrev VK:=V->Hp->Prop
abbrev TE:=St->Hp->VK->Prop
abbrev TT:=St->Hp->(Bool->Hp->Prop)->Prop
abbrev TA:=St->Hp->(List V->Hp->Prop)->Prop
structure Ends where
 nx:St->Hp->Prop
 rt:VK
 bk:St->Hp->Prop:=λ_ _=>False
 ct:St->Hp->Prop:=λ_ _=>False
abbrev TS:=Ends->St->Hp->Prop

def EP  (X:Cx)(pins:List (Aa×Obj))(z:St)(Q:VK)(u:Ba)(s':Da):Prop:=∃v y,La X pins z y s'/\RelV v u/\Q v y
def TP  (X:Cx)(pins:List (Aa×Obj))(z:St)(Q:Bool->Hp->Prop)(b:Bool)(s':Da):Prop:=∃y,La X pins z y s'/\Q b y
def AP  (X:Cx)(pins:List (Aa×Obj))(F:St)(Q:List V->Hp->Prop)(us:List Ba)(s':Da):Prop:=∃z y,La X pins F y s'/\Vals z us/\Q z y
def SP  (X:Cx)(pins:List (Aa×Obj))(D:Ends)(f:Flow)(s':Da):Prop:=
 match f with
 |.next=>∃y z,La X pins y z s'/\D.nx y z
 |.brk=>∃y z,La X pins y z s'/\D.bk y z
 |.cont=>∃y z,La X pins y z s'/\D.ct y z
 |.ret u=>∃v y z,La X pins y z s'/\RelV v u/\D.rt v z

def PE  (X:Cx)(e:Ia)(t:TE):Prop:=
 ∀(y:List (Aa×Obj)) (s:Da) (σ:St) (H:Hp) (Q:VK),La X y σ H s->t σ H Q->wpAny (Fa X.prog X.w) X.A (lb e X.env) (EP X y σ Q) X.xe s
def PT  (X:Cx)(e:Ia)(t:TT):Prop:=
 ∀(y:List (Aa×Obj)) (s:Da) (σ:St) (H:Hp) (Q:Bool->Hp->Prop),La X y σ H s->t σ H Q->wpAny (Fa X.prog X.w) X.A (ce e X.env (lb e X.env)) (TP X y σ Q) X.xe s
def PW  (X:Cx)(e:Ia)(t:TT):Prop:=
 ∀(y:Sem Ba) (pins:List (Aa×Obj)) (s:Da) (σ:St) (H:Hp) (Q:Bool->Hp->Prop),La X pins σ H s->t σ H Q->wpAny (Fa X.prog X.w) X.A (ce e X.env y) (TP X pins σ Q) X.xe s
def PW.pt     (h:PW X e t):PT X e t:=h _
def PA  (X:Cx)(y:List Ia)(t:TA):Prop:=
 ∀(pos:Pos) (pins:List (Aa×Obj)) (s:Da) (σ:St) (H:Hp) (Q:List V->Hp->Prop),La X pins σ H s->t σ H Q->wpAny (Fa X.prog X.w) X.A (spliced (Tb pos (uc y X.env))) (AP X pins σ Q) X.xe s
def PS  (X:Cx)(st:Pa)(t:TS):Prop:=
 ∀(y:List (Aa×Obj)) (s:Da) (σ:St) (H:Hp) (D:Ends),La X y σ H s->t D σ H->wpAny (Fa X.prog X.w) X.A (exec st X.env) (SP X y D) X.xe s
def Fd  (X:Cx)(st:List Pa)(t:TS):Prop:=
 ∀(y:List (Aa×Obj)) (s:Da) (σ:St) (H:Hp) (D:Ends),La X y σ H s->t D σ H->wpAny (Fa X.prog X.w) X.A (execs st X.env) (SP X y D) X.xe s
def Db    {Q y:α->Da->Prop}(h:wpAny M A t Q E s)(z:∀a s,Q a s->y a s):wpAny M A t y E s:=Pe h z λ_ _ x=>x
section
variable {X:Cx}

def tVar  (i:Nat):TE:=λy H Q=>∃v,y[i]?=ca (ca v)/\Q v H
def tC  (v:V):TE:=λ_ H Q=>Q v H
def Ji {i:Nat}{x:Str}{pos:Pos}(L:X.N[i]?=ca x)(R:Ai X.env.scope x)(hd:(x==("__debug__" : Str))=ia:=by decide)(F:(x==("__classdict__" : Str))=ia:=by decide):PE X (.Name x pos) (tVar i):=by
 intro z s Y H Q I h;obtain⟨v,e,h⟩:=h;obtain⟨m,O,J⟩:=I.loc;obtain⟨u,r,l⟩:=J i x v L e R;have y:EP X z Y Q u s:=⟨v,H,I,r,h⟩;rcases l with⟨hk,Z⟩|⟨hk,c,hc,hcell⟩
 ·exact cq (wpAny_loadName_local I.ok.kind hk O Z y) hd
 ·rcases hk with hk|hk
  ·exact cq (wpAny_loadName_cell I.ok.kind hk hc hcell y) hd
  ·exact cq (wpAny_loadName_free I.ok.kind hk hc hcell y F) hd
def iQ   : PE X (.Constant (.int i) j pos) (tC (.int i)):=λ_ _ _ H _ I h=>wpAny_Constant_int ⟨.int i,H,I.tok _,⟨_,rfl⟩,h⟩
def MD   : PE X (.Constant (.bool b) j pos) (tC (.bl b)):=λ_ _ _ H _ I h=>Constant_bool ⟨.bl b,H,I,rfl,h⟩
def kQ   : PE X (.Constant .none j pos) (tC .non):=λ_ _ _ H _ I h=>Constant_none ⟨.non,H,I,rfl,h⟩
def mE   : PE X (.Constant (.str x) j pos) (tC (.str x)):=λ_ _ _ H _ I h=>Calls.Constant_str ⟨.str x,H,I.tok _,⟨_,rfl⟩,h⟩

def Gl  (X:Cx)(x:Str):Prop:=X.env.kindOf x=ca .globalImplicit
section
variable {E:Ba->Da->Prop}{pins:List (Aa×Obj)}{s:Da}{σ:St}{H:Hp}{x:Str}{u:Ba}{pos:Pos}{Q:Ba->Da->Prop}
def jp (I:La X pins σ H s)(z:Gl X x)(y:X.mg x=ca u)(h:Q u s)
  (hd:(x==("__debug__" : Str))=ia:=by decide):wpAny (Fa X.prog X.w) X.A (lb (.Name x pos) X.env) Q E s:=
 mL I.ok.kind z (Calls.loadGlobal_global (by rw[I.ok.glob];exact I.mod.glob.keeps I.bk) y h) hd
def Wo (I:La X pins σ H s)(O:Gl X x)(L:X.mg x=la)(J:rj x=ca u)(h:Q u s)
  (F:x ≠ "__name__" := by decide) (hd:(x==("__debug__" : Str))=ia:=by decide):wpAny (Fa X.prog X.w) X.A (lb (.Name x pos) X.env) Q E s:=by
 obtain⟨R,z,y⟩:=I.mod.blt;exact mL I.ok.kind O (Calls.loadGlobal_builtin (by rw[I.ok.glob];exact I.mod.glob.keeps I.bk) L (by rw[I.ok.blt];exact z.keeps I.bk) ((y x F).trans J) h) hd
end
section
variable {x:Str}{v:V}{u:Ba}{pos:Pos}
def Zy (z:Gl X x)(y:X.mg x=ca u)(r:RelV v u)(hd:(x==("__debug__" : Str))=ia:=by decide):PE X (.Name x pos) (tC v):=
 λ_ _ _ H _ I h=>jp I z y ⟨v,H,I,r,h⟩ hd
def xF (F:Gl X x)(y:X.mg x=la)(J:rj x=ca u)(r:RelV v u)(z:x ≠ "__name__" := by decide)(hd:(x==("__debug__" : Str))=ia:=by decide):PE X (.Name x pos) (tC v):=
 λ_ _ _ H _ I h=>Wo I F y J ⟨v,H,I,r,h⟩ z hd

end
variable {a b:Ia}{ta tb:TE}{pos:Pos}
def tB  (t:TE):TT:=λy H Q=>t y H λx z=>∃c,x=.bl c/\Q c z
def wQ {e:Ia}{t:TE}(h:PE X e t)(J:∀y,ce e X.env y=(do let v <- y;be e.pos;Wb [v] (Bj v)):=by intro _;rfl):PT X e (tB t):=by
 intro z s O H Q I F;refine isTrue_plain (Db (h z s O H _ I F) λv s1 ⟨x,R,L,r1,q1⟩=>?_) (J _);obtain⟨d,rfl,q⟩:=q1;cases r1;exact Si ⟨R,L,q⟩

def tAnd  (t u:TT):TT:=λy H Q=>t y H λc z=>if c=da then u y z Q else Q ia z
def bM  (t u:TT):TT:=λy H Q=>t y H λc z=>if c=da then Q da z else u y z Q
def tNot  (t:TT):TT:=λy H Q=>t y H λc z=>Q (!c) z
def pw_and1  (F:PT X a z):PW X (.BoolOp .And [a] pos) z:=by
 intro L y s J H Q I h;refine isTrue_and (Db (F y s J H Q I h) λc s1 e=>?_);cases c with
 |true=>exact isTrue_and_nil e
 |false=>exact e
def pw_or1  (F:PT X a z):PW X (.BoolOp .Or [a] pos) z:=by
 intro L y s J H Q I h;refine isTrue_or (Db (F y s J H Q I h) λc s1 e=>?_);cases c with
 |false=>exact isTrue_or_nil e
 |true=>exact e
def pw_and  {rest: List Ia}(Y:PT X a O)(R:PW X (.BoolOp .And (b::rest) pos) z):PW X (.BoolOp .And (a::b::rest) pos) (tAnd O z):=by
 intro Z y s F H Q I h;refine isTrue_and (Db (Y y s F H _ I h) λc s1 ⟨L,J,q1⟩=>?_);cases c with
 |true=>exact R Z y s1 F L Q J q1
 |false=>exact⟨L,J,q1⟩
def pw_or  {rest: List Ia}(Y:PT X a O)(R:PW X (.BoolOp .Or (b::rest) pos) z):PW X (.BoolOp .Or (a::b::rest) pos) (bM O z):=by
 intro Z y s F H Q I h;refine isTrue_or (Db (Y y s F H _ I h) λc s1 ⟨L,J,q1⟩=>?_);cases c with
 |true=>exact⟨L,J,q1⟩
 |false=>exact R Z y s1 F L Q J q1
def oE  (F:PT X a z):PT X (.UnaryOp .Not a pos) (tNot z):=by
 intro y s J H Q I h;exact isTrue_not (F y s J H (λc L=>Q (!c) L) I h)
def RN  (F tb:TE):TE:=λy H Q=>F y H λx z=>∃c,x=.bl c/\if c=da then tb y z Q else Q (.bl ia) z
def tOrV  (F tb:TE):TE:=λy H Q=>F y H λx z=>∃c,x=.bl c/\if c=da then Q (.bl da) z else tb y z Q
def XN  (F:TE):TE:=λy H Q=>F y H λx z=>∃c,x=.bl c/\Q (.bl (!c)) z
def nv    (h:PE X a t):PE X (.BoolOp op [a] pos) t:=λy s z H Q I F=>BoolOp_one (h y s z H Q I F)
def KQ  {rest: List Ia}(O:PE X a ta)(L:PE X (.BoolOp .And (b::rest) pos) tb):PE X (.BoolOp .And (a::b::rest) pos) (RN ta tb):=by
 intro y s F H Q I h;refine BoolOp_and (Db (O y s F H _ I h) λv s1 ⟨x,J,z,r1,q1⟩=>?_);obtain⟨c,rfl,q1⟩:=q1;cases r1;refine Si ?_;cases c with
 |true=>exact L y s1 F J Q z q1
 |false=>exact⟨.bl ia,J,z,rfl,q1⟩
def vO  {rest: List Ia}(O:PE X a ta)(L:PE X (.BoolOp .Or (b::rest) pos) tb):PE X (.BoolOp .Or (a::b::rest) pos) (tOrV ta tb):=by
 intro y s F H Q I h;refine BoolOp_or (Db (O y s F H _ I h) λv s1 ⟨x,J,z,r1,q1⟩=>?_);obtain⟨c,rfl,q1⟩:=q1;cases r1;refine Si ?_;cases c with
 |false=>exact L y s1 F J Q z q1
 |true=>exact⟨.bl da,J,z,rfl,q1⟩
def lQ  (z:PE X a ta):PE X (.UnaryOp .Not a pos) (XN ta):=by
 intro y s F H Q I h;refine UnaryOp_ (Db (z y s F H _ I h) λv s1 ⟨x,L,J,r1,q1⟩=>?_);obtain⟨c,rfl,q1⟩:=q1;cases r1;exact not_of (Si ⟨.bl (!c),L,J,rfl,q1⟩)
def cM  (t:TT)(F tb:TE):TE:=λy H Q=>t y H λc z=>if c=da then F y z Q else tb y z Q
def wU   (Y:PT X c L)(R:PE X a ta)(O:PE X b tb):PE X (.IfExp c a b pos) (cM L ta tb):=by
 intro y s z H Q I h;refine wpAny_IfExp (Db (Y y s z H _ I h) λd s1 ⟨J,F,q1⟩=>?_);cases d with
 |true=>exact R y s1 z J Q F q1
 |false=>exact O y s1 z J Q F q1
end

def Zc  (K:Hb)(H:Hp)(a:Aa)(xs:List V):Prop:=
 Rd H a (.lst xs)\/
  ∃(o:Obj) (its:Array Ba) (n:Nat),K.lookup a=ca o/\o.cls=.type "list" /\ o.dict=la/\o.data=.seq its n/\its.size<=Wa/\Vals xs its.toList
def Pc  (K:Hb)(H:Hp)(a:Aa)(xs:List V):Prop:=
 Rd H a (.tup xs)\/
  ∃(o:Obj) (its:Array Ba) (n:Nat),K.lookup a=ca o/\o.cls=.type "tuple" /\ o.data=.seq its n/\its.size<=Wa/\Vals xs its.toList
noncomputable def absV  : Ba->Option V
 |.none=>ca .non
 |.bool b=>ca (.bl b)
 |.int i _=>ca (.int i)
 |.str x _=>ca (.str x)
 |.bytes b _=>ca (.byt b)
 |.float b _=>ca (.flt b)
 |.ref a=>ca (.ref a)
 |.type n=>ca (.ty n)
 |_=>la
def RelV.abs    (r:RelV x u):absV u=ca x:=by
 cases x with
 |non=>cases r;rfl
 |bl _=>cases r;rfl
 |int _=>obtain⟨t,rfl⟩:=r;rfl
 |str _=>obtain⟨t,rfl⟩:=r;rfl
 |byt _=>obtain⟨t,rfl⟩:=r;rfl
 |flt _=>obtain⟨t,rfl⟩:=r;rfl
 |ref _=>cases r;rfl
 |ty _=>cases r;rfl
def RelV.inj    (r:RelV x u)(q:RelV y u):x=y:=Te (r.abs.symm.trans q.abs)
theorem Vals.inj  : ∀{xs ys } {us },Vals xs us->Vals ys us->xs=ys
 |_,_,_,.nil,.nil=>rfl
 |_,_,_,.cons r t,.cons r' t'=>by rw[r.inj r',Vals.inj t t']

def Zc.of  {K:Hb}(h:H a=ca (.lst xs)):Zc K H a xs:=.inl (.inl h)
def Pc.of  {K:Hb}(h:H a=ca (.tup xs)):Pc K H a xs:=.inl (.inl h)
def La.list  {J: St}(I:La X pins J H s)(h:Zc X.K H a xs):∃F ,Vals xs F/\PlainL s.heap a F.toArray/\xs.length<=Wa:=by
 rcases h with h|⟨o,F,n,hk,hc,hd,hs,hz,r⟩
 ·obtain⟨z,F,n,r,e⟩:=h.ok I.hok;exact⟨F,r,⟨_,n,e,rfl,rfl,rfl⟩,z⟩
 ·refine⟨F.toList,r,⟨o,n,I.kIn a o hk,hc,hd,by simpa using hs⟩,?_⟩
  have e:=r.length;simp only[TB]at e
  lia
def La.tuple  {J: St}(I:La X pins J H s)(h:Pc X.K H a xs):∃F ,Vals xs F/\Vi s.heap a F.toArray/\xs.length<=Wa:=by
 rcases h with h|⟨o,F,n,hk,hc,hs,hz,r⟩
 ·obtain⟨z,F,r,p⟩:=h.ok I.hok;exact⟨F,r,p.tup,z⟩
 ·refine⟨F.toList,r,⟨o,I.kIn a o hk,hc,n,by simpa using hs⟩,?_⟩
  have e:=r.length;simp only[TB]at e
  lia
def La.list_inj  {R: St}(I:La X pins R H s)(h:Zc X.K H a xs)(h':Zc X.K H a ys):xs=ys:=by
 obtain⟨F,r,⟨o,n,e,_,_,d⟩,_⟩:=I.list h;obtain⟨z,O,⟨Y,Z,J,_,_,L⟩,_⟩:=I.list h';rw[e]at J;cases J;rw[d]at L;injection L with d1 _
 have:F=z:=by simpa using congrArg Array.toList d1
 subst this;exact r.inj O
def La.tuple_inj  {R: St}(I:La X pins R H s)(h:Pc X.K H a xs)(h':Pc X.K H a ys):xs=ys:=by
 obtain⟨F,r,⟨o,e,_,n,d⟩,_⟩:=I.tuple h;obtain⟨z,O,⟨Y,J,_,Z,L⟩,_⟩:=I.tuple h';rw[e]at J;cases J;rw[d]at L;injection L with d1 _
 have:F=z:=by simpa using congrArg Array.toList d1
 subst this;exact r.inj O

noncomputable abbrev Cx.wish  (X:Cx)(E:Ba->Da->Prop):Cx:={ X with xe:=E }
def Cx.Ok.wish  {X:Cx}(ok:X.Ok) E:(X.wish E).Ok:=
 ⟨ok.mod,ok.kind,ok.glob,ok.blt,ok.above,ok.inj,ok.has,ok.cab,ok.hd,ok.frames,ok.stk,ok.exf,ok.bs,ok.bsz,ok.noex,ok.exfs,ok.funs,ok.frf⟩
def Cx.Ok.unwish  {X:Cx}(ok:(X.wish E).Ok):X.Ok:=
 ⟨ok.mod,ok.kind,ok.glob,ok.blt,ok.above,ok.inj,ok.has,ok.cab,ok.hd,ok.frames,ok.stk,ok.exf,ok.bs,ok.bsz,ok.noex,ok.exfs,ok.funs,ok.frf⟩
section
variable {X:Cx}{pins:List (Aa×Obj)}{σ:St}{H:Hp}{s:Da}{E:Ba->Da->Prop}
def La.wish  (I:La X pins σ H s) E:La (X.wish E) pins σ H s:=⟨I.ok.wish E,I.os,I.bare,I.base,I.loc,I.cell,I.free,I.freeC,I.pin,I.hok,I.len⟩
def La.unwish  (I:La (X.wish E) pins σ H s):La X pins σ H s:=⟨I.ok.unwish,I.os,I.bare,I.base,I.loc,I.cell,I.free,I.freeC,I.pin,I.hok,I.len⟩
theorem SP.unwish     (h:SP (X.wish E) pins D f s'):SP X pins D f s':=by
 cases f with
 |next=>obtain⟨z,F,I,q⟩:=h;exact⟨z,F,I.unwish,q⟩
 |brk=>obtain⟨z,F,I,q⟩:=h;exact⟨z,F,I.unwish,q⟩
 |cont=>obtain⟨z,F,I,q⟩:=h;exact⟨z,F,I.unwish,q⟩
 |ret u=>obtain⟨v,z,F,I,r,q⟩:=h;exact⟨v,z,F,I.unwish,r,q⟩
end

section
variable {X:Cx}{st:Pa}{rest:List Pa}{t u:TS}{e:Ia}{te:TE}{pos:Pos}
def VN  : TS:=λD y H=>D.nx y H
def tSeq  (t u:TS):TS:=λD y H=>t { D with nx:=u D } y H
def bz  : Fd X [] VN:=λ_ _ y H _ I h=>gt ⟨y,H,I,h⟩
def zz  (J:PS X st t)(F:Fd X rest u):Fd X (st::rest) (tSeq t u):=by
 intro y s O H D I h;refine On (Db (J y s O H { D with nx:=u D } I h) λf s1 q=>?_)
 cases f with
 |next=>
  obtain⟨z,R,L,q⟩:=q;exact F y s1 z R D L q
 |ret v=>exact q
 |brk=>exact q
 |cont=>exact q
def rS  (F:PS X st t):Fd X [st] t:=by
 intro y s z H D I h;refine On (Db (F y s z H D I h) λf s1 q=>?_);cases f with
 |next=>exact gt q
 |ret v=>exact q
 |brk=>exact q
 |cont=>exact q
def La.quiet   {z:St}(I:La X pins z H s):interactive X.env=ia:=by simp[interactive,I.ok.kind]
def UN  (F:TE):TS:=λD y H=>F y H λ_ z=>D.nx y z
def qS (F:PE X e te)(hs:ii e la pos.line X.env=pure ia:=by rfl):PS X (.Expr e pos) (UN te):=by
 intro y s z H D I h;exact wpAny_Expr_any (Db (F y s z H _ I h) λv s1 ⟨x,L,J,r1,q1⟩=>⟨z,L,J,q1⟩) I.quiet hs
def tRet  (z:TE):TS:=λD y H=>z y H D.rt
def vQ  (J:PE X e te):PS X (.Return (ca e) pos) (tRet te):=by
 intro y s z H D I h;exact wpAny_Return_some (Db (J y s z H _ I h) λv s1 ⟨x,L,F,r1,q1⟩=>⟨x,z,L,F,r1,q1⟩)
def tIfS  (c:TT)(t u:TS):TS:=λD y H=>c y H λb z=>if b=da then t D y z else u D y z
def FD     (R:PT X c tc)(O:Fd X a t)(L:Fd X b u):PS X (.If c a b pos) (tIfS tc t u):=by
 intro y s z H D I h;refine wpAny_If (Db (R y s z H _ I h) λd s1 ⟨J,F,q1⟩=>?_);cases d with
 |true=>exact O y s1 z J D F q1
 |false=>exact L y s1 z J D F q1
end

abbrev TG:=V->St->Hp->(St->Hp->Prop)->Prop
abbrev Hl:=List V->St->Hp->(St->Hp->Prop)->Prop
def PG  (X:Cx)(y:Ia)(t:TG):Prop:=
 ∀(z:List (Aa×Obj)) (s:Da) (σ:St) (H:Hp) (v:V) (u:Ba) (Q:St->Hp->Prop),La X z σ H s->RelV v u->t v σ H Q->
  wpAny (Fa X.prog X.w) X.A (Ec y X.env u) (λ_ J=>∃F I,La X z F I J/\Q F I) X.xe s
def Ci  (X:Cx)(ts:List Ia)(t:Hl):Prop:=
 ∀(y:List (Aa×Obj)) (s:Da) (σ:St) (H:Hp) (vs:List V) (us:List Ba) (Q:St->Hp->Prop),La X y σ H s->Vals vs us->t vs σ H Q->
  wpAny (Fa X.prog X.w) X.A (nB ((ug ts X.env).map (·.2)) us) (λ_ I=>∃z F,La X y z F I/\Q z F) X.xe s
abbrev TSet:=V->V->V->Hp->(Hp->Prop)->Prop
def PSet  (X:Cx)(t:TSet):Prop:=
 ∀(y:List (Aa×Obj)) (s:Da) (σ:St) (H:Hp) (o i v:V) (ov iv u:Ba) (Q:Hp->Prop),La X y σ H s->RelV o ov->RelV i iv->RelV v u->t o i v H Q->
  wpAny (Fa X.prog X.w) X.A (Ve ov iv u) (λ_ F=>∃z,La X y σ z F/\Q z) X.xe s
abbrev aq:=V->V->Hp->VK->Prop
def JC  (X:Cx)(F:Vj)(t:aq):Prop:=
 ∀(z:List (Aa×Obj)) (s:Da) (σ:St) (H:Hp) (x y:V) (v u:Ba) (Q:VK),La X z σ H s->RelV x v->RelV y u->t x y H Q->
  wpAny (Fa X.prog X.w) X.A (Fp F v u) (EP X z σ Q) X.xe s
section
variable {X:Cx}{pos:Pos}
def Er  (i:Nat):TG:=λv y H Q=>Q (y.set i (ca v)) H
def az {i:Nat}{x:Str}(z:X.N.Nodup)(F:X.N[i]?=ca x)(J:Ml X.env.scope x)(L:X.fn x=da\/X.env.scope.names.lookup x=ca .local:=by first|exact .inl rfl|exact .inr rfl|assumption):PG X (.Name x pos) (Er i):=by
 intro y s R H v u Q I r h;exact wpAny_assign_Name (Wm I z F J r (λY O=>⟨_,H,O,h⟩) L)
def gNil  : Hl:=λz y H Q=>z=[]/\Q y H
def MM  (t:TG)(u:Hl):Hl:=λI z H Q=>∃v r,I=v::r/\t v z H λy F=>u r y F Q
def VS  : Ci X [] gNil:=by
 intro y s z H J F Q I r h;obtain⟨e,h⟩:=h;subst e;cases r;exact assignInOrder_nil ⟨z,H,I,h⟩
def yU {e:Ia}{z:List Ia}{t:TG}{u:Hl}(O:PG X e t)(L:Ci X z u)
  (hs:(ug (e::z) X.env).map (·.2)=Ec e X.env::(ug z X.env).map (·.2):=by rfl):Ci X (e::z) (MM t u):=by
 intro y s Y H vs us Q I r h;obtain⟨v,vr,R,h⟩:=h;subst R;cases r with
 |cons r rr=>
  rw[hs];refine uC (Db (O y s Y H _ _ _ I r h) λ_ s1 ⟨F,Z,J,q1⟩=>?_);exact L y s1 F Z _ _ Q J rr q1
def gTup  (K:Hb)(n:Nat)(t:Hl):TG:=λv z H Q=>∃a y,v=.ref a/\Pc K H a y/\y.length=n/\t y z H Q
def oQ {z:List Ia}{k:Nat}{t:Hl}{n:Nat}(Y:X.calm=da)(h:Ci X z t)
  (hn:(ug z X.env).length=n:=by rfl) (J:(ug z X.env).findIdx? (·.1)=la:=by rfl):PG X (.Tuple z k pos) (gTup X.K n t):=by
 intro y s O H v u Q I r F;obtain⟨a,Z,e1,hq,hl,F⟩:=F;subst e1;cases r;obtain⟨R,L,ht,hz⟩:=I.tuple hq;refine assign_Tuple_tuple (I.ok.hd Y) ht (by simp[hn,<- hl,L.length]) J λh' hx=>?_
 have I1:La X y O H { s with heap:=h' }:=I.kept (t':=s.toks) λb o e=>hx b o (dg (Nc e)) e
 exact h y _ O H Z _ Q I1 (by simpa using L) F
def gSub  (z F:TE)(t:TSet):TG:=λv y H Q=>z y H λo J=>F y J λi I=>t o i v I λL=>Q y L
def nQ {o i:Ia}{O R:TE}{t:TSet}(ho:PE X o O)(hi:PE X i R)(hs:PSet X t)
  (ha:∀v,Ec (.Subscript o i pos) X.env v=(do
   let F <- Wb [v] (lb o X.env)
   let J <- Wb [v,F] (lb i X.env)
   be pos
   Wb [v,F,J] (Ve F J v)
   dh [v,F,J] []):=by intro _;rfl):PG X (.Subscript o i pos) (gSub O R t):=by
 intro z s L H v u Q I r h;rw[ha];refine db (al (Db (ho z s L H _ I h) λF s1 ⟨x,H1,I1,r1,q1⟩=>?_));refine db (al (Db (hi z s1 L H1 _ I1 q1) λJ s2 ⟨y,H2,Y,r2,q2⟩=>?_));refine db (ml (db (al (Db (hs z s2 L H2 x y v F J u _ Y r1 r2 r q2) λ_ s3 ⟨H3,Z,q3⟩=>?_))));exact wpAny_release ⟨L,H3,Z,q3⟩
def tAsg  (F:TE)(g:TG):TS:=λD y H=>F y H λx z=>g x y z D.nx
def Iy {z e:Ia}{F:TE}{g:TG}(O:PE X e F)(hg:PG X z g)(hs:sj [z] e pos.line X.env=pure ia:=by rfl)(L:li [z] e X.env=pure la:=by rfl)
  (Y:(ug [z] X.env).map (·.2)=[Ec z X.env]:=by rfl):PS X (.Assign [z] e pos) (tAsg F g):=by
 intro y s J H D I h;refine wpAny_Assign_stores (Db (O y s J H _ I h) λv s1 ⟨x,Z,R,r1,q1⟩=>?_) hs L;rw[Y];exact Db (hg y s1 J Z x v _ R r1 q1) λ_ s2 q=>q
def tPar  (i j:Nat)(F:TA):TS:=λD y H=>F y H λI z=>∃v w,I=[v,w]/\D.nx ((y.set i (ca v)).set j (ca w)) z
def uQ {i j:Nat}{x y:Str}{a b:Ia}{ta:TA}{O py pt:Pos}{Z k2 F}(hc:X.calm=da)(hN:X.N.Nodup)(hi:X.N[i]?=ca x)(hj:X.N[j]?=ca y)(xa:i≠j)
  (hx:X.env.scope.names.lookup x=ca .local) (hy:X.env.scope.names.lookup y=ca .local) (ha:PA X [a,b] ta)
  (hw:li [.Tuple [.Name x O,.Name y py] Z pt] (.Tuple [a,b] k2 F) X.env=pure (ca [x,y]))
  (hs:sj [.Tuple [.Name x O,.Name y py] Z pt] (.Tuple [a,b] k2 F) pos.line X.env=pure ia:=by rfl) :
  PS X (.Assign [.Tuple [.Name x O,.Name y py] Z pt] (.Tuple [a,b] k2 F) pos) (tPar i j ta):=by
 intro z s σ H D I h;rw[exec_Assign_arm];refine db (ml ?_);rw[hs];refine db (Zb ?_);rw[if_neg (by decide)]
 refine db (Tuple_ (Db (ha _ z s σ H _ I h) λus s1 ⟨vs,H1,I1,r1,q1⟩=>?_));obtain⟨v,w,e1,q1⟩:=q1;subst e1;obtain⟨J,L,rfl,rv,Y⟩:∃J L,us=[J,L]/\RelV v J/\RelV w L:=by
  cases r1 with
  |cons p q=>
   cases q with
   |cons p' q'=>
    cases q';exact⟨_,_,rfl,p,p'⟩
 refine Ri ?_ (by show 2<=Wa;decide)
 have I2:La X z σ H1 { s1 with heap:=s1.heap.push { cls:=.type "tuple",data:=.seq [J,L].toArray } }:=I1.kept (t':=s1.toks) λb o e=>Uc _ e
 rw[hw];refine db (Zb ?_);show wpAny (Fa X.prog X.w) X.A (do rule "assign.swapped-stores";let items <- unpackItems (.ref s1.heap.objs.size) 2 la;nB [λv=>Cp X.env y v,λv=>Cp X.env x v] items.reverse;pure Flow.next) _ _ _
 refine db (wpAny_rule (db (unpackItems_tuple (items:=#[J,L]) (I.ok.hd hc) (Vi.new s1.heap _) λh' R=>?_)));have I3:=I2.kept (h':=h') (t':=s1.toks) λb o e=>R b o (dg (Nc e)) e;show wpAny _ _ (nB [λv=>Cp X.env y v,λv=>Cp X.env x v] [L,J] >>= λ_=>pure Flow.next) _ _ _
 refine db (uC (wpAny_bindName (Wm I3 hN hj (.inl hy) Y (λs2 I4=>?_) (.inr hy))));refine uC (wpAny_bindName (Wm I4 hN hi (.inl hx) rv (λs3 I5=>assignInOrder_nil (Zb ?_)) (.inr hx)));rw[List.set_comm _ _ (Ua xa)]at I5;exact⟨_,H1,I5,q1⟩
def tAug  (i:Nat)(I:TE)(J:aq):TS:=λD F H=>∃x,F[i]?=ca (ca x)/\I F H λy L=>J x y L λz O=>D.nx (F.set i (ca z)) O
def rQ {i:Nat}{x:Str}{e:Ia}{te:TE}{R:Vj}{Z:aq}{L:Pos}(hN:X.N.Nodup)(hi:X.N[i]?=ca x)(Y:Ml X.env.scope x)(he:PE X e te)(ho:JC X R Z)(hf:X.fn x=da\/X.env.scope.names.lookup x=ca .local:=by first|exact .inl rfl|exact .inr rfl|assumption) :
  PS X (.AugAssign (.Name x L) R e pos) (tAug i te Z):=by
 intro F s σ H D I h;obtain⟨v,e1,h⟩:=h;obtain⟨m,hn,hl⟩:=I.loc;have vis:Ai X.env.scope x:=by rcases Y with k|k;exact .inl k;exact .inr (.inl k)
 obtain⟨u,r,l⟩:=hl i x v hi e1 vis;refine wpAny_AugAssign_Name ?_;have go:wpAny (Fa X.prog X.w) X.A (lb e X.env) (λw J=>wpAny (Fa X.prog X.w) X.A (Fp R u w) (λr O=>wpAny (Fa X.prog X.w) X.A (Qx X.env x r) (λ_=>SP X F D .next) X.xe O) X.xe J) X.xe s:=by
  refine Db (he F s σ H _ I h) λw s1 ⟨y,H1,I1,r1,q1⟩=>?_;refine Db (ho F s1 σ H1 v y u w _ I1 r r1 q1) λz s2 ⟨zv,H2,I2,r2,q2⟩=>?_;exact Wm I2 hN hi Y r2 (λs3 I3=>⟨_,H2,I3,q2⟩) hf
 rcases l with⟨hk,hm⟩|⟨hk,c,hc,hcell⟩
 ·exact wpAny_loadName_local I.ok.kind hk hn hm go
 ·rcases hk with hk|hk
  ·exact wpAny_loadName_cell I.ok.kind hk hc hcell go
  ·rcases Y with k|k
   ·have:X.env.scope.names.lookup x=ca .free:=hk;rw[k]at this;cases this
   ·have:X.env.scope.names.lookup x=ca .free:=hk;rw[k]at this;cases this
def SN  (Y ti R:TE)(F:V->V->Hp->VK->Prop)(L:aq)(I:TSet):TS:=λD J H=>Y J H λo H1=>ti J H1 λi H2=>F o i H2 λx H3=>R J H3 λy Z=>L x y Z λz O=>I o i z O λH6=>D.nx J H6
def PGet  (X:Cx)(t:V->V->Hp->VK->Prop):Prop:=
 ∀(y:List (Aa×Obj)) (s:Da) (σ:St) (H:Hp) (o i:V) (ov iv:Ba) (Q:VK),La X y σ H s->RelV o ov->RelV i iv->t o i H Q->
  wpAny (Fa X.prog X.w) X.A (Vc ov iv) (EP X y σ Q) X.xe s
def pS {o i e:Ia}{to ti te:TE}{F:V->V->Hp->VK->Prop}{R:aq}{z:TSet}{op:Vj}{Y:Pos}(ho:PE X o to)(hi:PE X i ti)(hg:PGet X F)(he:PE X e te)(hp:JC X op R)(hs:PSet X z)
  (ha:∀L J new,augStore i L J new=(do Wb [new,L,J] (Ve L J new);dh [new,L,J] [];pure .next):=by intros;rfl):PS X (.AugAssign (.Subscript o i Y) op e pos) (SN to ti te F R z):=by
 intro y s O H D I h;refine wpAny_AugAssign_SubscriptAny (Db (ho y s O H _ I h) λL s1 ⟨x1,H1,I1,r1,q1⟩=>?_) ha;refine Db (hi y s1 O H1 _ I1 q1) λJ s2 ⟨x2,H2,I2,r2,q2⟩=>?_;refine Db (hg y s2 O H2 x1 x2 L J _ I2 r1 r2 q2) λZ s3 ⟨x3,H3,I3,r3,q3⟩=>?_;refine Db (he y s3 O H3 _ I3 q3) λv s4 ⟨x4,H4,I4,r4,q4⟩=>?_;refine Db (hp y s4 O H4 x3 x4 Z v _ I4 r3 r4 q4) λnew s5 ⟨x5,H5,I5,r5,q5⟩=>?_;exact Db (hs y s5 O H5 x1 x2 x5 L J new _ I5 r1 r2 r5 q5) λ_ s6 ⟨H6,I6,q6⟩=>⟨O,H6,I6,q6⟩
end


def QP  (c:TT)(tb:TS):TS:=λD y H=>∃W:Nat->St->Hp->Prop,(∃m,W m y H)/\∀m y H,W m y H->
 c y H λb I=>if b=da then ∃N:St->Hp->Prop,(∀z J,N z J->∃F,F<m/\W F z J)/\tb { D with nx:=N,ct:=N,bk:=D.nx } y I else D.nx y I
def RT      (hp:Wj (Fa X.prog X.w) X.A X.env X.xe)(hc:PT X c tc)(hb:Fd X body tb):PS X (.While c body [] pos) (QP tc tb):=by
 intro z s σ H D I h;obtain⟨W,⟨m0,w0⟩,J⟩:=h;refine wpAny_While (codeAny_whileLoop (λn s'=>∃L H',La X z L H' s'/\W n L H') ?_ m0 ⟨σ,H,I,w0⟩);rintro n s1 ⟨σ1,H1,I1,w1⟩;refine rn hp (Db (hc z s1 σ1 H1 _ I1 (J n σ1 H1 w1)) λb s2 ⟨H2,I2,q2⟩=>?_);cases b with
 |true=>
  obtain⟨N,hN,q2⟩:=q2;rw[if_pos rfl];refine rn hp (Db (hb z s2 σ1 H2 _ I2 q2) λf s3 q3=>?_);cases f with
  |next=>
   obtain⟨y,F,O,n3⟩:=q3;obtain⟨Z,R,Y⟩:=hN y F n3;exact⟨Z,R,y,F,O,Y⟩
  |cont=>
   obtain⟨y,F,O,n3⟩:=q3;obtain⟨Z,R,Y⟩:=hN y F n3;exact⟨Z,R,y,F,O,Y⟩
  |brk=>exact q3
  |ret v=>exact q3
 |false=>
  rw[if_neg Dd];exact gt ⟨σ1,H2,I2,q2⟩

structure It where
 go:Nat->Hp->Prop
 yld:Nat->Hp->V->Hp->Prop
 stop:Nat->Hp->Prop
def FpOk  (X:Cx)(pins:List (Aa×Obj))(H:Hp)(b:Aa):Prop:=
 H b=la/\b≠X.env.locals/\b∉X.fs/\(b∈X.ex\/X.s₀.heap.objs.size<=b)/\(∀x c,X.env.cells.lookup x=ca c->c≠b)/\∀p∈X.pn++pins,p.1≠b
def La.fpOk    {J:St}{b:Aa}(I:La X pins J H s)(F:s.heap.objs.size<=b)(O:H' b=la):FpOk X pins H' b:=by
 refine⟨O,Nat.ne_of_gt (Mf I.lt F),I.nofs F,.inr (Jb I.sz F),λx c e z=>?_,λp L z=>?_⟩
 ·obtain⟨v,q⟩:=I.cell x c e;exact absurd (Mf q.lt (by rw[z];exact F)) (Ki _)
 ·exact absurd (Mf (Nc (I.pin p L).1) (by rw[z];exact F)) (Ki _)
structure Turn (P:Ib)(w:ib)(K:Hb)(tg:Ia)(J:It)(fp:List Aa)(it:Aa)(tn:Nat->Va->Prop):Prop where
 mem:it∈fp
 obj:∀i h,tn i h->∀b∈fp,∃o,h.get? b=ca o/\∀v,o.data≠.cell v
 keep:∀i h h',tn i h->(∀b∈fp,∀o,h.get? b=ca o->h'.get? b=ca o)->tn i h'
 item:∀(X:Cx),X.prog=P->X.w=w->X.K=K->X.calm=da->∀(i:Nat) (pins:List (Aa×Obj)) (s:Da) (σ:St) (H:Hp) (E:Ba->Da->Prop),La X pins σ H s->(∀b∈fp,FpOk X pins H b)->tn i s.heap->J.go i H->
  wpAny (Fa P w) X.A (pyNext (.ref it)) (λr s1=>∃u,r=ca u/\
   wpAny (Fa P w) X.A (Zs tg (.ref it) u) (λ_ s2=>∃x H',La X pins σ H' s2/\RelV x u/\J.yld i H x H'/\tn (i+1) s2.heap/\∀b∈fp,H' b=la) E s1) E s
 done:∀(X:Cx),X.prog=P->X.w=w->X.K=K->X.calm=da->∀(i:Nat) (pins:List (Aa×Obj)) (s:Da) (σ:St) (H:Hp) (E:Ba->Da->Prop),La X pins σ H s->(∀b∈fp,FpOk X pins H b)->tn i s.heap->J.stop i H->
  wpAny (Fa P w) X.A (pyNext (.ref it)) (λr s1=>r=la/\La X pins σ H s1) E s
 self:∀(A:Kb) (i:Nat) (s:Da) (Q:Ba->Da->Prop) (E:Ba->Da->Prop),tn i s.heap->Q (.ref it) s->wpAny (Fa P w) A (pyIter (.ref it)) Q E s
abbrev TI:=St->Hp->(It->Hp->Prop)->Prop
def SL  (X:Cx)(pins:List (Aa×Obj))(I:St)(F:Ia)(R:It->Hp->Prop)(y:Ba)(s2:Da):Prop:=
 ∃(z:Aa) (fp:List Aa) (tn:Nat->Va->Prop) (J:It) (H':Hp),y=.ref z/\La X pins I H' s2/\Turn X.prog X.w X.K F J fp z tn/\tn 0 s2.heap/\(∀b∈fp,FpOk X pins H' b)/\R J H'
def PI  (X:Cx)(I z:Ia)(F:TI):Prop:=
 ∀(y:List (Aa×Obj)) (s:Da) (σ:St) (H:Hp) (R:It->Hp->Prop),La X y σ H s->F σ H R->
  wpAny (Fa X.prog X.w) X.A (lb z X.env) (λv s1=>wpAny (Fa X.prog X.w) X.A (pyIter v) (SL X y σ I R) X.xe s1) X.xe s

def qy             (I : s.heap.get? it = ca o)(z : o.cls = .type n)(hd : o.data = .fields vs)
    (F : ["enumerate", "zip", "dict_itemiterator", "dict_reverseitemiterator", "odict_iterator", "itertools.zip_longest", "itertools.pairwise"].contains n = ia) (y : Q () s) : wpAny M A (Zs tg (.ref it) u) Q E s := by
  unfold Zs
  cases tg <;> first
    | exact Zb y
    | (cases u <;> first
        | exact Zb y
        | (refine db (wpAny_load I ?_)
           rw [z, hd]
           show wpAny M A (if (["enumerate", "zip", "dict_itemiterator", "dict_reverseitemiterator", "odict_iterator", "itertools.zip_longest", "itertools.pairwise"].contains n && vs[0]? == ca (Sb _)) = da then _ else _) Q E s
           rw [if_neg (by intro h; rw [F, Bool.false_and] at h; cases h)]
           exact Zb y))

noncomputable def UL  (K:Hb)(a:Aa):It:=
 ⟨λi H=>∃y x,Zc K H a y/\y[i]?=ca x,λi H x z=>z=H/\∀y,Zc K H a y->y[i]?=ca x,λi H=>∃y,Zc K H a y/\y.length<=i⟩
noncomputable def TL  (K:Hb)(a:Aa):It:=
 ⟨λi H=>∃y x,Pc K H a y/\y[i]?=ca x,λi H x z=>z=H/\∀y,Pc K H a y->y[i]?=ca x,λi H=>∃y,Pc K H a y/\y.length<=i⟩
noncomputable def Px  (z:Int)(n:Nat):It:=⟨λi _=>i<n,λi H x y=>y=H/\x=.int (z+i),λi _=>n<=i⟩
def JU    {K:Hb} a it:Turn P w K tg (UL K a) [it] it (λi h=>h.IsListIter it a i) where
 mem:=by simp
 obj:=λi h y b J=>by
  have e:b=it:=by simpa using J
  subst e;obtain⟨o,e,c,d⟩:=y;exact⟨o,e,λv z=>by rw[d]at z;cases z⟩
 keep:=λi h Y y k=>y.at λo e=>k it (by simp) o e
 item:=by
  intro X hP hw hK hc i F s σ H E I O y hg;subst hP hw hK;obtain⟨xs,x,R,hx⟩:=hg;obtain⟨Z,rv,p,hz⟩:=I.list R;obtain⟨u,hu,ru⟩:=rv.get hx;obtain⟨f0,f1,f2,f3,f4,f5⟩:=O it (by simp)
  refine wpAny_pyNext_list_item y p.isList (x:=u) (by simpa using hu) λY L sb=>?_
  have I1:La X F σ H { s with heap:=Y }:=I.turned (t':=s.toks) (λb o J e=>(sb.2 b J).trans e) f0 f1 f3 f4 f5
  obtain⟨o,e,c,d⟩:=id L;exact⟨u,rfl,qy (s:={ s with heap:=Y }) e c d (by decide) ⟨x,H,I1,ru,⟨rfl,λys hy=>by rw[I.list_inj hy R];exact hx⟩,L,λb J=>(O b J).1⟩⟩
 done:=by
  intro X hP hw hK hc i F s σ H E I O y hg;subst hP hw hK;obtain⟨xs,R,hx⟩:=hg;obtain⟨Z,rv,p,hz⟩:=I.list R;obtain⟨f0,f1,f2,f3,f4,f5⟩:=O it (by simp)
  have hl:=rv.length;exact wpAny_pyNext_list_end (I.ok.hd hc) y p.isList (by simp;lia) λY eb=>⟨rfl,I.turned (t':=s.toks) (λb o J e=>eb b o J e) f0 f1 f3 f4 f5⟩
 self:=λ_ _ _ _ _ y h=>wpAny_pyIter_listiter y h
def qV    {K:Hb} a it:Turn P w K tg (TL K a) [it] it (λi h=>h.IsTupleIter it a i) where
 mem:=by simp
 obj:=λi h y b L=>by
  have e:b=it:=by simpa using L
  subst e;obtain⟨o,e,c,d⟩:=y;exact⟨o,e,λv z=>by rw[d]at z;cases z⟩
 keep:=λi h Z y k=>y.at λo e=>k it (by simp) o e
 item:=by
  intro X hP hw hK hc i F s σ H E I R y hg;subst hP hw hK;obtain⟨xs,x,Y,hx⟩:=hg;obtain⟨J,rv,p,hz⟩:=I.tuple Y;obtain⟨u,hu,ru⟩:=rv.get hx;obtain⟨f0,f1,f2,f3,f4,f5⟩:=R it (by simp)
  refine wpAny_pyNext_tuple_item y (show s.heap.IsTuple a J.toArray from p) (x:=u) (by simpa using hu) λZ O sb=>?_
  have I1:La X F σ H { s with heap:=Z }:=I.turned (t':=s.toks) (λb o L e=>(sb.2 b L).trans e) f0 f1 f3 f4 f5
  obtain⟨o,e,c,d⟩:=id O;exact⟨u,rfl,qy (s:={ s with heap:=Z }) e c d (by decide) ⟨x,H,I1,ru,⟨rfl,λys hy=>by rw[I.tuple_inj hy Y];exact hx⟩,O,λb L=>(R b L).1⟩⟩
 done:=by
  intro X hP hw hK hc i F s σ H E I R y hg;subst hP hw hK;obtain⟨xs,Y,hx⟩:=hg;obtain⟨J,rv,p,hz⟩:=I.tuple Y;obtain⟨f0,f1,f2,f3,f4,f5⟩:=R it (by simp)
  have hl:=rv.length;exact wpAny_pyNext_tuple_end (I.ok.hd hc) y (show s.heap.IsTuple a J.toArray from p) (by simp;lia) λZ eb=>⟨rfl,I.turned (t':=s.toks) (λb o L e=>eb b o L e) f0 f1 f3 f4 f5⟩
 self:=λ_ _ _ _ _ y h=>wpAny_pyIter_tupleiter y h
def pV    {K:Hb} it lo n:Turn P w K tg (Px lo n) [it] it (λi h=>IsRangeIter h it (lo+(i:Nat)*1) ((n:Int)-(i:Nat)) 1) where
 mem:=by simp
 obj:=λi h y b J=>by
  have e:b=it:=by simpa using J
  subst e;exact⟨_,y,λv z=>by
   have z':Data.fields _=Data.cell v:=z;cases z'⟩
 keep:=λi h R y k=>k it (by simp) _ y
 item:=by
  intro X hP hw hK hc i F s σ H E I O y hg;subst hP hw hK;obtain⟨f0,Z,f2,f3,f4,Y⟩:=O it (by simp)
  have W:=Walks.range (prog:=X.prog) (w:=X.w) (I.ok.hd hc) it lo 1 n;refine W.item i s _ _ hg y λv R tk hv L kk=>?_;obtain⟨t,rfl⟩:=hv;have I1:La X F σ H { s with heap:=R,toks:=tk }:=I.turned (λb o J e=>kk b o (by simpa using J) e) f0 Z f3 f4 Y
  refine⟨_,rfl,qy (s:={ s with heap:=R,toks:=tk }) (n := "range_iterator") L rfl rfl (by decide) ⟨.int (lo+i),H,I1,⟨t,?_⟩,⟨rfl,rfl⟩,L,λb J=>(O b J).1⟩⟩
  rw[Int.mul_one]
 done:=by
  intro X hP hw hK hc i F s σ H E I O y hg;subst hP hw hK;obtain⟨f0,Z,f2,f3,f4,Y⟩:=O it (by simp)
  exact wpAny_pyNext_range_end (I.ok.hd hc) y (by have:n<=i:=hg;lia) λR eb=>⟨rfl,I.turned (t':=s.toks) (λb o J e=>eb b o J e) f0 Z f3 f4 Y⟩
 self:=λ_ _ _ _ _ y h=>wpAny_pyIter_rangeiter y h
section
variable {X:Cx}{tg:Ia}
def YT   {F:St}{y z:Int}(I:La X pins F H s)(Z:-(2 ^ 62)<=y)(Y:y<2 ^ 62)(O:-(2 ^ 62)<=z)(h4:z<2 ^ 62)
  (q:R (Px y (z-y).toNat) H):wpAny (Fa X.prog X.w) X.A (pyIter (.ref s.heap.objs.size)) (SL X pins F tg R) E { s with heap:=s.heap.push { cls:=.type "range",data:=.fields #[.int y t,.int z u,.int 1 v] },toks:=tk }:=by
 refine wpAny_pyIter_range (IsRange.new ..) (small_one Z Y O h4) ?_;have J:La X pins F H { s with heap:=s.heap.push { cls:=.type "range",data:=.fields #[.int y t,.int z u,.int 1 v] },toks:=tk }:=I.kept λb o e=>Uc _ e
 refine⟨(s.heap.push { cls:=.type "range",data:=.fields #[.int y t,.int z u,.int 1 v] }).objs.size,[(s.heap.push { cls:=.type "range",data:=.fields #[.int y t,.int z u,.int 1 v] }).objs.size],_,_,H,rfl,
  J.kept (t':=tk) λb o e=>Uc _ e,pV _ y (z-y).toNat,?_,λb L=>?_,q⟩
 ·have e1:y+((0:Nat):Int)*1=y:=by simp
  have e2:(((z-y).toNat:Nat):Int)-((0:Nat):Int)=OL y z 1:=by rw[rangeSize_one];split<;>lia
  show IsRangeIter _ _ (y+((0:Nat):Int)*1) ((((z-y).toNat:Nat):Int)-((0:Nat):Int)) 1;rw[e1,e2];exact Zg _ rfl
 ·have e:b=(s.heap.push { cls:=.type "range",data:=.fields #[.int y t,.int z u,.int 1 v] }).objs.size:=by simpa using L
  subst e;exact J.fpOk (ub _) (J.hok.fresh (ub _))
def PM  (F:TA):TI:=λy H R=>F y H λI z=>∃j:Int,I=[.int j]/\-(2 ^ 62)<=j/\j<2 ^ 62/\R (Px 0 j.toNat) z
def aV {a:Ia}{z:TA}{p pos:Pos}(O:Gl X "range")(Y:X.mg "range" = la)(F:PA X [a] z)(hs:uc [a] X.env=[(ia,lb a X.env)]:=by rfl):PI X tg (.Call (.Name "range" p) [a] [] pos) (PM z):=by
 intro y s L H R I h;refine Call_ (Wo I O Y boot_range (Mx (Db (F pos y s L H _ I h) λZ s1 ⟨vs,H1,J,r1,q1⟩=>?_) hs rfl));obtain⟨j,e,q1,q2,q⟩:=q1;subst e;cases r1 with
 |cons r rr=>
  cases rr;obtain⟨t,rfl⟩:=r;exact call_range_1 (YT J (by lia) (by lia) q1 q2 (by simpa using q))
def tFor  (O:TI)(g:TG)(tb:TS):TS:=λD y H=>O y H λJ R=>∃W:Nat->Nat->St->Hp->Prop,(∃m,W 0 m y R)/\∀i m y H,W i m y H->
 (J.stop i H/\D.nx y H)\/(J.go i H/\∃N:St->Hp->Prop,(∀z F,N z F->∃L,L<m/\W (i+1) L z F)/\∀x F,J.yld i H x F->g x y F λI Y=>tb { D with nx:=N,ct:=N,bk:=D.nx } I Y)
noncomputable def Mr  (y:List Aa)(h:Va):List (Aa×Obj):=y.filterMap λb=>(h.get? b).map λo=>(b,o)
def Yv      (y:b∈z)(e:h.get? b=ca o):(b,o)∈Mr z h:=List.mem_filterMap.mpr ⟨b,y,by rw[e];rfl⟩
def MU     (y:p∈Mr I h):p.1∈I/\h.get? p.1=ca p.2:=by
 obtain⟨b,z,e⟩:=List.mem_filterMap.mp y;cases q:h.get? b with
 |none=>rw[q]at e;cases e
 |some o=>
  rw[q]at e;have F:(b,o)=p:=Te e;subst F;exact⟨z,q⟩
def La.pinned   {L:St}(I:La X pins L H s)(Y:∀b∈O,FpOk X pins H b)(R:∀b∈O,∃o,s.heap.get? b=ca o/\∀v,o.data≠.cell v):La X (pins++Mr O s.heap) L H s:=
 I.pins_of λp hp=>(Oa.mp hp).elim (λz=>I.pin p (Ag _ z)) λz=>by
  obtain⟨F,e⟩:=MU z;obtain⟨f0,f1,Z,_⟩:=Y p.1 F;obtain⟨o,J,d⟩:=R p.1 F;rw[e]at J;cases J;exact⟨e,f0,f1,Z,d⟩
def La.unpinned   {z:St}(I:La X (pins++J) z H s):La X pins z H s:=I.pins_of λp F=>I.pin p (Ag _ (nk _ F))
def sQ {F:Ia}{body:List Pa}{wi:TI}{g:TG}{tb:TS}{pos:Pos}(hp:Wj (Fa X.prog X.w) X.A X.env X.xe)(hc:X.calm=da)(hi:PI X tg F wi)(hg:PG X tg g)(Z:Fd X body tb)
  (hs:∀x,Qi F X.env x=pure x:=by intro _;rfl):PS X (.For tg F body [] pos) (tFor wi g tb):=by
 intro z s σ H D I h;refine wpAny_For (Db (hi z s σ H _ I h) λv s1 h1=>Db h1 λzb s2 h2=>?_) hs;obtain⟨it,fp,tn,J,H2,e,I2,T,st2,f2,W,⟨m0,w0⟩,ja⟩:=h2;subst e;have L:∀{H':Hp},(∀b∈fp,H' b=la)->∀b∈fp,FpOk X z H' b:=λhn b Z=>⟨hn b Z,(f2 b Z).2⟩;refine codeAny_forLoop_any (λn s'=>∃i xa H',La X z xa H' s'/\tn i s'.heap/\(∀b∈fp,H' b=la)/\W i n xa H') ?_ m0 ⟨0,σ,H2,I2,st2,λb Z=>(f2 b Z).1,w0⟩;rintro n s3 ⟨i,σ3,H3,I3,st3,fr3,w3⟩;rcases ja i n σ3 H3 w3 with⟨va,qn⟩|⟨go,N,hN,step⟩
 ·refine rn hp (Db (T.done X rfl rfl rfl hc i z s3 σ3 H3 X.xe I3 (L fr3) st3 va) λr s4 ⟨hr,I4⟩=>?_);subst hr;exact gt ⟨σ3,H3,I4,qn⟩
 ·refine rn hp (Db (T.item X rfl rfl rfl hc i z s3 σ3 H3 X.xe I3 (L fr3) st3 go) λr s4 ⟨u,hr,h4⟩=>?_);subst hr;refine rn hp (Db h4 λ_ s5 ⟨x,H5,I5,r5,y5,za,ka⟩=>?_);have ya:=I5.pinned (L ka) (T.obj _ _ za);refine rn hp (Db (hg _ s5 σ3 H5 x u _ ya r5 (step x H5 y5)) λ_ s6 ⟨xb,H6,I6,q6⟩=>?_);refine rn hp (Db (Z _ s6 xb H6 _ I6 q6) λf s7 q7=>?_);have R:∀{y:St} {Y:Hp},La X (z++Mr fp s5.heap) y Y s7->N y Y->∃m,m<n/\∃i xa H',La X z xa H' s7/\tn i s7.heap/\(∀b∈fp,H' b=la)/\W i m xa H':=λ{y Y} O n7=>by
   obtain⟨m',hm,w7⟩:=hN y Y n7;refine⟨m',hm,i+1,y,Y,O.unpinned,T.keep _ _ _ za λb Z o e=>(O.pin (b,o) (Ag _ (Ag _ (Yv Z e)))).1,λb Z=>?_,w7⟩;obtain⟨o,e,d⟩:=T.obj _ _ za b Z;exact(O.pin (b,o) (Ag _ (Ag _ (Yv Z e)))).2.1
  cases f with
  |next=>obtain⟨y,Y,O,n7⟩:=q7;exact R O n7
  |cont=>obtain⟨y,Y,O,n7⟩:=q7;exact R O n7
  |brk=>obtain⟨y,Y,O,q7⟩:=q7;exact⟨y,Y,O.unpinned,q7⟩
  |ret v=>obtain⟨x7,y,Y,O,r7,q7⟩:=q7;exact⟨x7,y,Y,O.unpinned,r7,q7⟩
end


abbrev R2:=V->V->Hp->VK->Prop
def ic  (X:Cx)(f:Ba->Ba->Sem Ba)(r:R2):Prop:=
 ∀(z:List (Aa×Obj)) (s:Da) (σ:St) (H:Hp) (x y:V) (v u:Ba) (Q:VK),La X z σ H s->RelV x v->RelV y u->r x y H Q->
  wpAny (Fa X.prog X.w) X.A (f v u) (EP X z σ Q) X.xe s
def IC  (X:Cx)(f:Ba->Sem Ba)(r:V->Hp->VK->Prop):Prop:=
 ∀(y:List (Aa×Obj)) (s:Da) (σ:St) (H:Hp) (x:V) (v:Ba) (Q:VK),La X y σ H s->RelV x v->r x H Q->
  wpAny (Fa X.prog X.w) X.A (f v) (EP X y σ Q) X.xe s
def rf  (X:Cx)(f:Ba)(r:List V->Hp->VK->Prop):Prop:=
 ∀(y:List (Aa×Obj)) (s:Da) (σ:St) (H:Hp) (xs:List V) (us:List Ba) (Q:VK),La X y σ H s->Vals xs us->r xs H Q->
  wpAny (Fa X.prog X.w) X.A (call f us) (EP X y σ Q) X.xe s
def TruR  (X:Cx)(r:V->Hp->(Bool->Hp->Prop)->Prop):Prop:=
 ∀(y:List (Aa×Obj)) (s:Da) (σ:St) (H:Hp) (x:V) (v:Ba) (Q:Bool->Hp->Prop),La X y σ H s->RelV x v->r x H Q->
  wpAny (Fa X.prog X.w) X.A (Bj v) (TP X y σ Q) X.xe s

def Tt  (r:R2)(J tb:TE):TE:=λz H Q=>J z H λx I=>tb z I λy F=>r x y F Q
def ZL  (r:V->Hp->VK->Prop)(F:TE):TE:=λy H Q=>F y H λx z=>r x z Q
def rI  (C:Int->Int->Prop)(g:Int->Int->V):R2:=λx y H Q=>∃i j,x=.int i/\y=.int j/\C i j/\Q (g i j) H
def Yi  (g:Int->Int->V):R2:=λx y H Q=>∃i j,x=.int i/\y=.int j/\Q (g i j) H
def rU  (g:Int->V):V->Hp->VK->Prop:=λx H Q=>∃i,x=.int i/\Q (g i) H


def binT  (ha:PE X a ta)(Z:PE X b tb){z:St}{R:V->V->Hp->Prop}(I:La X pins z H s)
  (h:ta z H λx O=>tb z O λy F=>R x y F) {f:Ba->Ba->Sem Ba}
  (hf:∀v u s2 x y F,La X pins z F s2->RelV x v->RelV y u->R x y F->wpAny (Fa X.prog X.w) X.A (f v u) Q X.xe s2) :
  wpAny (Fa X.prog X.w) X.A (lb a X.env) (λv J=>wpAny (Fa X.prog X.w) X.A (lb b X.env) (λu L=>wpAny (Fa X.prog X.w) X.A (f v u) Q X.xe L) X.xe J) X.xe s:=by
 refine Db (ha pins s z H _ I h) λv s1 ⟨x,O,I1,r1,q1⟩=>?_;refine Db (Z pins s1 z O _ I1 q1) λu s2 ⟨y,F,Y,r2,q2⟩=>?_;exact hf v u s2 x y F Y r1 r2 q2

def uO    (O:ic X (Se op) r)(L:PE X a ta)(J:PE X b tb):PE X (.BinOp a op b pos) (Tt r ta tb):=by
 intro z s Y H Q I h;exact wpAny_BinOp (binT L J I h λv u s2 x y Z F rx R q=>O z s2 Y Z x y v u Q F rx R q)
def wO    (J:IC X (unaryOp op) r)(F:PE X a ta):PE X (.UnaryOp op a pos) (ZL r ta):=by
 intro y s z H Q I h;exact UnaryOp_ (Db (F y s z H _ I h) λv s1 ⟨x,O,L,r1,q1⟩=>J y s1 z O x v Q L r1 q1)
def qq    {g:Int->Int->Int}
  (z:∀i j t u (s:Da) Q E ,C i j->Q (.int (g i j) s.toks) { s with toks:=s.toks+1 }->wpAny (Fa X.prog X.w) X.A (f (.int i t) (.int j u)) Q E s) :
  ic X f (rI C λi j=>.int (g i j)):=by
 intro F s Y H x y v u Q I R O h;obtain⟨i,j,rfl,rfl,J,q⟩:=h;obtain⟨t,rfl⟩:=R;obtain⟨L,rfl⟩:=O;exact z i j t L s _ _ J ⟨.int (g i j),H,I.tok _,⟨_,rfl⟩,q⟩
def opI0   {g:Int->Int->Int}
  (z:∀i j t u (s:Da) Q E ,Q (.int (g i j) s.toks) { s with toks:=s.toks+1 }->wpAny (Fa X.prog X.w) X.A (f (.int i t) (.int j u)) Q E s) :
  ic X f (Yi λi j=>.int (g i j)):=by
 intro F s R H x y v u Q I O L h;obtain⟨i,j,rfl,rfl,q⟩:=h;obtain⟨t,rfl⟩:=O;obtain⟨J,rfl⟩:=L;exact z i j t J s _ _ ⟨.int (g i j),H,I.tok _,⟨_,rfl⟩,q⟩
def opB0   {g:Int->Int->Bool}
  (z:∀i j t u s Q E ,Q (.bool (g i j)) s->wpAny (Fa X.prog X.w) X.A (f (.int i t) (.int j u)) Q E s) :
  ic X f (Yi λi j=>.bl (g i j)):=by
 intro F s R H x y v u Q I O L h;obtain⟨i,j,rfl,rfl,q⟩:=h;obtain⟨t,rfl⟩:=O;obtain⟨J,rfl⟩:=L;exact z i j t J s _ _ ⟨.bl (g i j),H,I,rfl,q⟩

def CDiv  (i j:Int):Prop:=0<j/\j<1073741824
def CPow  (i j:Int):Prop:=0<=j/\j<=1000000/\i.natAbs<2 ^ 64
def CMul  (i j:Int):Prop:=(-(2 ^ 64)<i/\i<2 ^ 64)\/(-(2 ^ 64)<j/\j<2 ^ 64)
def CMul.ok   (h:CMul i j):IntMulOk i j:=by
 rcases h with⟨F,z⟩|⟨F,z⟩
 ·exact .of_left (intBits_le_64 F z)
 ·exact .of_right (intBits_le_64 F z)
def QO  : ic X (Se .Add) (Yi λi j=>.int (i+j)):=opI0 λ_ _ _ _ _ _ _ q=>add_int q
def CQ  : ic X (Se .Sub) (Yi λi j=>.int (i-j)):=opI0 λ_ _ _ _ _ _ _ q=>sub_int q
def ZO  : ic X (Se .Mult) (rI CMul λi j=>.int (i*j)):=qq λ_ _ _ _ _ _ _ y q=>mul_int q y.ok
def kR  : ic X (Se .FloorDiv) (rI CDiv λi j=>.int (i/j)):=qq λi j _ _ _ _ _ y q=>by
 have F:(0:Int)<j:=y.1;have z:j<1073741824:=y.2;exact floordiv_int (by lia) (by rw[Int.fdiv_eq_ediv_of_nonneg i (by lia)];exact q) (.inl (PyProof.noPylong_small (by lia)))
def YO  : ic X (Se .Mod) (rI (λ_ j=>0<j) λi j=>.int (i%j)):=qq λi j _ _ _ _ _ y q=>by
 have z:(0:Int)<j:=y;exact mod_int' (by lia) (by rw[Int.fmod_eq_emod_of_nonneg i (by lia)];exact q)
def bP  : ic X (Se .Pow) (rI CPow λi j=>.int (i ^ j.toNat)):=qq λ_ _ _ _ _ _ _ y q=>pow_int_small y.1 y.2.1 y.2.2 q
def yR  : ic X (Fp .Add) (Yi λi j=>.int (i+j)):=opI0 λ_ _ _ _ _ _ _ q=>iadd_int q
def AR  : ic X (Fp .Sub) (Yi λi j=>.int (i-j)):=opI0 λ_ _ _ _ _ _ _ q=>isub_int q
def zR  : ic X (Fp .Mult) (rI CMul λi j=>.int (i*j)):=qq λ_ _ _ _ _ _ _ y q=>imul_int q y.ok
def unI   {g:Int->Int}
  (y:∀i t (s:Da) Q E ,Q (.int (g i) s.toks) { s with toks:=s.toks+1 }->wpAny (Fa X.prog X.w) X.A (f (.int i t)) Q E s) :
  IC X f (rU λi=>.int (g i)):=by
 intro z s J H x v Q I F h;obtain⟨i,rfl,q⟩:=h;obtain⟨t,rfl⟩:=F;exact y i t s _ _ ⟨.int (g i),H,I.tok _,⟨_,rfl⟩,q⟩
def eQ  : IC X (unaryOp .USub) (rU λi=>.int (-i)):=unI λ_ _ _ _ _ q=>neg_int q

noncomputable def scal  : V->V->Bool
 |.non,.non=>da|.non,.int _=>da|.int _,.non=>da|.non,.bl _=>da|.bl _,.non=>da|.non,.str _=>da|.str _,.non=>da
 |.int _,.int _=>da|.bl _,.bl _=>da|.str _,.str _=>da|.byt _,.byt _=>da
 |.int _,.str _=>da|.str _,.int _=>da|.bl _,.str _=>da|.str _,.bl _=>da
 |_,_=>ia
def eM  : R2:=λx y H Q=>scal x y=da/\Q (.bl (decide (x=y))) H
def dM  : R2:=λx y H Q=>scal x y=da/\Q (.bl (!decide (x=y))) H

def OE   : decide (V.int i=V.int j)=(i==j):=by
 rw[ak];simp
def TD   : decide (V.bl i=V.bl j)=(i==j):=by
 rw[ak];simp
def QE   : decide (V.str i=V.str j)=(i==j):=by
 rw[ak];simp
def NE   : decide (V.byt i=V.byt j)=(i.toList==j.toList):=by
 rw[ak];cases i;cases j;simp

section
variable {X:Cx}{a b c:Ia}{ta tb tc:TE}{pos:Pos}
def Pd   {y:St}(I:La X pins y H s)(q:Q (.bl k) H)(e:k=k'):EP X pins y Q (.bool k') s:=by
 subst e;exact⟨.bl k,H,I,rfl,q⟩
def ZM  : ic X (Ed .Eq) eM:=by
 intro O s R H x y v u Q I L z h;obtain⟨J,q⟩:=h;cases x with
 |non=>
  cases L;cases y with
  |non=>cases z;exact PySem.EqNone.eq_none_none (Pd I q (by simp))
  |bl j=>cases z;exact PySem.EqNone.eq_none_bool (Pd I q (by simp))
  |int j=>obtain⟨F,rfl⟩:=z;exact PySem.EqNone.eq_none_int (Pd I q (by simp))
  |str j=>obtain⟨F,rfl⟩:=z;exact PySem.EqNone.eq_none_str (Pd I q (by simp))
  |_=>exact absurd (show ia=da from J) Dd
 |bl i=>
  cases L;cases y with
  |non=>cases z;exact PySem.EqNone.eq_bool_none (Pd I q (by simp))
  |bl j=>cases z;exact eq_bool (Pd I q TD)
  |str j=>obtain⟨F,rfl⟩:=z;exact PySem.EqMixed.eq_bool_str (Pd I q (by simp))
  |_=>exact absurd (show ia=da from J) Dd
 |int i=>
  obtain⟨t,rfl⟩:=L;cases y with
  |non=>cases z;exact PySem.EqNone.eq_int_none (Pd I q (by simp))
  |int j=>obtain⟨F,rfl⟩:=z;exact eq_int (Pd I q OE)
  |str j=>obtain⟨F,rfl⟩:=z;exact PySem.EqMixed.eq_int_str (Pd I q (by simp))
  |_=>exact absurd (show ia=da from J) Dd
 |str i=>
  obtain⟨t,rfl⟩:=L;cases y with
  |non=>cases z;exact PySem.EqNone.eq_str_none (Pd I q (by simp))
  |bl j=>cases z;exact PySem.EqMixed.eq_str_bool (Pd I q (by simp))
  |int j=>obtain⟨F,rfl⟩:=z;exact PySem.EqMixed.eq_str_int (Pd I q (by simp))
  |str j=>obtain⟨F,rfl⟩:=z;exact eq_str (Pd I q QE)
  |_=>exact absurd (show ia=da from J) Dd
 |byt i=>
  obtain⟨t,rfl⟩:=L;cases y with
  |byt j=>obtain⟨F,rfl⟩:=z;exact PySem.W.eq_bytes (Pd I q NE)
  |_=>exact absurd (show ia=da from J) Dd
 |_=>cases y<;>exact absurd (show ia=da from J) Dd
def oO  : ic X (Ed .NotEq) dM:=by
 intro O s R H x y v u Q I L z h;obtain⟨J,q⟩:=h;cases x with
 |non=>
  cases L;cases y with
  |non=>cases z;exact PySem.EqNone.ne_none_none (Pd I q (by simp))
  |bl j=>cases z;exact PySem.EqNone.ne_none_bool (Pd I q (by simp))
  |int j=>obtain⟨F,rfl⟩:=z;exact PySem.EqNone.ne_none_int (Pd I q (by simp))
  |str j=>obtain⟨F,rfl⟩:=z;exact PySem.EqNone.ne_none_str (Pd I q (by simp))
  |_=>exact absurd (show ia=da from J) Dd
 |bl i=>
  cases L;cases y with
  |non=>cases z;exact PySem.EqNone.ne_bool_none (Pd I q (by simp))
  |bl j=>cases z;exact ne_bool (Pd I q (congrArg not TD))
  |str j=>obtain⟨F,rfl⟩:=z;exact PySem.EqMixed.ne_bool_str (Pd I q (by simp))
  |_=>exact absurd (show ia=da from J) Dd
 |int i=>
  obtain⟨t,rfl⟩:=L;cases y with
  |non=>cases z;exact PySem.EqNone.ne_int_none (Pd I q (by simp))
  |int j=>obtain⟨F,rfl⟩:=z;exact ne_int (Pd I q (congrArg not OE))
  |str j=>obtain⟨F,rfl⟩:=z;exact PySem.EqMixed.ne_int_str (Pd I q (by simp))
  |_=>exact absurd (show ia=da from J) Dd
 |str i=>
  obtain⟨t,rfl⟩:=L;cases y with
  |non=>cases z;exact PySem.EqNone.ne_str_none (Pd I q (by simp))
  |bl j=>cases z;exact PySem.EqMixed.ne_str_bool (Pd I q (by simp))
  |int j=>obtain⟨F,rfl⟩:=z;exact PySem.EqMixed.ne_str_int (Pd I q (by simp))
  |str j=>obtain⟨F,rfl⟩:=z;exact ne_str (Pd I q (congrArg not QE))
  |_=>exact absurd (show ia=da from J) Dd
 |byt i=>
  obtain⟨t,rfl⟩:=L;cases y with
  |byt j=>obtain⟨F,rfl⟩:=z;exact PySem.W.ne_bytes (Pd I q (congrArg not NE))
  |_=>exact absurd (show ia=da from J) Dd
 |_=>cases y<;>exact absurd (show ia=da from J) Dd

def mO  : ic X (Ed .Lt) (Yi λi j=>.bl (decide (i<j))):=opB0 λ_ _ _ _ _ _ _ q=>lt_int q
def dN  : ic X (Ed .LtE) (Yi λi j=>.bl (decide (i<=j))):=opB0 λ_ _ _ _ _ _ _ q=>le_int q
def cN  : ic X (Ed .Gt) (Yi λi j=>.bl (decide (j<i))):=opB0 λ_ _ _ _ _ _ _ q=>gt_int q
def aN  : ic X (Ed .GtE) (Yi λi j=>.bl (decide (j<=i))):=opB0 λ_ _ _ _ _ _ _ q=>ge_int q
def VU  : ic X (Ed .In) (λx y H Q=>∃i j,x=.str i/\y=.str j/\Q (.bl (!(ux j i 0 j.length 1).isEmpty)) H):=by
 intro z s O H x y v u Q I J F h;obtain⟨i,j,rfl,rfl,q⟩:=h;obtain⟨t,rfl⟩:=J;obtain⟨L,rfl⟩:=F;exact in_str (Pd I q rfl)

def lW  : ic X (Ed .NotIn) (λx y H Q=>∃i j,x=.str i/\y=.str j/\Q (.bl (!(!(ux j i 0 j.length 1).isEmpty))) H):=by
 intro z s O H x y v u Q I J F h;obtain⟨i,j,rfl,rfl,q⟩:=h;obtain⟨t,rfl⟩:=J;obtain⟨L,rfl⟩:=F;exact notIn_str (Pd I q rfl)
def ic.or    (h:ic X f r)(h':ic X f r'):ic X f (λx y H Q=>r x y H Q\/r' x y H Q):=by
 intro z s F H x y v u Q I L J q;rcases q with q|q
 ·exact h z s F H x y v u Q I L J q
 ·exact h' z s F H x y v u Q I L J q

def OS    (O:ic X (Ed op) r)(L:PE X a ta)(J:PE X b tb)(hm:Xw op b=ia):PE X (.Compare a [op] [b] pos) (Tt r ta tb):=by
 intro z s Y H Q I h;exact wpAny_Compare1 (binT L J I h λv u s2 x y Z F rx R q=>O z s2 Y Z x y v u Q F rx R q) hm
def CD  (t:TE):TT:=λy H Q=>t y H λx z=>∃k,x=.bl k/\Q k z
def tS    (Z:ic X (Ed op) r)(Y:PE X a ta)(O:PE X b tb)(hm:Xw op b=ia):PT X (.Compare a [op] [b] pos) (CD (Tt r ta tb)):=by
 intro F s J H Q I h;refine wpAny_isTrue_Compare1 (Db (Y F s J H _ I h) λv s1 ⟨x,H1,I1,r1,q1⟩=>Db (O F s1 J H1 _ I1 q1) λu s2 ⟨y,H2,L,r2,q2⟩=>
  Db (Z F s2 J H2 x y v u _ L r1 r2 q2) λc s3 ⟨z,H3,R,r3,k,e,q3⟩=>?_) hm
 subst e;cases r3;exact Si ⟨H3,R,q3⟩
def uE  (r O:R2)(J tb L:TE):TE:=λF H Q=>J F H λx H1=>tb F H1 λy Y=>r x y Y λz I=>∃k,z=.bl k/\
 (if k=da then L F I λZ R=>O y Z R Q else Q (.bl ia) I)
section
variable {op op':Pt}{r r':R2}
def uU (ho:ic X (Ed op) r)(L:ic X (Ed op') r')(ha:PE X a ta)(hb:PE X b tb)(hc:PE X c tc)
  (hm:Dw [op,op'] [b,c]=ia:=by with_unfolding_all rfl):PE X (.Compare a [op,op'] [b,c] pos) (uE r r' ta tb tc):=by
 intro F s J H Q I h;refine Compare_chain (Db (ha F s J H _ I h) λv s1 ⟨x,H1,I1,r1,q1⟩=>chain_link (Db (hb F s1 J H1 _ I1 q1) λu s2 ⟨y,H2,I2,r2,q2⟩=>
  Db (ho F s2 J H2 x y v u _ I2 r1 r2 q2) λd s3 ⟨z,O,R,r3,k,e,q3⟩=>?_)) hm
 subst e;cases r3;refine Si ?_;cases k with
 |false=>exact ite_ff ⟨.bl ia,O,R,rfl,q3⟩
 |true=>exact ite_tt (chain_last (Db (hc F s3 J O _ R q3) λZ s4 ⟨z',Y,I4,r4,q4⟩=>L F s4 J Y y z' u Z Q I4 r2 r4 q4))
def VT (ho:ic X (Ed op) r)(L:ic X (Ed op') r')(ha:PE X a ta)(hb:PE X b tb)(hc:PE X c tc)
  (hm:Dw [op,op'] [b,c]=ia:=by with_unfolding_all rfl):PT X (.Compare a [op,op'] [b,c] pos) (CD (uE r r' ta tb tc)):=by
 intro F s J H Q I h;refine isTrue_chain (Db (ha F s J H _ I h) λv s1 ⟨x,H1,I1,r1,q1⟩=>test_link (Db (hb F s1 J H1 _ I1 q1) λu s2 ⟨y,H2,I2,r2,q2⟩=>
  Db (ho F s2 J H2 x y v u _ I2 r1 r2 q2) λd s3 ⟨z,O,R,r3,k,e,q3⟩=>?_)) hm
 subst e;cases r3;refine Si ?_;cases k with
 |false=>
  obtain⟨k',Y,q'⟩:=q3;cases Y;exact ite_ff ⟨O,R,q'⟩
 |true=>
  refine ite_tt (test_last (Db (hc F s3 J O _ R q3) λw' s4 ⟨z',H4,I4,r4,q4⟩=>Db (L F s4 J H4 y z' u w' _ I4 r2 r4 q4) λd' s5 ⟨z2,H5,I5,Z,k2,e2,q5⟩=>?_));subst e2;cases Z;exact Si ⟨H5,I5,q5⟩

end
def TruV  (K:Hb)(x:V)(H:Hp)(k:Bool):Prop:=
 match x with
 |.non=>k=ia
 |.bl b=>k=b
 |.int i=>k=(i != 0)
 |.str y=>y.length<=Wa/\k=((y.length:Int) != 0)
 |.byt y=>y.size<=Wa/\k=((y.size:Int) != 0)
 |.ref p=>(∃z,Zc K H p z/\k = !z.isEmpty)\/(∃z,Pc K H p z/\k = !z.isEmpty)\/∃F,H p=ca (.dK F)/\k = !F.isEmpty
 |_=>False
def sV     (r:KV kvs vs):(!vs.isEmpty) = !kvs.isEmpty:=by
 cases r<;>rfl
def jH    (r:Vals xs y):(!y.toArray.isEmpty) = !xs.isEmpty:=by
 cases r<;>simp
def Km  : (Wa:Nat)<2 ^ 63:=by rw[Pi];decide
def sv  : TruR X (λx H Q=>∃k,TruV X.K x H k/\Q k H):=by
 intro xa s σ H x v Q I O h;obtain⟨k,e,q⟩:=h;have hl:=Km;have hs:Wa=16777216:=Pi;cases x with
 |non=>
  cases O;have z:k=ia:=e;subst z;exact truthy_none ⟨H,I,q⟩
 |bl b=>
  cases O;have z:k=b:=e;subst z;exact Si ⟨H,I,q⟩
 |int i=>
  obtain⟨t,rfl⟩:=O;have z:k=(i != 0):=e;subst z;exact PySem.P.truthy_int ⟨H,I,q⟩
 |str y=>
  obtain⟨t,rfl⟩:=O;obtain⟨hy,z⟩:y.length<=Wa/\k=((y.length:Int) != 0):=e;subst z;exact PySem.P.truthy_str (by lia) ⟨H,I.tok _,q⟩
 |byt y=>
  obtain⟨t,rfl⟩:=O;obtain⟨hy,z⟩:y.size<=Wa/\k=((y.size:Int) != 0):=e;subst z;exact PySem.W.truthy_bytes (by lia) ⟨H,I.tok _,q⟩
 |ref p=>
  cases O;have z:(∃L,Zc X.K H p L/\k = !L.isEmpty)\/(∃L,Pc X.K H p L/\k = !L.isEmpty)\/∃F,H p=ca (.dK F)/\k = !F.isEmpty:=e;rcases z with⟨L,R,z⟩|⟨L,R,z⟩|⟨F,R,z⟩
  ·subst z;obtain⟨Z,r,pl,hz⟩:=I.list R;have J:=r.length;exact wpAny_truthy_list pl.isList (by simp only[ud];lia) ⟨H,I.tok _,by rw[jH r];exact q⟩
  ·subst z;obtain⟨Z,r,pl,hz⟩:=I.tuple R;have J:=r.length;exact truthy_tuple pl (by simp only[ud];lia) ⟨H,I.tok _,by rw[jH r];exact q⟩
  ·subst z;obtain⟨hz,hS,Y,r,m⟩:F.length<=Wa/\(p==Of)=ia/\∃Y,KV F Y/\s.heap.DictOf (sf X.prog X.w) p Y:=I.hok p _ R;have J:F.length=Y.length:=Mw r;exact wpAny_truthy_dict hS m (by lia) ⟨H,I.tok _,by rw[sV r];exact q⟩
 |_=>exact(show False from e).elim
def WT  (J:PE X a ta)(L:∀y,ce a X.env y=(do let v <- y;be a.pos;Wb [v] (Bj v))) :
  PT X a (λF H Q=>ta F H λx H'=>∃k,TruV X.K x H' k/\Q k H'):=by
 intro z s F H Q I h;exact isTrue_plain (Db (J z s F H _ I h) λv s1 ⟨x,R,O,r1,q1⟩=>sv z s1 F R x v Q O r1 q1) (L _)

def GV  : ic X (Se .Add) (λx y H Q=>∃i j,x=.str i/\y=.str j/\i.length+j.length<=Wa/\Q (.str (i++j)) H):=by
 intro z s Y H x y v u Q I O L h;obtain⟨i,j,rfl,rfl,F,q⟩:=h;obtain⟨t,rfl⟩:=O;obtain⟨J,rfl⟩:=L;exact add_str (λJ R=>⟨.str (i++j),H,I.tok _,⟨_,rfl⟩,q⟩) F
def bW  : ic X (Fp .Add) (λx y H Q=>∃i j,x=.str i/\y=.str j/\i.length+j.length<=Wa/\Q (.str (i++j)) H):=by
 intro z s Y H x y v u Q I O L h;obtain⟨i,j,rfl,rfl,F,q⟩:=h;obtain⟨t,rfl⟩:=O;obtain⟨J,rfl⟩:=L;exact iadd_str (λJ R=>⟨.str (i++j),H,I.tok _,⟨_,rfl⟩,q⟩) F
def gj    (r:Vals [x] us):∃u,us=[u]/\RelV x u:=by
 cases r with
 |cons r1 r2=>cases r2;exact⟨_,rfl,r1⟩
def vN    (r:Vals [x,y] us):∃u z,us=[u,z]/\RelV x u/\RelV y z:=by
 cases r with
 |cons r1 r2=>
  cases r2 with
  |cons r3 r4=>cases r4;exact⟨_,_,rfl,r1,r3⟩
def tU  (F:X.calm=da):rf X (.builtin "min") (λxs H Q=>∃i j,xs=[.int i,.int j]/\Q (.int (if j<i then j else i)) H):=by
 intro z s Y H xs O Q I r h;obtain⟨i,j,rfl,q⟩:=h;obtain⟨u,R,rfl,⟨t,rfl⟩,⟨J,rfl⟩⟩:=vN r;refine min_two_ints (I.ok.hd F) λZ L k=>⟨_,H,I.kept k,?_,q⟩;by_cases y:j<i
 ·rw[if_pos y,if_pos y];exact⟨_,rfl⟩
 ·rw[if_neg y,if_neg y];exact⟨_,rfl⟩
def mU  : rf X (.type "int") (λxs H Q=>(∃i,xs=[.int i]/\Q (.int i) H)\/∃k,xs=[.bl k]/\Q (.int (if k then 1 else 0)) H):=by
 intro y s z H xs F Q I r h;rcases h with⟨i,rfl,q⟩|⟨k,rfl,q⟩
 ·obtain⟨u,rfl,t,rfl⟩:=gj r;exact call_int_int ⟨.int i,H,I,⟨_,rfl⟩,q⟩
 ·obtain⟨u,rfl,r1⟩:=gj r;cases r1;exact call_int_bool ⟨.int (if k then 1 else 0),H,I.tok _,⟨_,rfl⟩,q⟩
def LenV  (K:Hb)(x:V)(H:Hp)(n:Nat):Prop:=
 match x with
 |.str y=>y.length<=Wa/\n=y.length
 |.byt y=>y.size<=Wa/\n=y.size
 |.ref p=>(∃z,Zc K H p z/\n=z.length)\/∃z,Pc K H p z/\n=z.length
 |_=>False
def DT  : rf X (.builtin "len") (λxs H Q=>∃x n,xs=[x]/\LenV X.K x H n/\Q (.int n) H):=by
 intro Z s σ H xs us Q I r h;obtain⟨x,n,rfl,e,q⟩:=h;obtain⟨u,rfl,Y⟩:=gj r;have hl:=Km;have hs:Wa=16777216:=Pi;cases x with
 |str y=>
  obtain⟨t,rfl⟩:=Y;obtain⟨hy,F⟩:y.length<=Wa/\n=y.length:=e;subst F;exact len_str (by lia) ⟨.int _,H,I.tok _,⟨_,rfl⟩,q⟩
 |byt y=>
  obtain⟨t,rfl⟩:=Y;obtain⟨hy,F⟩:y.size<=Wa/\n=y.size:=e;subst F;exact PySem.W.len_bytes (by lia) ⟨.int _,H,I.tok _,⟨_,rfl⟩,q⟩
 |ref p=>
  cases Y;have F:(∃xs,Zc X.K H p xs/\n=xs.length)\/∃xs,Pc X.K H p xs/\n=xs.length:=e;rcases F with⟨xs,O,F⟩|⟨xs,O,F⟩
  ·subst F;obtain⟨J,R,L,hz⟩:=I.list O;have z:=R.length;exact Calls.call_len_list L.isList (by simp only[ud];lia) ⟨.int xs.length,H,I.tok _,⟨_,by simp only[ud];rw[z]⟩,q⟩
  ·subst F;obtain⟨J,R,L,hz⟩:=I.tuple O;have z:=R.length;exact len_tuple L (by simp only[ud];lia) ⟨.int xs.length,H,I.tok _,⟨_,by simp only[ud];rw[z]⟩,q⟩
 |_=>exact(show False from e).elim
end

structure ObjM (h:Va)(x dx C:Aa)(mA:Str->Option Ba):Prop where
 obj:h.get? x=ca (gC C dx)
 ns:h.Ns1 dx mA
 ne:dx≠x

def gV  {h:Va}(n:h.Ns1 dx mA):∃od,h.get? dx=ca od/\∀name,BB name od=ca (mA name):=by
 obtain⟨o,I,Y,J,hd,hk,_,O⟩:=n;refine⟨o,J,λname=>?_⟩;have e:=O name;unfold nsFind findBy at e;rw[<- oC]at e;unfold BB;rw[hd];dsimp only;split
 ·rename_i y q;rw[q]at e;exact congrArg ca e
 ·rename_i q;rw[q]at e;have a:I.toList.any (·.refKey)=ia:=by
   rw[List.any_eq_false];intro y R;obtain⟨z,t,F⟩:=hk y (Array.mem_toList_iff.mp R);simp[Xk.refKey,F]
  have L:¬I.toList.any (·.refKey)=da:=by rw[a];exact Dd
  rw[if_neg L];exact congrArg ca e

def ObjM.look     (I:ObjM h x dx C mA):∃od,PySem.W.InstAt h x (gC C dx) C (ca od)/\∀name,BB name od=ca (mA name):=
 let ⟨od,z,F⟩:=gV I.ns
 ⟨od,⟨I.obj,rfl,rfl,z⟩,F⟩



noncomputable def putF  (f:Str)(v:V):List (Str×V)->List (Str×V)
 |[]=>[(f,v)]
 |(g,x)::r=>if g=f then (g,v)::r else (g,x)::putF f v r
theorem EH   f g v:∀fs ,(putF f v fs).lookup g=if g=f then ca v else fs.lookup g
 |[]=>by
  show mi g [(f,v)]=_;by_cases h:g=f
  ·have y:(g==f)=da:=beq_iff_eq.mpr h;simp only[mi,y,if_pos h]
  ·have y:(g==f)=ia:=beq_eq_false_iff_ne.mpr h;simp only[mi,y,if_neg h]
 |(k,x)::r=>by
  have z:=EH f g v r;rw[show putF f v ((k,x)::r)=(if k=f then (k,v)::r else (k,x)::putF f v r)from rfl]
  by_cases hk:k=f
  ·rw[if_pos hk];by_cases h:g=k
   ·have y:(g==k)=da:=beq_iff_eq.mpr h;simp only[mi,y,if_pos (h.trans hk)]
   ·have y:(g==k)=ia:=beq_eq_false_iff_ne.mpr h;simp only[mi,y,if_neg (λe:g=f=>h (e.trans hk.symm))]
  ·rw[if_neg hk];by_cases h:g=k
   ·have y:(g==k)=da:=beq_iff_eq.mpr h;simp only[mi,y,if_neg (λe:g=f=>hk (h.symm.trans e))]
   ·have y:(g==k)=ia:=beq_eq_false_iff_ne.mpr h;simp only[mi,y];exact z
def RelO.some_of    (r:RelO (ca v) o):∃u,o=ca u/\RelV v u:=by
 cases o with
 |none=>exact(show False from r).elim
 |some u=>exact⟨u,rfl,r⟩
def RelO.none_of   (r:RelO la o):o=la:=by
 cases o with
 |none=>rfl
 |some u=>exact(show False from r).elim

def wR  (y:Md P w H h)(e:H a=ca (.ins C dx fs)):∃mA,ObjM h a dx C mA/\(∀f,RelO (fs.lookup f) (mA f))/\PySem.Within mA (fs.map (·.1))/\fs.length<=1000/\H dx=ca (.own a):=by
 obtain⟨d,z,I,F,mA,n,r,q⟩:=(show Sd P w H h a (.ins C dx fs)from y a _ e);exact⟨mA,⟨F,n,I⟩,r,q,z,d⟩

structure MC (K:Hb)(C:Aa):Prop where
 pg:wK K C Str.empty=da
 hd:PySem.W.hasDictIn K C=da
 po:PySem.W.plainOver K C=da
 sa:LK K (.ref C) "__setattr__" = ca (ca (.builtin "object.__setattr__"))
def MC.get  {K:Hb}(c:MC K C) f:wK K C f=da:=c.pg

def NR          (z:jn e f env (lb e env)=lb e env)
  (h:wpAny (Fa prog w) A (lb e env) (λo y=>wpAny (Fa prog w) A (getAttr o f da) Q E y) E s):wpAny (Fa prog w) A (lb (.Attribute e f pos) env) Q E s:=
 Attribute_any_ h (by rw[arm_eval_Attribute,z])



section
variable {X:Cx}{pins:List (Aa×Obj)}{σ:St}{H:Hp}{s:Da}{A:Kb}{E:Ba->Da->Prop}{Q:Ba->Da->Prop}{c:Ba}{b:Bool}
inductive TyOf (K:Hb)(H:Hp):V->Ba->Prop where
 |non:TyOf K H .non (.type "NoneType")
 |bl (x:Bool):TyOf K H (.bl x) (.type "bool")
 |int (i:Int):TyOf K H (.int i) (.type "int")
 |str (x:Str):TyOf K H (.str x) (.type "str")
 |flt (x:UInt64):TyOf K H (.flt x) (.type "float")
 |lst {a:Aa} {xs:List V} (e:H a=ca (.lst xs)):TyOf K H (.ref a) (.type "list")
 |frz {a:Aa} {o:Obj} {xs:List V} (e:H a=ca (.frz o (.lst xs))):TyOf K H (.ref a) (.type "list")
 |tup {a:Aa} {xs:List V} (e:H a=ca (.tup xs)):TyOf K H (.ref a) (.type "tuple")
 |dK {a:Aa} {kvs:List (Vb×V)} (e:H a=ca (.dK kvs)):TyOf K H (.ref a) (.type "dict")
 |dT {a:Aa} {kvs:List (List Vb×V)} (e:H a=ca (.dT kvs)):TyOf K H (.ref a) (.type "dict")
 |ins {a C dx:Aa} {fs:List (Str×V)} (e:H a=ca (.ins C dx fs)) (cl:MC K C) (ha:LK K (.ref C) "__class__" = ca (ca (.builtin "object.__class__")))
   (hn:PySem.W.specialIn K (.builtin "object.__class__") "__get__" = ca (ca (.builtin "getset_descriptor.__get__"))) (htk:PySem.W.takesIn K (.builtin "object.__class__")=ca da)
   (hm:PySem.W.mroIn K C (.type "object")=ca da):TyOf K H (.ref a) (.ref C)
def OT    (I:La X pins σ H s)(L:RelV x u)(ty:TyOf X.K H x t)(e:Qw X.K t c=ca b)(h:∀tk,Q (.bool b) { s with toks:=tk }) :
  wpAny (Fa X.prog X.w) A (call (.builtin "isinstance") [u,c]) Q E s:=by
 cases ty with
 |non=>cases(show u=uh from L);exact Ni PySem.W.kitx_none I.kIn Ph e (λz=>nomatch z) h
 |bl y=>cases(show u=Gw y from L);exact Ni PySem.W.kitx_bool I.kIn Ph e (λz=>nomatch z) h
 |int i=>obtain⟨t,q⟩:=(show ∃t,u=Os i t from L);cases q;exact Ni PySem.W.kitx_int I.kIn Ph e (λz=>nomatch z) h
 |str y=>obtain⟨t,q⟩:=(show ∃t,u=Jw y t from L);cases q;exact Ni PySem.W.kitx_str I.kIn Ph e (λz=>nomatch z) h
 |flt y=>obtain⟨t,q⟩:=(show ∃t,u=Ba.float y t from L);cases q;exact Ni PySem.W.kitx_float I.kIn Ph e (λz=>nomatch z) h
 |@lst a Z F=>
  cases(show u=Ae a from L);obtain⟨_,_,n,_,R⟩:=(show Sd X.prog X.w H s.heap a (.lst Z)from I.hok a _ F);exact Ni EK I.kIn ⟨_,R,rfl⟩ e (λz=>nomatch z) h
 |@frz a ob Z F=>
  cases(show u=Ae a from L);obtain⟨_,_,_,n,_,R⟩:=(show Sd X.prog X.w H s.heap a (.frz ob (.lst Z))from I.hok a _ F);exact Ni EK I.kIn ⟨_,R,rfl⟩ e (λz=>nomatch z) h
 |@tup a Z F=>
  cases(show u=Ae a from L);obtain⟨_,_,_,p⟩:=(show Sd X.prog X.w H s.heap a (.tup Z)from I.hok a _ F);obtain⟨o,R,h2,_⟩:=p;exact Ni PySem.W.kitx_tuple I.kIn ⟨o,R,h2⟩ e (λz=>nomatch z) h
 |@dK a Y F=>
  cases(show u=Ae a from L);obtain⟨_,_,vs,_,p⟩:=(show Sd X.prog X.w H s.heap a (.dK Y)from I.hok a _ F);obtain⟨o,es,ep,R,h2,_⟩:=p;exact Ni DK I.kIn ⟨o,R,h2.1⟩ e (λz=>nomatch z) h
 |@dT a Y F=>
  cases(show u=Ae a from L);obtain⟨_,_,Z,_,o,es,ep,R,h2,_⟩:=(show Sd X.prog X.w H s.heap a (.dT Y)from I.hok a _ F);exact Ni DK I.kIn ⟨o,R,h2.1⟩ e (λz=>nomatch z) h
 |@ins a C dx fs F cl ha hn xa hm=>
  cases(show u=Ae a from L);obtain⟨mA,O,_⟩:=wR I.hok F;obtain⟨od,J,_⟩:=O.look;exact Ni (PySem.W.kitx_own (cl.get _) cl.hd ha hn xa hm) I.kIn J e (λz=>nomatch z) h
end

structure Room (k:Nat)(A:Kb):Prop where
 hd:A.handled=la
 dp:A.depth+k+20<recursionLimit
 un:A.units+8*k+200<Pb
 gd:A.guards=ca []
def Room.mono    (r:Room k A)(h:j<=k):Room j A:=⟨r.hd,by have:=r.dp;lia,by have:=r.un;lia,r.gd⟩
def Room.deeper    (r:Room (k+1) A) env:Room k (A.deeper env):=
 ⟨r.hd,by have:=r.dp;show A.depth+1+k+20<_;lia,by have:=r.un;show A.units+3+8*k+200<_;lia,r.gd⟩
def uV  {A:Kb}:(A.under (.builtin "type.__call__" ⟨.ref C::us,y⟩)).depth=A.depth+1:=by
 first|rfl|simp[FB,Fj.weight,Fj.isCreation,Fj.isGuard,Fj.isCaller,Fj.frames,OB,guardIds]
def vV  {A:Kb}:(A.under (.builtin "type.__call__" ⟨.ref C::us,y⟩)).units=A.units+1:=by
 first|rfl|simp[FB,Fj.cUnits,Fj.frames,OB]
def Room.make    (r:Room (k+1) A) C us kw:Room k (A.under (.builtin "type.__call__" ⟨.ref C::us,kw⟩)):=
 ⟨r.hd,by have:=r.dp;rw[uV];lia,by have:=r.un;rw[vV];lia,r.gd⟩
def Room.depth    (r:Room k A):A.depth<recursionLimit:=by have:=r.dp;lia
def Room.units    (r:Room k A):A.units+64<Pb:=by have:=r.un;lia
def Room.units0    (r:Room k A):A.units<Pb:=by have:=r.un;lia

def tNil  : TA:=λ_ H Q=>Q [] H
def Jr  (F:TE)(L:TA):TA:=λy H Q=>F y H λx I=>L y I λz J=>Q (x::z) J
section
variable {X:Cx}{e:Ia}{es:List Ia}{te:TE}{t:TA}{pos:Pos}
def Mm  : PA X [] tNil:=λ_ _ _ _ H Q I h=>Calls.spliced_nil ⟨[],H,I,.nil,h⟩
def Jh (L:PE X e te)(hr:PA X es t)(hs:uc (e::es) X.env=(ia,lb e X.env)::uc es X.env:=by rfl):PA X (e::es) (Jr te t):=by
 intro pos y s z H Q I h;rw[hs];show wpAny _ _ (spliced ((ia,lb e X.env)::Tb pos (uc es X.env))) _ _ s;refine sK (Db (L y s z H _ I h) λu s1 ⟨x,R,O,r1,q1⟩=>?_);exact Db (hr pos y s1 z R _ O q1) λZ s2 ⟨J,Y,F,r2,q2⟩=>⟨x::J,Y,F,.cons r1 r2,q2⟩

def tTup  (t:TA):TE:=λF H Q=>t F H λy z=>y.length<=Wa/\∀p,z p=la->Q (.ref p) (upd z p (.tup y))
def tLst  (t:TA):TE:=λF H Q=>t F H λy z=>y.length<=Wa/\∀p,z p=la->Q (.ref p) (upd z p (.lst y))
def My   (h:PA X es t):PE X (.Tuple es x1 pos) (tTup t):=by
 intro y s Z H Q I R;refine wpAny_Tuple_spliced (Db (h pos y s Z H _ I R) λY s1 ⟨L,J,F,r,z,q⟩=>⟨by rw[<- r.length];exact z,?_⟩)
 have O:J s1.heap.objs.size=la:=F.hok.fresh (ub _);refine⟨.ref s1.heap.objs.size,upd J s1.heap.objs.size (.tup L),F.laid (t':=s1.toks) (λb u e=>Uc _ e) (ub _) ?_,rfl,q _ O⟩;exact⟨z,Y,r,⟨_,Zg _ rfl,rfl,_,rfl,rfl⟩⟩
def kE  (h:PA X es t):PE X (.List es pos) (tLst t):=by
 intro y s Z H Q I R;refine wpAny_List_spliced (Db (h pos y s Z H _ I R) λY s1 ⟨L,J,F,r,z,q⟩=>⟨by rw[<- r.length];exact z,?_⟩)
 have O:J s1.heap.objs.size=la:=F.hok.fresh (ub _);refine⟨.ref s1.heap.objs.size,upd J s1.heap.objs.size (.lst L),F.laid (t':=s1.toks) (λb u e=>Uc _ e) (ub _) ?_,rfl,q _ O⟩;exact⟨z,Y,0,r,Zg _ rfl⟩
end

abbrev Sp:=List V->Hp->VK->XK->Prop
abbrev Vn:=List Env->Hp->Da->XK->Ba->Da->Prop

structure Env0 (P:Ib)(w:ib)(K:Hb)(mg:Str->Option Ba)(base:Va)(A:Kb)(outer:List Env)(s:Da)(H:Hp):Prop where
 frames:A.frames=ca outer
 mod:Mod K mg base
 bs:∀b o,base.get? b=ca o->s.heap.get? b=ca o/\H b=la
 bsz:base.objs.size<=s.heap.objs.size
 funs:s.heap.FunFrames base outer
 frf:∀b∈uf outer,H b=la
 hok:Md P w H s.heap
 bare:re s.gens
def CE  (outer:List Env)(P:Ib)(w:ib)(H:Hp)(s:Da)(Q:VK)(u:Ba)(s':Da):Prop:=
 ∃v y,s'.os=s.os/\re s'.gens/\Un (uf outer) [] H y s.heap s'.heap/\Md P w y s'.heap/\RelV v u/\Q v y
def CR  (CX:Vn)(outer:List Env)(P:Ib)(w:ib)(H:Hp)(s:Da)(Q:VK)(E:XK)(r:Result)(s':Da):Prop:=
 match r with
 |.ok (.ret u)=>CE outer P w H s Q u s'
 |.ok _=>False
 |.error e=>CX outer H s E e s'
structure FnOk (P:Ib)(w:ib)(K:Hb)(mg:Str->Option Ba)(base:Va)(CX:Vn)(k:Nat)(f:Aa)(fd:Bp)(ps:List Str)(sp:Sp):Prop where
 len:∀vs H Q E,sp vs H Q E->vs.length=ps.length
 run:∀(A:Kb) (outer:List Env) (s:Da) (H:Hp) (args:Args) (us:List Ba) (vs:List V) (Q:VK) (E:XK),Room k A->Env0 P w K mg base A outer s H->Jd s fd args (ps.zip us)->Vals vs us->sp vs H Q E->
  codeAny (Fa P w) A (.call (.ref f) args) (CR CX outer P w H s Q E) s
def Env0.make    {K:Hb}(e:Env0 P w K mg base A outer s H) C us kw :
  Env0 P w K mg base (A.under (.builtin "type.__call__" ⟨.ref C::us,kw⟩)) outer s H:=⟨by first|exact e.frames|(simpa[FB,Fj.envs,OB,pushEnvs]using e.frames),e.mod,e.bs,e.bsz,e.funs,e.frf,e.hok,e.bare⟩

def La.env0  {z: St}(I:La X pins z H s):Env0 X.prog X.w X.K X.mg X.base X.A X.stack s H:=
 ⟨I.ok.frames,I.ok.mod,I.bs,Jb I.ok.bsz I.sz,I.stack,I.stkFree,I.hok,I.bare⟩
def La.after  {L: St}(I:La X pins L H s)(h:CE X.stack X.prog X.w H s Q u s'):EP X pins L Q u s':=by
 obtain⟨v,Y,R,bare,un,F,r,q⟩:=h;obtain⟨O,g,d,t,J⟩:=s';obtain rfl:J=s.os:=R;exact⟨v,Y,I.call (h':=O) (g':=g) (d':=d) (t':=t) (ch:=[]) un F bare (λb z=>absurd z (by simp)),r,q⟩

def Binds  (K:Hb)(fd:Bp)(ps:List Str)(ds:List Ba):Prop:=
 ∀(s:Da) (us:List Ba),K.In s.heap->(us++ds).length=ps.length->Jd s fd ⟨us,[]⟩ (ps.zip (us++ds))
def Binds.all  {K:Hb}(h:∀us ,us.length=ps.length->Gs fd ⟨us,[]⟩=pure (ps.zip us)):Binds K fd ps []:=λs us _ z=>by
 rw[Li]at z ⊢;exact .of_eq (h us z)





structure FnScope (N P:List Str)(sc:Cc):Prop where
 kind:sc.kind=.function
 co:sc.isCoroutine=ia
 gen:sc.isGenerator=ia
 nd:N.Nodup
 pre:N.take P.length=P
 par:∀x∈P,sc.names.lookup x=ca .local\/sc.names.lookup x=ca .cell
 nofree:∀y∈sc.names,y.2≠.free

theorem kG  {kindOf:Str->Option Kf}:∀{binds } {m },(∀v,(x,v)∉binds)->Ti kindOf binds m x=m x
 |[],_,_=>rfl
 |(n,v)::r,m,h=>by
  unfold Ti;rw[kG λw y=>h w (Le _ y)];split
  ·have:x≠n:=by rintro rfl;exact h v Uf
   simp[this]
  ·rfl
theorem DG  {kindOf:Str->Option Kf}:∀{binds } {m },(∀v,(x,v)∉binds)->Ui kindOf binds m x=m x
 |[],_,_=>rfl
 |(n,v)::r,m,h=>by
  unfold Ui;rw[DG λw y=>h w (Le _ y)];split
  ·rfl
  ·have:x≠n:=by rintro rfl;exact h v Uf
   simp[this]
theorem EG  {kindOf:Str->Option Kf}:∀{P:List Str} {vs } {i:Nat} {m },P.Nodup->P[i]?=ca x->vs[i]?=ca v->kindOf x=ca .local->
  Ti kindOf (P.zip vs) m x=ca v
 |[],_,_,_,_,h,_,_=>by simp at h
 |_::_,[],_,_,_,_,h,_=>by simp at h
 |p::P,w::vs,0,m,nd,h1,h2,hk=>by
  simp at h1 h2;subst h1;subst h2;show Ti kindOf ((p,w)::P.zip vs) m p=_;unfold Ti;rw[kG λv y=>(Cb.mp nd).1 (Np y).1,if_pos hk];simp
 |p::P,w::vs,i+1,m,nd,h1,h2,hk=>by
  show Ti kindOf ((p,w)::P.zip vs) m x=_;unfold Ti;exact EG (i:=i) (Cb.mp nd).2 (by simpa using h1) (by simpa using h2) hk
theorem CG  {kindOf:Str->Option Kf}:∀{P:List Str} {vs } {i:Nat} {m },P.Nodup->P[i]?=ca x->vs[i]?=ca v->kindOf x≠ca .local->
  Ui kindOf (P.zip vs) m x=ca v
 |[],_,_,_,_,h,_,_=>by simp at h
 |_::_,[],_,_,_,_,h,_=>by simp at h
 |p::P,w::vs,0,m,nd,h1,h2,hk=>by
  simp at h1 h2;subst h1;subst h2;show Ui kindOf ((p,w)::P.zip vs) m p=_;unfold Ui;rw[DG λv y=>(Cb.mp nd).1 (Np y).1,if_neg hk];simp
 |p::P,w::vs,i+1,m,nd,h1,h2,hk=>by
  show Ui kindOf ((p,w)::P.zip vs) m x=_;unfold Ui;exact CG (i:=i) (Cb.mp nd).2 (by simpa using h1) (by simpa using h2) hk

noncomputable def start  (N:List Str)(vs:List V):St:=vs.map ca++Ab (N.length-vs.length) la

noncomputable def cxOf  (CX:Vn)(P:Ib)(w:ib)(K:Hb)(mg:Str->Option Ba)(base:Va)(N:List Str)(qual:Str)(scope:Cc)(f:Aa)(cd:Ba)(A:Kb)(outer:List Env)(s:Da)(H:Hp)(E:XK):Cx where
 prog:=P
 w:=w
 K:=K
 mg:=mg
 base:=base
 A:=A.deeper (Jc qual scope s.heap.objs.size f cd)
 N:=N
 s₀:=s
 H₀:=H
 env:=Jc qual scope s.heap.objs.size f cd
 outer:=outer
 stack:=Jc qual scope s.heap.objs.size f cd::outer
 ex:=[]
 calm:=da
 fn:=λ_=>da
 pn:=[]
 xe:=λe F=>wpAny (Fa P w) (A.deeper (Jc qual scope s.heap.objs.size f cd)) (Rf (Jc qual scope s.heap.objs.size f cd) e) (λ_ y=>CX outer H s E e y) (λz y=>CX outer H s E z y) F

def oz  {sc:Cc}(h:sc.names.lookup x=ca .cell):∃c,(Gf n sc.names []).lookup x=ca c:=by
 have q:=sx sc.names n [] (.inl h);exact Lb.mp q

def Iz     {K:Hb} 
  (S:FnScope N ps scope) (hd:A.handled=la) (e0:Env0 P w K mg base A outer s H) (hl:vs.length=ps.length) (r:Vals vs us)
  (x:InCallC s s.heap.objs.size (Ti (Jc qual scope s.heap.objs.size f cd).kindOf (ps.zip us) λ_=>la) (Gf (s.heap.objs.size+1) scope.names []) (Ui (Jc qual scope s.heap.objs.size f cd).kindOf (ps.zip us) λ_=>la) s1) :
  La (cxOf CX P w K mg base N qual scope f cd A outer s H E) [] (start N vs) H s1:=by
 have xa:ps.length<=N.length:=by have:=congrArg List.length S.pre;rw[xt]at this;lia
 obtain⟨Y,tk,rfl,hk⟩:=x.done;have I:∀b:Aa,b∉(cxOf CX P w K mg base N qual scope f cd A outer s H E).ex:=λb z=>absurd (show b∈([]:List Aa)from z) (by simp)
 refine⟨⟨e0.mod,S.kind,rfl,rfl,ub _,λy z c Y F=>?_,λy J=>?_,λy c _ h=>?_,λ_=>hd,JL e0.frames,.inr ⟨rfl,rfl⟩,λb z=>absurd z (I b),e0.bs,e0.bsz,λb _ _=>I b,λb z=>absurd z (I b),e0.funs,e0.frf⟩,
  rfl,e0.bare,Un.kept hk,⟨_,x.toInCall.ns,λi y v Y F h3=>?_⟩,λy c h=>⟨_,x.cell y c h⟩,e0.hok.fresh (ub _),λy c h=>?_,λp O=>absurd (show p∈([]:List (Aa×Obj))from O) (by simp),e0.hok.kept hk,?_⟩
 ·exact name_of_addr x.apart (cg Y) (cg F)
 ·have J:scope.names.lookup y=ca .cell\/scope.names.lookup y=ca .free:=J;rcases J with J|J
  ·exact oz J
  ·exact absurd rfl (S.nofree _ (cg J))
 ·exact fk (x.above y c (cg h))
 ·have R:i<vs.length:=by
   unfold start at F;by_cases R:i<vs.length
   ·exact R
   ·rw[At (by simpa using R)]at F
    rw[mx]at F;split at F<;>cases F
  have Z:vs[i]?=ca v:=by
   unfold start at F;rw[Qn (by simpa using R),Lf]at F
   cases e:vs[i]? with
   |none=>rw[e]at F;cases F
   |some a=>rw[e]at F;cases F;rfl
  obtain⟨u,hu,rv⟩:=r.get Z;have O:ps[i]?=ca y:=by
   rw[<- S.pre,zL (by lia)];exact Y
  have L:ps.Nodup:=by rw[<- S.pre];exact S.nd.sublist (lC _ _)
  refine⟨u,rv,?_⟩;rcases S.par y (Ze O)with k|k
  ·exact .inl ⟨k,EG L O hu k⟩
  ·obtain⟨c,e⟩:=oz (n:=s.heap.objs.size+1) k;refine .inr ⟨.inl k,c,e,?_⟩;have q:=x.cell y c e;rw[CG L O hu (by show scope.names.lookup y≠_;rw[k];decide)]at q
   exact q
 ·exact e0.hok.fresh (fk (x.above y c (cg h)))
 ·unfold start;show _=N.length;rw[Ke,Bc,GL]
  lia

def LM     {K : Hb}{dV kV xa pm z ct oc : Ba} 
       (lk : K.lookup f = ca ⟨oc, od, .func (ah name qual params body scope dV kV xa pm an z ct), ka⟩) (ja : Zj K z qual = da) (S : FnScope N ps scope)
    (za : ∀ vs H Q E, sp vs H Q E -> vs.length = ps.length)
    (L : ∀ (A : Kb) outer (s : Da) H (vs : List V) Q E , Room k (A.deeper (Jc qual scope s.heap.objs.size f z)) -> sp vs H Q E ->
      ∃ t, Fd (cxOf CX P w K mg base N qual scope f z A outer s H E) body t /\ t { nx := λ_ H' => Q .non H', rt := Q } (start N vs) H) :
    FnOk P w K mg base CX (k + 1) f (ah name qual params body scope dV kV xa pm an z ct) ps sp := by
  refine ⟨za, λA outer s H ya us vs Q E hr e0 hb r Y => ?_⟩
  have hl := za _ _ _ _ Y
  have KX : K.In s.heap := e0.mod.kin.keeps λb o e => (e0.bs b o e).1
  have va : s.heap.NoLimit := e0.mod.nolimit.keeps λb o e => (e0.bs b o e).1
  have O : ∀ y ∈ ps.zip us, scope.names.lookup y.1 = ca .local \/ (scope.names.lookup y.1 = ca .cell /\ ((Gf (s.heap.objs.size + 1) scope.names []).lookup y.1).isSome = da) := λ⟨n, v⟩ hy => by
    rcases S.par n (Np hy).1 with q | q
    · exact .inl q
    · exact .inr ⟨q, sx _ _ _ (.inl q)⟩
  refine qC hr.depth (KX _ _ lk) rfl S.co S.gen rfl (VB KX ja) (hb _ _ _ _ ?_)
  refine EC S.kind O λxb he s1 x => ?_
  subst he
  refine ⟨va.keeps x.toInCall.keep, pB ?_⟩
  obtain ⟨t, ht, hq⟩ := L A outer s H vs Q E (hr.deeper _) Y
  have I : La (cxOf CX P w K mg base N qual scope f z A outer s H E) [] (start N vs) H s1 := Iz S hr.hd e0 hl r x
  refine Pe (ht [] s1 (start N vs) H _ I hq) (λfl s' R => ?_) λe s' R => R
  have Z : ∀ {F : St} {H' : Hp} {v : V} {u : Ba}, La (cxOf CX P w K mg base N qual scope f z A outer s H E) [] F H' s' -> RelV v u -> Q v H' -> CE outer P w H s Q u s' :=
    λ{F H' v u} J rv q => ⟨v, H', J.os, J.bare, J.base, J.hok, rv, q⟩
  cases fl with
  | ret u =>
    obtain ⟨v, F, H', J, rv, q⟩ := R
    exact Z J rv q
  | next =>
    obtain ⟨F, H', J, q⟩ := R
    exact Z (v := V.non) (u := uh) J rfl q
  | brk =>
    obtain ⟨_, _, _, q⟩ := R
    exact Qh q
  | cont =>
    obtain ⟨_, _, _, q⟩ := R
    exact Qh q
section
variable {X:Cx}{x:Str}{p pos:Pos}{e:Ia}{es:List Ia}{t:TA}{id T:String}{r:List V->Hp->VK->Prop}

def Ux  (r:List V->Hp->VK->Prop)(t:TA):TE:=λy H Q=>t y H λF z=>r F z Q
def Pv (L:rf X (.builtin id) r)(hg:Gl X x)(hm:X.mg x=la)(hv:rj x=ca (.builtin id))(O:PA X (e::es) t)(Z:x ≠ "__name__" := by decide)(F:(x==("__debug__" : Str))=ia:=by decide)
  (Y:uc (e::es) X.env=(ia,lb e X.env)::uc es X.env:=by rfl) (z:(Tb pos (uc es X.env)).any (·.1)=ia:=by rfl):PE X (.Call (.Name x p) (e::es) [] pos) (Ux r t):=by
 intro y s J H Q I h;refine rl (Wo I hg hm hv ?_ Z F);exact PyProof.Rows.callWith_builtin1 (Db (O pos y s J H _ I h) λus s1 ⟨vs,H1,R,r1,q1⟩=>L y s1 J H1 vs us Q R r1 q1) Y z
def Pz (L:rf X (.type T) r)(hg:Gl X x)(hm:X.mg x=la)(hv:rj x=ca (.type T))(O:PA X (e::es) t)(Z:x ≠ "__name__" := by decide)(F:(x==("__debug__" : Str))=ia:=by decide)
  (Y:uc (e::es) X.env=(ia,lb e X.env)::uc es X.env:=by rfl) (z:(Tb pos (uc es X.env)).any (·.1)=ia:=by rfl):PE X (.Call (.Name x p) (e::es) [] pos) (Ux r t):=by
 intro y s J H Q I h;refine rl (Wo I hg hm hv ?_ Z F);exact Mx (Db (O pos y s J H _ I h) λus s1 ⟨vs,H1,R,r1,q1⟩=>L y s1 J H1 vs us Q R r1 q1) Y z
end
end L2

namespace HT
open PySem PyProof.Rows

section
open PySem.SeqAt
open PySem.AutoSeq1 (wpAny_loadPart')
open PySem.MeetsSeq PySem.MeetsSeq2 PySem.MeetsSeq3

end

section
variable {prog:Ib}{w:ib}{A:Kb}{E:Ba->Da->Prop}{s:Da}

def cat_tup     (ht:Vi s.heap t vs.toArray)(hb:Vi s.heap b ws.toArray)(hv:vs≠[])
  (h1:ws=[]->Q (.ref t) s) (h2:ws≠[]->Q (.ref s.heap.objs.size) { s with heap:=s.heap.push { cls:=.type "tuple",data:=.seq (vs++ws).toArray } })
  (hsz:vs.length+ws.length<=Wa):wpAny (Fa prog w) A (Se .Add (.ref t) (.ref b)) Q E s:=by
 obtain⟨⟨cls,Y,data,Z⟩,O,hc,n,hd⟩:=id ht;obtain⟨⟨xa,z,R,J⟩,y,I,n2,F⟩:=id hb;simp only at hc hd I F;subst hc hd I F;have e:vs.toArray++ws.toArray=(vs++ws).toArray:=by simp
 by_cases L:ws=[]
 ·exact qB ⟨_,O,rfl⟩ ⟨_,y,rfl⟩ IB ZA DC wC (AC _ _)
   (tuple_addW1 t b vs.toArray ws.toArray n n2 Y z Z J (by simpa using hv) (by simp[L])) ⟨O,y,h1 L⟩
 ·refine qB ⟨_,O,rfl⟩ ⟨_,y,rfl⟩ IB ZA DC wC (AC _ _)
   (tuple_addW2 t b vs.toArray ws.toArray n n2 Y z Z J (by simpa using hv) (by simpa using L) (by rw[ud,ud];exact hsz)) ⟨O,y,?_⟩
  rw[e];exact h2 L

noncomputable def sIx  (n d:Nat):Option Int->Nat
 |none=>d
 |some v=>if v<0 then (v+(n:Int)).toNat else min v.toNat n
def sIx_none   n d:sIx n d la=d:=rfl
def sIx_nat  (n d k:Nat):sIx n d (ca (k:Int))=min k n:=by
 show(if (k:Int)<0 then ((k:Int)+(n:Int)).toNat else min (k:Int).toNat n)=min k n
 rw[if_neg (by lia),Kn]
def yQ   n d (hd:d<=n) o:sIx n d o<=n:=by
 cases o with
 |none=>exact hd
 |some v=>
  show(if v<0 then (v+(n:Int)).toNat else min v.toNat n)<=n
  by_cases y:v<0
  ·rw[if_pos y];lia
  ·rw[if_neg y];exact Nat.min_le_right _ _
def dF   v (n d:Nat):(if v<0 then max (v+(n:Int)) 0 else min v (n:Int))=((sIx n d (ca v):Nat):Int):=by
 show(if v<0 then max (v+(n:Int)) 0 else min v (n:Int))=(((if v<0 then (v+(n:Int)).toNat else min v.toNat n):Nat):Int)
 by_cases y:v<0
 ·simp only[if_pos y];lia
 ·simp only[if_neg y];lia
def PV   z y (n:Nat):Bt z y 1 (n:Int)=(((sIx n 0 z:Nat):Int),((sIx n n y:Nat):Int)):=by
 have F:¬((1:Int)<0):=by lia
 unfold Bt;simp only[F,if_false];refine Xn ?_ ?_
 ·cases z with
  |none=>rfl
  |some v=>exact dF v n 0
 ·cases y with
  |none=>rfl
  |some v=>exact dF v n n
def NV  (i j:Nat):Fl (i:Int) (j:Int) 1=j-i:=by
 unfold Fl;have y:(1:Int)>0:=by lia
 simp only[y,if_true,gB];split<;>lia
def Yr     (p:Qe v o)(h:Q o s):wpAny (Fa prog w) A (Mb.Slice.slicePartIndex v) Q E s:=by
 cases p with
 |none=>exact slicePart_none h
 |int i t=>exact slicePart_int h
def KJ    {y z:Option Int}{n:Nat}(hs:s.heap.IsSliceOf R L J .none)(O:Qe L y)(Z:Qe J z)
  (h:Q (((sIx n 0 y:Nat):Int),1,sIx n n z-sIx n 0 y) s):wpAny (Fa prog w) A (Lx (.ref R) (pure (n:Int))) Q E s:=by
 obtain⟨os,I,Y,F⟩:=id hs;unfold Lx QL;refine db (db (Oi I F (x:=L) rfl (db (Oi I F (x:=J) rfl (db (Oi I F (x:=.none) rfl (Zb ?_)))))));refine db (slicePart_none ?_);show wpAny _ _ (if ((1:Int)==0)=da then _ else _) _ _ s
 rw[if_neg (by decide)]
 refine db (Yr O (db (Yr Z (db (Zb ?_)))));show wpAny _ _ (match Bt y z 1 (n:Int)with|(y,z)=>pure (y,(1:Int),Fl y z 1)) _ _ s
 rw[PV y z n];show wpAny _ _ (pure (((sIx n 0 y:Nat):Int),(1:Int),Fl ((sIx n 0 y:Nat):Int) ((sIx n n z:Nat):Int) 1)) _ _ s;rw[NV];exact Zb h
def zU  (xs:Array Ba)(i k:Nat):((Be k).filterMap λ(m:Nat)=>xs[((i:Int)+(m:Int)*1).toNat]?).toArray=((xs.toList.drop i).take k).toArray:=by
 have e:(λ(m:Nat)=>xs[((i:Int)+(m:Int)*1).toNat]?)=λm=>xs[i+m]?:=by
  funext m;have:((i:Int)+(m:Int)*1).toNat=i+m:=by lia
  rw[this]
 rw[e];have:=pick_run xs i k;rw[RK]at this;have y:((λx=>xs[x]?) ∘ λx=>i+x)=λm=>xs[i+m]?:=rfl;rw[y]at this;rw[this]

def getItem_tuple_cut     {z F:Option Int}(I:Vi s.heap t items)(hs:s.heap.IsSliceOf Y vl vu .none)(pl:Qe vl z)(pu:Qe vu F)
  (Z:¬(sIx items.size 0 z=0/\sIx items.size items.size F=items.size))
  (h:Q (.ref s.heap.objs.size) { s with heap:=s.heap.push { cls:=.type "tuple",data:=.seq ((items.toList.drop (sIx items.size 0 z)).take (sIx items.size items.size F-sIx items.size 0 z)).toArray } })
  (hsz:items.size<=Wa):wpAny (Fa prog w) A (Vc (.ref t) (.ref Y)) Q E s:=by
 have y:sizeOk (.seq ((items.toList.drop (sIx items.size 0 z)).take (sIx items.size items.size F-sIx items.size 0 z)).toArray):=by
  show((items.toList.drop (sIx items.size 0 z)).take (sIx items.size items.size F-sIx items.size 0 z)).toArray.size<=Wa;rw[ud,xt,dL,TB]
  lia
 have hj:sIx items.size items.size F<=items.size:=yQ _ _ (ub _) F;obtain⟨os,R,O,xa⟩:=id hs;have L:s.TypeIs (.ref Y) "slice" := ⟨os,R,O⟩;unfold Vc
 try with_reducible refine al ?_
 first|refine db (Zb ?_)|skip
 refine db (vB I.typeIs (by decide) ?_)
 refine db (bC (name:=Yk "__getitem__") I.typeIs ik
  (JB ik I.typeIs jC ?_ (rC _ _)))
 show wpAny _ _ (vC (.ref t) >>= _) _ _ s;refine db (bB I ?_);refine db (Qs L ?_);rw[if_pos (by decide)]
 refine db (KJ hs pl pu ?_);have J:¬((((sIx items.size 0 z:Nat):Int)==0&&(1:Int)==1&&(sIx items.size items.size F-sIx items.size 0 z)==items.size)=da):=by
  intro q;rw[Lc,Lc]at q;have q1:((sIx items.size 0 z:Nat):Int)=0:=eq_of_beq q.1.1;have q2:sIx items.size items.size F-sIx items.size 0 z=items.size:=eq_of_beq q.2;exact Z ⟨by lia,by lia⟩
 show wpAny _ _ (if (((sIx items.size 0 z:Nat):Int)==0&&(1:Int)==1&&(sIx items.size items.size F-sIx items.size 0 z)==items.size)=da then _ else _) _ _ s
 rw[if_neg J,zU]
 first
  |exact db (m:=El _) (Ri (Zb ⟨_,rfl,Zb h⟩) y)
  |exact db (m:=El _) (Ri (db (Zb (Zb ⟨_,rfl,Zb h⟩))) y)
  |exact db (db (m:=El _) (Ri (Zb (Zb ⟨_,rfl,Zb h⟩)) y))
  |exact db (db (m:=El _) (Ri (Zb ⟨_,rfl,Zb h⟩) y))
end
end HT

namespace L2
open PySem PySem.Spec PyProof.Rows

abbrev TO:=St->Hp->(Option Int->Hp->Prop)->Prop
def PO  (X:Cx)(e:Option Ia)(t:TO):Prop:=
 ∀(y:List (Aa×Obj)) (s:Da) (σ:St) (H:Hp) (Q:Option Int->Hp->Prop),La X y σ H s->t σ H Q->
  wpAny (Fa X.prog X.w) X.A (evalPart e X.env) (λu F=>∃o z,La X y σ z F/\Qe u o/\Q o z) X.xe s
def GS  : TO:=λ_ H Q=>Q la H
def YN  (t:TE):TO:=λy H Q=>t y H λx z=>∃i,x=.int i/\Q (ca i) z


def kS  : PO X la GS:=by
 intro y s z H Q I h;rw[XA];exact Zb ⟨la,H,I,.none,h⟩
def mS  (h:PE X e te):PO X (ca e) (YN te):=by
 intro y s J H Q I z;rw[evalPart_some];refine Db (h y s J H _ I z) λu s1 ⟨x,L,F,r1,q1⟩=>?_;obtain⟨i,rfl,q⟩:=q1;obtain⟨t,rfl⟩:=r1;exact⟨ca i,L,F,.int i t,q⟩

def Vh  (X:Cx)(r:V->Option Int->Option Int->Hp->VK->Prop):Prop:=
 ∀(y:List (Aa×Obj)) (s:Da) (σ:St) (H:Hp) (x:V) (v vl vu:Ba) (lo hi:Option Int) (sl:Aa) (Q:VK),La X y σ H s->RelV x v->s.heap.IsSliceOf sl vl vu .none->Qe vl lo->Qe vu hi->r x lo hi H Q->
  ∃T z,Bf (.type T) "__getitem__" = pure (ca (.builtin z))/\s.TypeIs v T/\wpAny (Fa X.prog X.w) X.A (Vc v (.ref sl)) (EP X y σ Q) X.xe s
def Vh.or   (h:Vh X r)(h':Vh X r'):Vh X (λx F J H Q=>r x F J H Q\/r' x F J H Q):=by
 intro z s Z H x v vl vu F J O Q I rx R L Y q;rcases q with q|q
 ·exact h z s Z H x v vl vu F J O Q I rx R L Y q
 ·exact h' z s Z H x v vl vu F J O Q I rx R L Y q
def aM  (r:V->Option Int->Option Int->Hp->VK->Prop)(z:TE)(I F:TO):TE:=λy H Q=>z y H λx L=>I y L λl J=>F y J λu O=>r x l u O Q
def xU  {O: Option Ia}(hr:Vh X r)(he:PE X e te)(hl:PO X O tl)(hu:PO X Y th):PE X (.Subscript e (.Slice O Y la Z) pos) (aM r te tl th):=by
 intro y s F H Q I h;refine lq (Db (he y s F H _ I h) λv s1 ⟨x,H1,I1,r1,q1⟩=>?_);refine wpAny_Slice (Db (hl y s1 F H1 _ I1 q1) λJ s2 ⟨l,H2,I2,pl,q2⟩=>Db (hu y s2 F H2 _ I2 q2) λL z ⟨u,R,I3,pu,q3⟩=>?_);rw[XA];refine Zb ?_;have I4:La X y F R { z with heap:=z.heap.push { cls:=.type "slice",data:=.fields #[J,L,.none] } }:=I3.kept (t':=z.toks) λb ob q=>Uc _ q
 obtain⟨T,id,hT,ht,hg⟩:=hr y { z with heap:=z.heap.push { cls:=.type "slice",data:=.fields #[J,L,.none] } } F R x v J L l u z.heap.objs.size Q I4 r1 (Wd.new ..) pl pu q3;show wpAny (Fa X.prog X.w) X.A (Yw e (.Slice O Y la Z) v (.ref z.heap.objs.size)) (EP X y F Q) X.xe { z with heap:=z.heap.push { cls:=.type "slice",data:=.fields #[J,L,.none] } }
 exact Ol (ops:=[.ref z.heap.objs.size,v]) ht hT hg (by with_unfolding_all rfl)

def cutV  (xs:List V)(y z:Option Int):List V:=(xs.drop (HT.sIx xs.length 0 y)).take (HT.sIx xs.length xs.length z-HT.sIx xs.length 0 y)
def IH  (xs:List V) lo hi:(cutV xs lo hi).length<=xs.length:=by
 unfold cutV;rw[xt,dL]
 lia
def rSlT  (K:Hb):V->Option Int->Option Int->Hp->VK->Prop:=λx z F H Q=>∃a y,x=.ref a/\Pc K H a y/\
 ¬(HT.sIx y.length 0 z=0/\HT.sIx y.length y.length F=y.length)/\∀p,H p=la->Q (.ref p) (upd H p (.tup (cutV y z F)))
def LP  : Vh X (rSlT X.K):=by
 intro Y s σ H x v vl vu F L sl Q I rx Z pl pu h;obtain⟨a,z,rfl,hx,hw,q⟩:=h;cases rx;obtain⟨J,r,O,R⟩:=I.tuple hx;have y:J.toArray.size=z.length:=by rw[ud];exact r.length.symm
 refine⟨"tuple",_,ik.lookup,O.typeIs,?_⟩;refine HT.getItem_tuple_cut O Z pl pu (by rw[y];exact hw) ?_ (by rw[y];exact R)
 rw[y];refine⟨.ref s.heap.objs.size,_,I.laid (t':=s.toks) (o:=.tup (cutV z F L)) (λb ob q=>Uc _ q) (ub _) ?_,rfl,q _ (I.hok.fresh (ub _))⟩;exact⟨Jb (IH z F L) R,_,(r.drop (HT.sIx z.length 0 F)).take (HT.sIx z.length z.length L-HT.sIx z.length 0 F),TupD.new _ _⟩

def zO  (K:Hb):R2:=λx y H Q=>∃a b F z,x=.ref a/\y=.ref b/\Pc K H a F/\Pc K H b z/\F≠[]/\F.length+z.length<=Wa/\
 (z=[]->Q (.ref a) H)/\(z≠[]->∀p,H p=la->Q (.ref p) (upd H p (.tup (F++z))))
def Vals.nil_iff    (r:Vals xs us):us=[]↔xs=[]:=by
 cases r with
 |nil=>simp
 |cons _ _=>simp
def jR  : ic X (Se .Add) (zO X.K):=by
 intro L s σ H x y v u Q I rx ry h;obtain⟨a,b,R,ys,rfl,rfl,Y,Z,hx,J,q1,q2⟩:=h;cases rx;cases ry;obtain⟨O,r1,p1,_⟩:=I.tuple Y;obtain⟨F,r2,p2,_⟩:=I.tuple Z;refine HT.cat_tup p1 p2 (λz=>hx (r1.nil_iff.mp z)) (λz=>⟨.ref a,H,I,rfl,q1 (r2.nil_iff.mp z)⟩) (λz=>?_) (by rw[<- r1.length,<- r2.length];exact J)
 refine⟨.ref s.heap.objs.size,_,I.laid (t':=s.toks) (o:=.tup (R++ys)) (λb ob q=>Uc _ q) (ub _) ?_,rfl,q2 (λw=>z (r2.nil_iff.mpr w)) _ (I.hok.fresh (ub _))⟩;exact⟨by rw[Ke];exact J,_,r1.append r2,TupD.new _ _⟩

noncomputable def Mh  (n:Nat)(i:Int):Option Nat:=if 0<=i then (if i<n then ca i.toNat else la) else if -(n:Int)<=i then ca (i+n).toNat else la
def atI  {y:Type}(xs:List y)(i:Int):Option y:=(Mh xs.length i).bind λj=>xs[j]?
def bF     (h:Mh n i=ca j):Cw i n=ca j/\j<n/\-(n:Int)<=i/\i<n:=by
 unfold Mh at h;by_cases h0:0<=i
 ·rw[if_pos h0]at h;by_cases y:i<n
  ·rw[if_pos y]at h;have e:i.toNat=j:=Te h;exact⟨by rw[Pl h0 y,e],by lia,by lia,y⟩
  ·rw[if_neg y]at h;cases h
 ·rw[if_neg h0]at h;by_cases y:-(n:Int)<=i
  ·rw[if_pos y]at h;have e:(i+n).toNat=j:=Te h;exact⟨by rw[jB (by lia) y,e],by lia,y,by lia⟩
  ·rw[if_neg y]at h;cases h
def gz      (h:atI xs i=ca v):∃j,Cw i xs.length=ca j/\xs[j]?=ca v/\j<xs.length/\-(xs.length:Int)<=i/\i<xs.length:=by
 unfold atI at h;cases e:Mh xs.length i with
 |none=>rw[e]at h;cases h
 |some j=>
  rw[e]at h;obtain⟨F,y,I,z⟩:=bF e;exact⟨j,F,h,y,I,z⟩
def Pm    {j:Nat}{v:α}(h:xs[j]?=ca v):atI xs (j:Int)=ca v:=by
 have y:j<xs.length:=(Ka.mp h).1;have e:Mh xs.length (j:Int)=ca j:=by
  unfold Mh;rw[if_pos (by lia),if_pos (by lia)];simp
 unfold atI;rw[e];exact h
def cz  (b:Ia):Prop:=∀o i,subscripted b ia o i=operate [o,i] (Vc o i)
def Aj  (X:Cx)(r:R2):Prop:=
 ∀(F z:Ia) (pins:List (Aa×Obj)) (s:Da) (σ:St) (H:Hp) (x y:V) (v u:Ba) (Q:VK),La X pins σ H s->RelV x v->RelV y u->r x y H Q->
  subscripted z ia v u=operate [v,u] (Vc v u)->wpAny (Fa X.prog X.w) X.A (Yw F z v u) (EP X pins σ Q) X.xe s
def Ll  (X:Cx)(id:String)(r:V->List V->Hp->VK->Prop):Prop:=
 ∀(y:List (Aa×Obj)) (s:Da) (σ:St) (H:Hp) (x:V) (xs:List V) (v:Ba) (us:List Ba) (Q:VK),La X y σ H s->RelV x v->Vals xs us->r x xs H Q->
  wpAny (Fa X.prog X.w) X.A (call (.builtin id) (v::us)) (EP X y σ Q) X.xe s

def Aj.or   (h:Aj X r)(h':Aj X r'):Aj X (λx y H Q=>r x y H Q\/r' x y H Q):=by
 intro z F J s O H x y v u Q I Y R q L;rcases q with q|q
 ·exact h z F J s O H x y v u Q I Y R q L
 ·exact h' z F J s O H x y v u Q I Y R q L
def Ll.or  {id:String}(h:Ll X id r)(h':Ll X id r'):Ll X id (λx xs H Q=>r x xs H Q\/r' x xs H Q):=by
 intro z s J H x xs v F Q I O L q;rcases q with q|q
 ·exact h z s J H x xs v F Q I O L q
 ·exact h' z s J H x xs v F Q I O L q
def pO   (hr:Aj X r)(L:PE X a ta)(J:PE X b tb)(hs:cz b):PE X (.Subscript a b pos) (Tt r ta tb):=by
 intro z s R H Q I h;exact lq (binT L J I h λv u s2 x y Y F Z O q=>hr a b z s2 R Y x y v u Q F Z O q (hs _ _))

def rIxL  (K:Hb):R2:=λx y H Q=>∃p z i v,x=.ref p/\y=.int i/\Zc K H p z/\atI z i=ca v/\Q v H
def rIxT  (K:Hb):R2:=λx y H Q=>∃p z i v,x=.ref p/\y=.int i/\Pc K H p z/\atI z i=ca v/\Q v H
def rIxS  : R2:=λx y H Q=>∃z i c,x=.str z/\y=.int i/\z.length<=Wa/\atI z.cps.toList i=ca c/\Q (.str ⟨#[c]⟩) H
def FR  : Aj X (rIxL X.K):=by
 intro R Y F s σ H x y v u Q I rx ry h hs;obtain⟨p,xs,i,z,rfl,rfl,hq,he,q⟩:=h;cases rx;obtain⟨t,rfl⟩:=ry;obtain⟨O,r,pl,hz⟩:=I.list hq;obtain⟨j,L,h2,h3,h4,h5⟩:=gz he;obtain⟨w,ew,xa⟩:=r.get h2;have hl:=r.length;have hn:=Km;have J:EP X F σ Q w s:=⟨z,H,I,xa,q⟩;by_cases h0:0<=i
 ·have Z:i.toNat=j:=by
   rw[Pl h0 h5]at L;exact Te L
  exact item_listR pl.isList h0 (by lia) (by rw[Z];simpa using ew) J hs
 ·have Z:(i+(O.toArray.size:Int)).toNat=j:=by
   rw[jB (by lia) h4]at L
   rw[ud,<- hl];exact Te L
  exact OK (x:=w) pl.isList.typeIs Qf.lookup
   (wpAny_getItem_list_neg (Q:=λr s'=>r=w/\EP X F σ Q r s') pl.isList (by lia) (by rw[ud]<;>lia) (by lia) (by rw[Z];simpa using ew) ⟨rfl,J⟩) hs
def nP  : Aj X (rIxT X.K):=by
 intro J L F s Z H x y v u Q I rx ry h hs;obtain⟨p,xs,i,z,rfl,rfl,hq,he,q⟩:=h;cases rx;obtain⟨t,rfl⟩:=ry;obtain⟨xa,r,Y,hz⟩:=I.tuple hq;obtain⟨j,h1,h2,h3,h4,h5⟩:=gz he;obtain⟨w,ew,R⟩:=r.get h2;have hl:=r.length;have hn:=Km;have O:EP X F Z Q w s:=⟨z,H,I,R,q⟩;exact OK (x:=w) Y.typeIs slot_tuple_getitem.lookup
  (getItem_tuple (j:=j) (Q:=λr s'=>r=w/\EP X F Z Q r s') Y (by lia) (by lia) (by rw[ud,<- hl];exact h1) (by simpa using ew) ⟨rfl,O⟩) hs
def mP  : Aj X rIxS:=by
 intro F J O s σ H x y v u Q I Z ry h R;obtain⟨z,i,c,rfl,rfl,hz,he,q⟩:=h;obtain⟨t,rfl⟩:=Z;obtain⟨t',rfl⟩:=ry;obtain⟨j,L,h2,h3,h4,h5⟩:=gz he;have hl:z.cps.toList.length=z.length:=by simp[Str.length]
 rw[hl]at L h4 h5;have hn:=Km;exact Ol (cn s z t) slot_str_getitem.lookup (getItem_str (c:=c) (by
  have Y:decide (i < -(2 ^ 63:Int))=ia:=decide_eq_false (by lia)
  have e2:decide (i ≥ 2 ^ 63)=ia:=decide_eq_false (by lia)
  rw[Y,e2,Bool.or_false]) (by rw[L];simpa using h2) ⟨.str ⟨#[c]⟩,H,I.tok _,⟨_,rfl⟩,q⟩) R
def Wx  (K:Hb):R2:=λx y H Q=>rIxL K x y H Q\/rIxT K x y H Q\/rIxS x y H Q
def lP  : Aj X (Wx X.K):=FR.or (nP.or mP)

def wV  (y:List Ba)(n j:Nat) u:Rs (·.setIfInBounds j u) { cls:=.type "list",data:=.seq y.toArray n }={ cls:=.type "list",data:=.seq (y.set j u).toArray n }:=by
 simp[Rs]
def La.lst   {J:St}(I:La X pins J H s)(h:H p=ca (.lst xs)) :
  ∃(F:List Ba) (n:Nat),Vals xs F/\s.heap.get? p=ca { cls:=.type "list",data:=.seq F.toArray n }/\xs.length<=Wa:=by
 obtain⟨z,F,n,r,e⟩:=I.hok p _ h;exact⟨F,n,r,e,z⟩
def La.lstUpd   {J:St}{z its':List Ba}(I:La X pins J H s)(h:H p=ca (.lst xs))
  (R:s.heap.get? p=ca { cls:=.type "list",data:=.seq z.toArray n }) (F:f { cls:=.type "list",data:=.seq z.toArray n }={ cls:=.type "list",data:=.seq its'.toArray L }) (r:Vals ys its') (Y:ys.length<=Wa) t :
  La X pins J (upd H p (.lst ys)) { s with heap:=s.heap.update p f,toks:=t }:=by
 have e:(s.heap.update p f).get? p=ca { cls:=.type "list",data:=.seq its'.toArray L }:=by
  rw[cx f R (by rw[F]<;>rfl),F]
 refine I.write (x:=p) (e:=p) (by rw[h];trivial) (.inl rfl) (λb u O q=>(CC _ _ (Ua O)).trans q) ⟨_,e⟩ ?_
 exact⟨Y,its',L,r,e⟩
def ID  : V->V->V->Hp->(Hp->Prop)->Prop:=λo i v H Q=>∃p y k j,o=.ref p/\i=.int k/\H p=ca (.lst y)/\Mh y.length k=ca j/\Q (upd H p (.lst (y.set j v)))
def TF  : PSet X ID:=by
 intro z s σ H o i v ov iv u Q I ro ri rv h;obtain⟨p,xs,k,j,rfl,rfl,R,hj,q⟩:=h;cases ro;obtain⟨t,rfl⟩:=ri;obtain⟨y,n,r,J,hz⟩:=I.lst R;obtain⟨F,h2,O,Z⟩:=bF hj;have L:=r.length;have hn:=Km;have Y:La X z σ (upd H p (.lst (xs.set j v))) { s with heap:=s.heap.update p (Rs (·.setIfInBounds j u)) }:=
  I.lstUpd R J (wV y n j u) (r.set rv j) (by rw[Mp];exact hz) s.toks
 by_cases h0:0<=k
 ·have hk:k.toNat=j:=by
   rw[Pl h0 Z]at F;exact Te F
  exact PySem.W.ki_setAt J h0 (by lia) (by rw[ud,<- L];exact Z) (by rw[hk];exact⟨_,Y,q⟩)
 ·have hk:(k+(y.toArray.size:Int)).toNat=j:=by
   rw[jB (by lia) O]at F
   rw[ud,<- L];exact Te F
  exact PySem.W.ki_setBack J (by lia) (by rw[ud,<- L];exact O) (by lia) (by rw[hk];exact⟨_,Y,q⟩)

def oW   lo hi n:(Xj lo hi la n).1=((HT.sIx n 0 lo:Nat):Int)/\(Xj lo hi la n).2.1=((HT.sIx n n hi:Nat):Int)/\(Xj lo hi la n).2.2=1:=by
 refine⟨?_,?_,rfl⟩
 ·cases lo with
  |none=>simp[Xj,HT.sIx]
  |some i=>
   simp only[Xj,HT.sIx,YK,show(1:Int)>0 by decide,if_true]
   by_cases h:i<0
   ·simp only[h,if_true]<;>lia
   ·simp only[h,if_false]<;>lia
 ·cases hi with
  |none=>simp[Xj,HT.sIx]
  |some i=>
   simp only[Xj,HT.sIx,YK,show(1:Int)>0 by decide,if_true]
   by_cases h:i<0
   ·simp only[h,if_true]<;>lia
   ·simp only[h,if_false]<;>lia
def DW  (y:List Ba) lo hi:Jp y.toArray lo hi la=((y.drop (HT.sIx y.length 0 lo)).take (HT.sIx y.length y.length hi-HT.sIx y.length 0 lo)).toArray:=by
 obtain⟨F,z,I⟩:=oW lo hi y.toArray.size;unfold Jp;rw[F,z,I];simp only[sliceRange_one,pick_run,ud]<;>rfl
def rSlL  (K:Hb):V->Option Int->Option Int->Hp->VK->Prop:=λx z F H Q=>∃a y,x=.ref a/\Zc K H a y/\∀p,H p=la->Q (.ref p) (upd H p (.lst (cutV y z F)))
def AS  : Vh X (rSlL X.K):=by
 intro L s σ H x v vl vu F J sl Q I rx hs Y pu h;obtain⟨a,y,rfl,Z,q⟩:=h;cases rx;obtain⟨R,r,O,hz⟩:=I.list Z;have z:=r.length;refine⟨"list",_,Qf.lookup,O.isList.typeIs,?_⟩;refine BC O.isList hs Y pu .none (by simp) ?_ (by rw[ud]<;>lia)
 rw[DW,<- z];refine⟨.ref s.heap.objs.size,_,I.laid (t':=s.toks) (o:=.lst (cutV y F J)) (λb ob q=>Uc _ q) (ub _) ?_,rfl,q _ (I.hok.fresh (ub _))⟩;exact⟨Jb (IH y F J) hz,_,0,(r.drop (HT.sIx y.length 0 F)).take (HT.sIx y.length y.length J-HT.sIx y.length 0 F),Zg _ rfl⟩

noncomputable def gi  : V->Bool
 |.non=>da
 |.bl _=>da
 |.int _=>da
 |.str _=>da
 |_=>ia
noncomputable def Uj  : V->V->Bool
 |.non,.non=>da
 |.bl a,.bl b=>a==b
 |.bl a,.int b=>(if a then 1 else 0)==b
 |.int a,.bl b=>a==(if b then 1 else 0)
 |.int a,.int b=>a==b
 |.str a,.str b=>a==b
 |_,_=>ia
def FP      (J:RelV y u)(z:RelV x v)(L:gi y=da)(I:gi x=da):Zf A s u v (Uj y x):=by
 cases y with
 |non=>
  cases J;cases x with
  |non=>cases z;exact Zf.same _
  |bl b=>cases z;exact Zf.none_bool b
  |int b=>obtain⟨t,rfl⟩:=z;exact Zf.none_int b t
  |str b=>obtain⟨t,rfl⟩:=z;exact Zf.none_str b t
  |_=>exact absurd (show ia=da from I) Dd
 |bl a=>
  cases J;cases x with
  |non=>cases z;exact Zf.bool_none a
  |bl b=>cases z;exact Zf.bool_bool a b
  |int b=>obtain⟨t,rfl⟩:=z;exact Zf.bool_int a b t
  |str b=>obtain⟨t,rfl⟩:=z;exact Zf.bool_str a b t
  |_=>exact absurd (show ia=da from I) Dd
 |int a=>
  obtain⟨F,rfl⟩:=J;cases x with
  |non=>cases z;exact Zf.int_none a F
  |bl b=>cases z;exact Zf.int_bool a F b
  |int b=>obtain⟨t,rfl⟩:=z;exact Zf.int_int a F b t
  |str b=>obtain⟨t,rfl⟩:=z;exact BL a F b t
  |_=>exact absurd (show ia=da from I) Dd
 |str a=>
  obtain⟨F,rfl⟩:=J;cases x with
  |non=>cases z;exact Zf.str_none a F
  |bl b=>cases z;exact Zf.str_bool a F b
  |int b=>obtain⟨t,rfl⟩:=z;exact CL a F b t
  |str b=>obtain⟨t,rfl⟩:=z;exact Zf.str_str a F b t
  |_=>exact absurd (show ia=da from I) Dd
 |_=>exact absurd (show ia=da from L) Dd
def eqU  (x:V)(u:Ba):Bool:=match u with
 |.none=>Uj .non x
 |.bool b=>Uj (.bl b) x
 |.int i _=>Uj (.int i) x
 |.str z _=>Uj (.str z) x
 |_=>ia
def WD    (r:RelV y u)(f:gi y=da):eqU x u=Uj y x:=by
 cases y with
 |non=>cases r;rfl
 |bl b=>cases r;rfl
 |int i=>obtain⟨t,rfl⟩:=r;rfl
 |str z=>obtain⟨t,rfl⟩:=r;rfl
 |_=>exact absurd (show ia=da from f) Dd
theorem Tr   : ∀{xs } {us },Vals xs us->xs.all gi=da->us.any (eqU x)=xs.any λy=>Uj y x
 |_,_,.nil,_=>rfl
 |y::xs,u::us,.cons r t,f=>by
  rw[Bh,Lc]at f;rw[tj,tj,WD r f.1,Tr t f.2]
theorem Vr      (z:RelV x v)(F:gi x=da):∀{xs } {us },Vals xs us->xs.all gi=da->∀u∈us,Zf A s u v (eqU x u)
 |_,_,.nil,_=>λu hu=>by cases hu
 |y::xs,u::us,.cons r t,f=>λI hu=>by
  rw[Bh,Lc]at f;rcases Oc.mp hu with rfl|hu
  ·rw[WD r f.1];exact FP r z f.1 F
  ·exact Vr z F t f.2 I hu
def Bs  (x:V)(xs:List V):Bool:=xs.any λy=>Uj y x
def QC  (K:Hb)(F:Bool):R2:=λx y H Q=>∃p z,y=.ref p/\(Zc K H p z\/Pc K H p z)/\gi x=da/\z.all gi=da/\Q (.bl (if F then !Bs x z else Bs x z)) H
def UU  : ic X (Ed .In) (QC X.K ia):=by
 intro O s σ H x y v u Q I Y Z h;obtain⟨p,xs,rfl,F,R,fs,q⟩:=h;cases Z;rcases F with F|F
 ·obtain⟨z,r,L,hz⟩:=I.list F;refine iL (eqU x) L.isList (λw J=>Vr Y R r fs w (by simpa using J)) ⟨.bl _,H,I,rfl,?_⟩
  rw[show z.toArray.any (eqU x)=z.any (eqU x) by simp,Tr r fs]
  exact q
 ·obtain⟨z,r,L,hz⟩:=I.tuple F;refine iC (eqU x) L (λw J=>Vr Y R r fs w (by simpa using J)) ⟨.bl _,H,I,rfl,?_⟩
  rw[show z.toArray.any (eqU x)=z.any (eqU x) by simp,Tr r fs]
  exact q
def kW  : ic X (Ed .NotIn) (QC X.K da):=by
 intro O s σ H x y v u Q I Y Z h;obtain⟨p,xs,rfl,F,R,fs,q⟩:=h;cases Z;rcases F with F|F
 ·obtain⟨z,r,L,hz⟩:=I.list F;refine xK (eqU x) L.isList (λw J=>Vr Y R r fs w (by simpa using J)) ⟨.bl _,H,I,rfl,?_⟩
  rw[show z.toArray.any (eqU x)=z.any (eqU x) by simp,Tr r fs]
  exact q
 ·obtain⟨z,r,L,hz⟩:=I.tuple F;refine WB (eqU x) L (λw J=>Vr Y R r fs w (by simpa using J)) ⟨.bl _,H,I,rfl,?_⟩
  rw[show z.toArray.any (eqU x)=z.any (eqU x) by simp,Tr r fs]
  exact q
def rf.or    (h:rf X f r)(h':rf X f r'):rf X f (λxs H Q=>r xs H Q\/r' xs H Q):=by
 intro z s F H xs L Q I J q;rcases q with q|q
 ·exact h z s F H xs L Q I J q
 ·exact h' z s F H xs L Q I J q
def sW  : rf X (.type "list") (λxs H Q=>∃p L,xs=[.ref p]/\(Zc X.K H p L\/Pc X.K H p L)/\∀l,H l=la->Q (.ref l) (upd H l (.lst L))):=by
 intro O s σ H xs us Q I r h;obtain⟨p,L,rfl,R,q⟩:=h;obtain⟨u,rfl,rx⟩:=gj r;cases rx;have xa:∀(y:List Ba),Vals L y->L.length<=Wa->∀(z:Va) (J:Nat),(∀b o',s.heap.get? b=ca o'->z.get? b=ca o')->
   z.get? s.heap.objs.size=ca { cls:=.type "list",dict:=la,data:=.seq y.toArray J,slots:=#[] }->EP X O σ Q (.ref s.heap.objs.size) { s with heap:=z }:=λy F hz z J Y e=>
  ⟨.ref s.heap.objs.size,_,I.laid (t':=s.toks) Y (ub _) (show Sd X.prog X.w _ z _ (.lst L)from⟨hz,y,J,F,e⟩),rfl,q _ (I.hok.fresh (ub _))⟩
 rcases R with R|R
 ·obtain⟨y,F,pl,hz⟩:=I.list R;have Z:=F.length;obtain⟨o,ho,hc,n,hd⟩:=pl.isList;exact call_list_seq p (.inl rfl) ho hc hd (λz J Y e=>xa y F hz z J Y e) (by simp only[ud]<;>lia)
 ·obtain⟨y,F,pl,hz⟩:=I.tuple R;have Z:=F.length;obtain⟨o,ho,hc,n,hd⟩:=pl;exact call_list_seq p (.inr rfl) ho hc hd (λz J Y e=>xa y F hz z J Y e) (by simp only[ud]<;>lia)
def rW  : rf X (.type "tuple") (λxs H Q=>∃p F,xs=[.ref p]/\((Zc X.K H p F/\∀l,H l=la->Q (.ref l) (upd H l (.tup F)))\/(Pc X.K H p F/\Q (.ref p) H))):=by
 intro y s σ H xs us Q I r h;obtain⟨p,F,rfl,h⟩:=h;obtain⟨u,rfl,rx⟩:=gj r;cases rx;rcases h with⟨R,q⟩|⟨R,q⟩
 ·obtain⟨z,O,L,hz⟩:=I.list R;have Z:=O.length;refine call_tuple_list L.isList (λJ kp=>?_) (by simp only[ud]<;>lia)
  have Y:La X y σ H { s with heap:=J }:=I.kept (t':=s.toks) kp
  have I2:La X y σ (upd H J.objs.size (.tup F)) { s with heap:=J.push { cls:=.type "tuple",data:=.seq z.toArray } }:=
   Y.laid (t':=s.toks) (λb o e=>Uc _ e) (ub _) (show Sd X.prog X.w _ _ _ (.tup F)from⟨hz,z,O,TupD.new _ _⟩)
  exact⟨.ref J.objs.size,_,I2,rfl,q _ (Y.hok.fresh (ub _))⟩
 ·obtain⟨z,O,L,hz⟩:=I.tuple R;exact call_tuple_same L ⟨.ref p,H,I,rfl,q⟩

def Sx  (K:Hb)(T:String)(x:V)(H:Hp):Prop:=match x with
 |.str _=>T = "str"
 |.int _=>T = "int"
 |.ref p=>(T = "list" /\ ∃z,Zc K H p z)\/(T = "tuple" /\ ∃o,K.lookup p=ca o/\o.cls=.type "tuple" /\ o.dict=la)\/
   (T = "dict" /\ ((∃y,H p=ca (.dK y))\/∃y,H p=ca (.dT y)))\/(T = "set" /\ ∃S n,H p=ca (.set S n))\/(T = "tuple" /\ ∃z,H p=ca (.tup z))
 |_=>False
def xE   {σ:St}(I:La X pins σ H s)(r:RelV x v)(J:Sx X.K T x H) :
  s.TypeIs v T/\∀a,v=.ref a->∃Z,s.heap.get? a=ca Z/\Z.dict=la:=by
 cases x with
 |str z=>
  obtain⟨t,rfl⟩:=r;cases(show T = "str" from J);exact⟨cn s z t,λ_ e=>nomatch e⟩
 |int i=>
  obtain⟨t,rfl⟩:=r;cases(show T = "int" from J);exact⟨Ls s i t,λ_ e=>nomatch e⟩
 |ref p=>
  cases r;rcases J with⟨rfl,R,hq⟩|⟨rfl,o,hk,hc,hd⟩|⟨rfl,hk⟩|⟨rfl,S,n,hk⟩|⟨rfl,R,hk⟩
  ·obtain⟨L,_,Y,_⟩:=I.list hq;refine⟨Y.isList.typeIs,λa e=>?_⟩;cases e;obtain⟨o,n,e,c,hd,_⟩:=Y;exact⟨o,e,hd⟩
  ·refine⟨⟨o,I.kIn p o hk,hc⟩,λa e=>?_⟩;cases e;exact⟨o,I.kIn _ o hk,hd⟩
  ·have z:∃o,s.heap.get? p=ca o/\o.ExactDict:=by
    rcases hk with⟨O,hk⟩|⟨O,hk⟩
    ·obtain⟨_,_,_,_,o,_,_,e,y,_⟩:=I.hok p _ hk;exact⟨o,e,y⟩
    ·obtain⟨_,_,_,_,o,_,_,e,y,_⟩:=I.hok p _ hk;exact⟨o,e,y⟩
   obtain⟨o,e,y⟩:=z;refine⟨⟨o,e,y.1⟩,λa F=>?_⟩;cases F;exact⟨o,e,y.2.1⟩
  ·obtain⟨o,_,_,_,e,y,_⟩:=I.hok p _ hk;refine⟨⟨o,e,y.1⟩,λa F=>?_⟩;cases F;exact⟨o,e,y.2.1⟩
  ·obtain⟨_,L,r,o,e,c,n,d,hd⟩:=(show Sd X.prog X.w H s.heap p (.tup R)from I.hok p _ hk);refine⟨⟨o,e,c⟩,λa F=>?_⟩;cases F;exact⟨o,e,hd⟩
 |_=>exact Qh J


def Ox  (X:Cx)(id:String)(r:V->List V->Hp->VK->Prop):Prop:=
 ∀(y:List (Aa×Obj)) (s:Da) (σ:St) (H:Hp) (x:V) (xs:List V) (v:Ba) (us:List Ba) (Q:VK),La X y σ H s->RelV x v->Vals xs us->r x xs H Q->
  wpAny (Fa X.prog X.w) X.A (call (.builtin id) (v::us)) (EP X y σ Q) X.xe s

def Vals.one  : ∀{x } {us },Vals [x] us->∃u,us=[u]/\RelV x u
 |_,_,.cons r .nil=>⟨_,rfl,r⟩
def Vals.two  : ∀{x y } {us },Vals [x,y] us->∃u v,us=[u,v]/\RelV x u/\RelV y v
 |_,_,_,.cons r (.cons q .nil)=>⟨_,_,rfl,r,q⟩
def Vals.zero  : ∀{us },Vals [] us->us=[]
 |_,.nil=>rfl
theorem Vals.dropLast    (h:Vals xs us):Vals xs.dropLast us.dropLast:=by
 induction h with
 |nil=>exact .nil
 |cons r t z=>
  cases t with
  |nil=>exact .nil
  |cons q F=>exact .cons r z
theorem Vals.eraseIdx  : ∀{xs } {us } i ,Vals xs us->Vals (xs.eraseIdx i) (us.eraseIdx i)
 |_,_,_,.nil=>.nil
 |_,_,0,.cons _ t=>t
 |_,_,i+1,.cons r t=>.cons r (Vals.eraseIdx i t)
theorem Vals.rep    (h:Vals xs us):∀k ,Vals (Ab k xs).flatten (Ab k us).flatten
 |0=>.nil
 |k+1=>by
  rw[ck,ck,Wp,Wp];exact Vals.append h (Vals.rep h k)
def rV  {y:Type}(l:List y):l.eraseIdx (l.length-1)=l.dropLast:=by
 induction l with
 |nil=>rfl
 |cons a r z=>
  cases r with
  |nil=>rfl
  |cons b r=>
   have e:(a::b::r).length-1=((b::r).length-1)+1:=by
    have I:(a::b::r).length=r.length+2:=rfl;have F:(b::r).length=r.length+1:=rfl
    lia
   rw[e,List.eraseIdx_cons_succ,z]
   all_goals rfl
theorem wG  {y:Type}:∀(l:List y) i ,(l.eraseIdx i).length<=l.length
 |[],_=>ub _
 |_::_,0=>Hw _
 |_::r,i+1=>ut (wG r i)
theorem Gz  (y:List Ba):∀k (acc:List Ba),
  Ts (λI F=>I++F) acc.toArray (Ab k y.toArray)=(acc++(Ab k y).flatten).toArray
 |0,acc=>by simp
 |k+1,acc=>by
  have e:acc.toArray++y.toArray=(acc++y).toArray:=by simp
  have z:(acc++y)++(Ab k y).flatten=acc++(Ab (k+1) y).flatten:=by
   rw[ck,Wp,Op]
  rw[<- z,<- Gz y k (acc++y),<- e,ck,wB]

section
variable {X:Cx}{pins:List (Aa×Obj)}{σ:St}{H:Hp}{s:Da}{l b:Aa}{xs ys zs:List V}

def La.lset  {z its':List Ba}(I:La X pins σ H s)(F:H l=ca (.lst xs))
  (e:s.heap.get? l=ca { cls:=.type "list",data:=.seq z.toArray n }) (L:f z.toArray=its'.toArray) (O:Vals ys its') (R:ys.length<=Wa) :
  La X pins σ (upd H l (.lst ys)) { s with heap:=s.heap.update l (Rs f),toks:=t' }:=by
 have q:=PySem.IsL.update e f;rw[L]at q;refine I.write (x:=l) (e:=l) (by rw[F];exact trivial) (.inl rfl) (λY u J hu=>(CC s.heap (Rs f) (Ua J)).trans hu) ⟨_,q⟩ ?_
 exact⟨R,its',_,O,q⟩
def La.lnew    (I:La X pins σ H s)(J:Vals ys z)(F:ys.length<=Wa) :
  La X pins σ (upd H s.heap.objs.size (.lst ys)) { s with heap:=s.heap.push { cls:=.type "list",data:=.seq z.toArray },toks:=t' }:=
 I.laid (λ_ _ q=>Uc _ q) (ub _) ⟨F,z,0,J,Zg _ rfl⟩
def La.fresh  (I:La X pins σ H s):H s.heap.objs.size=la:=I.hok.fresh (ub _)
def La.lstM  (I:La X pins σ H s)(J:H l=ca (.lst xs)):xs.length<=Wa/\∃(F:List Ba) (n:Nat),Vals xs F/\xs.length=F.length/\s.heap.get? l=ca { cls:=.type "list",data:=.seq F.toArray n }:=by
 obtain⟨z,F,n,r,e⟩:=I.hok l _ J;exact⟨z,F,n,r,r.length,e⟩

def eG   (h:n<=Wa):Nx n=ia:=by
 unfold Nx;exact decide_eq_false (by lia)
end


def uS  : V->List V->Hp->VK->Prop:=λx F H Q=>∃l z y,x=.ref l/\F=[y]/\H l=ca (.lst z)/\z.length<Wa/\Q .non (upd H l (.lst (z++[y])))
def yG  : Ox X "list.append" uS:=by
 intro O s σ H x vs v us Q I Z Y h;obtain⟨l,xs,y,rfl,rfl,L,hz,q⟩:=h;cases Z;obtain⟨u,rfl,R⟩:=Y.one;obtain⟨z,J,n,r,hl,e⟩:=I.lstM L;refine Ah F.slot_list_append ⟨_,e,rfl⟩ F.entry_list_append (F.args_list_append_2 _ _) (PySem.list_append l J.toArray n u (by rw[ud];lia)) ⟨e,?_⟩
 refine⟨.non,_,I.lset (its':=J++[u]) L e (by simp) (r.append (.cons R .nil)) ?_,rfl,q⟩
 rw[Ke,IL]
 lia

def vS  : V->List V->Hp->VK->Prop:=λx F H Q=>∃l b z y,x=.ref l/\F=[.ref b]/\H l=ca (.lst z)/\H b=ca (.lst y)/\z.length+y.length<=Wa/\Q .non (upd H l (.lst (z++y)))
def iV  : Ox X "list.extend" vS:=by
 intro Y s σ H x vs v us Q I Z rv h;obtain⟨l,b,xs,zs,rfl,rfl,R,hB,hz,q⟩:=h;cases Z;obtain⟨u,rfl,ru⟩:=rv.one;cases ru;obtain⟨z,J,n,r,hl,e⟩:=I.lstM R;obtain⟨z2,y,n2,r2,xa,e2⟩:=I.lstM hB;have O:J.toArray.size+y.toArray.size<=Wa:=by rw[ud,ud];lia
 have L:¬(!J.toArray.isEmpty&&Nx (J.toArray.size+y.toArray.size))=da:=by
  rw[eG O,KB];exact Dd
 refine Ah F.slot_list_extend ⟨_,e,rfl⟩ F.entry_list_extend (F.args_list_extend_2 _ _)
  (AutoSeq1.list_extend_list_list_0 l J.toArray n b y.toArray n2 L (by rw[ud];lia) (by lia)) ⟨e,e2,?_⟩
 refine⟨.non,_,I.lset (its':=J++y) R e (by simp) (r.append r2) ?_,rfl,q⟩
 rw[Ke]
 lia

def rPop  : V->List V->Hp->VK->Prop:=λx F H Q=>∃l z y,x=.ref l/\F=[]/\H l=ca (.lst z)/\z[z.length-1]?=ca y/\Q y (upd H l (.lst z.dropLast))
def mt_pop  : Ox X "list.pop" rPop:=by
 intro Y s σ H x vs v us Q I rx rv h;obtain⟨l,xs,y,rfl,rfl,R,hy,q⟩:=h;cases rx;have O:=rv.zero;subst O;obtain⟨z,J,n,r,hl,e⟩:=I.lstM R;obtain⟨u,hu,Z⟩:=r.get hy;have L:J.toArray[J.toArray.size-1]?=ca u:=by
  show J.toArray[J.length-1]?=ca u;rw[<- qL,<- hl];exact hu
 refine Ah F.slot_list_pop ⟨_,e,rfl⟩ F.entry_list_pop (F.args_list_pop_1 _) (MeetsSeq.list_pop_last l J.toArray n u L (by rw[ud];lia)) ⟨e,?_⟩
 refine⟨y,_,I.lset (its':=J.dropLast) R e ?_ r.dropLast ?_,Z,q⟩
 ·show J.toArray.eraseIdxIfInBounds (J.toArray.size-1)=J.dropLast.toArray;rw[ud,NL,rV]
 ·rw[List.length_dropLast]
  lia

def xQ  : V->List V->Hp->VK->Prop:=λx F H Q=>∃l z i k y,x=.ref l/\F=[.int i]/\H l=ca (.lst z)/\-(2 ^ 63)<=i/\i<2 ^ 63/\Cw i z.length=ca k/\z[k]?=ca y/\Q y (upd H l (.lst (z.eraseIdx k)))
def kT  : Ox X "list.pop" xQ:=by
 intro R s σ H x vs v us Q I rx rv h;obtain⟨l,xs,i,k,y,rfl,rfl,O,h1,h2,hk,hy,q⟩:=h;cases rx;obtain⟨u,rfl,Z⟩:=rv.one;obtain⟨t,rfl⟩:=Z;obtain⟨z,J,n,r,hl,e⟩:=I.lstM O;obtain⟨w,Y,L⟩:=r.get hy;refine Ah F.slot_list_pop ⟨_,e,rfl⟩ F.entry_list_pop (F.args_list_pop_2 _ _)
  (MeetsSeq.list_pop_at l J.toArray n i t k w (fitsIndex_both h1 h2) (by rw[ud,<- hl];exact hk) (by rw[<- qL];exact Y) (by rw[ud];lia)) ⟨e,?_⟩
 refine⟨y,_,I.lset (its':=J.eraseIdx k) O e ?_ (r.eraseIdx k) ?_,L,q⟩
 ·show J.toArray.eraseIdxIfInBounds k=(J.eraseIdx k).toArray;rw[NL]
 ·have:=wG xs k
  lia

def rCat  : R2:=λx y H Q=>∃l b F z,x=.ref l/\y=.ref b/\H l=ca (.lst F)/\H b=ca (.lst z)/\F.length+z.length<=Wa/\∀p,H p=la->Q (.ref p) (upd H p (.lst (F++z)))
def RO  : ic X (Se .Add) rCat:=by
 intro L s σ H x y v u Q I rx ry h;obtain⟨l,b,xs,zs,rfl,rfl,O,hB,hz,q⟩:=h;cases rx;cases ry;obtain⟨z,J,n,r,hl,e⟩:=I.lstM O;obtain⟨z2,F,n2,r2,Z,Y⟩:=I.lstM hB;refine PySem.P.add_list e Y ?_ (by rw[ud,ud];lia)
 have R:J.toArray++F.toArray=(J++F).toArray:=by simp
 rw[R];exact⟨.ref _,_,I.lnew (t':=s.toks) (r.append r2) (by rw[Ke];lia),rfl,q _ I.fresh⟩
def rRep  : R2:=λx y H Q=>∃l k z,x=.ref l/\y=.int k/\H l=ca (.lst z)/\-(2 ^ 63)<=k/\k<2 ^ 63/\z.length*k.toNat<=Wa/\
 ∀p,H p=la->Q (.ref p) (upd H p (.lst (Ab k.toNat z).flatten))
def Wy  {z:Type}(xs:List z) k:(Ab k xs).flatten.length=k*xs.length:=by
 induction k with
 |zero=>simp
 |succ k y=>rw[ck,Wp,Ke,y,Nat.succ_mul,Nat.add_comm]
def cP  : ic X (Se .Mult) rRep:=by
 intro xa s σ H x y v u Q I rx ry h;obtain⟨l,k,xs,rfl,rfl,hH,h1,h2,hz,q⟩:=h;cases rx;obtain⟨t,rfl⟩:=ry;obtain⟨z,J,n,r,hl,e⟩:=I.lstM hH;have Y:J.toArray.size*k.toNat<=Wa:=by rw[ud,<- hl];exact hz
 have O:¬J.toArray.size*k.toNat>(2 ^ 63-1)/8:=by
  have:(Wa:Nat)<=(2 ^ 63-1)/8:=by decide
  lia
 have Z:¬(!Builtin.List.listFitsIndex k)=da:=by
  rw[fitsIndex_both h1 h2];exact Dd
 have L:¬Nx (J.toArray.size*k.toNat)=da:=by
  rw[eG Y];exact Dd
 have R:Ts (λx1 x2=>x1++x2) #[] (Ab (if J.toArray.isEmpty=da then 0 else k.toNat) J.toArray)=(Ab k.toNat J).flatten.toArray:=by
  have f0:∀m:Nat,Ts (λx1 x2=>x1++x2) #[] (Ab m J.toArray)=(Ab m J).flatten.toArray:=λm=>by
   have:=Gz J m [];rw[Dl]at this;exact this
  rw[f0];cases J with
  |nil=>simp
  |cons a r'=>rw[if_neg (by simp)]
 refine DL (T := "list") (U := "int") (by decide) ⟨_,e,rfl⟩ (λs'=>Ls s' k t) noFill_list_mul F.fills_int_mul Nw repeat_list F.slot_int_index.lookup
  (Ah Nw (Ls s k t) F.entry_int_rmul (F.args_int_rmul_2 _ _) (int___rmul___int_list k t l J.toArray n)
   ⟨e,rfl,⟨_,e,rfl⟩,Ah F.slot_list_mul ⟨_,e,rfl⟩ F.entry_list_mul (F.args_list_mul_2 _ _) (AutoListH.list___mul___list_int_3 l J.toArray n k t Z O L) ⟨e,?_⟩⟩)
 rw[R];exact⟨.ref _,_,I.lnew (t':=s.toks) (r.rep k.toNat) (by rw[Wy,ax];exact hz),rfl,q _ I.fresh⟩






section
variable {κ:Type}[DecidableEq κ]
noncomputable def valV (kvs:List (κ×V))(k:κ):Option V:=(kvs.find? λy=>decide (y.1=k)).map (·.2)
noncomputable def putK (kvs:List (κ×V))(k:κ)(v:V):List (κ×V):=
 if (kvs.any λy=>decide (y.1=k))=da then kvs.map (λy=>if y.1=k then (y.1,v) else y) else kvs++[(k,v)]
def Sv    {k:κ}(e:p.1=k):valV (p::r) k=ca p.2:=by simp[valV,Mi,e]
def Rv    {k:κ}(e:¬p.1=k):valV (p::r) k=valV r k:=by simp[valV,Mi,e]
theorem XF  (k:κ):∀kvs ,(kvs.any λy=>decide (y.1=k))=(valV kvs k).isSome
 |[]=>rfl
 |p::r=>by
  rw[tj];by_cases e:p.1=k
  ·simp only[Sv e,decide_eq_true e,Bool.true_or,Option.isSome_some]
  ·rw[Rv e,decide_eq_false e,GB];exact XF k r
def nA  (kvs:List (κ×V)) k v:(putK kvs k v).length<=kvs.length+1:=by
 unfold putK;split
 ·rw[Bc];lia
 ·rw[Ke,pj,Mn];lia
def RelO.isSome_eq    (r:RelO o u):o.isSome=u.isSome:=by
 cases o with
 |none=>cases u with
  |none=>rfl
  |some _=>exact(show False from r).elim
 |some _=>cases u with
  |none=>exact(show False from r).elim
  |some _=>rfl
theorem RelO.getD      (r:RelO o u)(rd:RelV d d'):RelV (o.getD d) (u.getD d'):=by
 cases o with
 |none=>cases u with
  |none=>exact rd
  |some _=>exact(show False from r).elim
 |some _=>cases u with
  |none=>exact(show False from r).elim
  |some _=>exact r

def KV.val    (r:KV kvs vs)(k:κ):RelO (valV kvs k) (Pf vs k):=by
 unfold KV at r
 induction r with
 |nil=>exact Ph
 |@cons p q R I h t O=>
  obtain⟨J,L⟩:=h;by_cases e:p.1=k
  ·have F:q.1=k:=J.symm.trans e;have b:Pf (q::I) k=ca q.2:=by simp[Pf,Mi,F]
   rw[Sv e,b];exact L
  ·have F:¬q.1=k:=λz=>e (J.trans z);have b:Pf (q::I) k=Pf I k:=by simp[Pf,Mi,F]
   rw[Rv e,b];exact O
theorem KV.any    (r:KV kvs vs)(k:κ):(kvs.any λz=>decide (z.1=k))=vs.any λz=>decide (z.1=k):=by
 unfold KV at r
 induction r with
 |nil=>rfl
 |cons h t F=>rw[tj,tj,F,h.1]
def KV.repl    (r:KV kvs vs)(k:κ)(O:RelV y u) :
  KV (kvs.map λF=>if F.1=k then (F.1,y) else F) (vs.map λF=>if F.1=k then (F.1,u) else F):=by
 unfold KV at r ⊢
 induction r with
 |nil=>exact .nil
 |@cons p q R Y h t L=>
  rw[af,af];refine .cons ?_ L;obtain⟨I,J⟩:=h;by_cases e:p.1=k
  ·rw[if_pos e,if_pos (I.symm.trans e)];exact⟨I,O⟩
  ·rw[if_neg e,if_neg (λz=>e (I.trans z))];exact⟨I,J⟩
def KV.put    (r:KV kvs vs)(k:κ)(z:RelV y u):KV (putK kvs k y) (stored vs k u):=by
 unfold putK stored;rw[r.any k];by_cases e:(vs.any λF=>decide (F.1=k))=da
 ·rw[if_pos e,if_pos e];exact r.repl k z
 ·rw[if_neg e,if_neg e];exact td.snoc r ⟨rfl,z⟩
def KV.length {kvs:List (κ×V)}{vs:List (κ×Ba)}(r:KV kvs vs):kvs.length=vs.length:=Mw r
end

def Gm      (r:RelV (kV k) u):(sf P w).is k u=da:=by
 cases k with
 |inl i=>obtain⟨t,e⟩:=(show ∃t,u=Os i t from r);subst e;exact dW P w i t
 |inr x=>obtain⟨t,e⟩:=(show ∃t,u=Jw x t from r);subst e;exact eW P w x t
theorem vG    : ∀{y } {us },Vals (y.map kV) us->ItemsAre (sf P w) y us
 |[],_,r=>by rw[Uw]at r;cases r;exact .nil
 |k::y,_,r=>by
  rw[af]at r;cases r with
  |cons h t=>exact .cons (Gm h) (vG t)

abbrev KT  (H:Hp):List (List Vb×V)->List (List Vb×Aa×Ba)->Prop:=td λp q=>p.1=q.1/\H q.2.1=ca (.tup (p.1.map kV))/\RelV p.2 q.2.2
def KT.val     (r:KT H kvs xs) k:RelO (valV kvs k) ((Fh xs k).map (·.2)):=by
 induction r with
 |nil=>exact Ph
 |@cons p q R I h t O=>
  obtain⟨J,_,L⟩:=h;by_cases e:p.1=k
  ·have F:q.1=k:=J.symm.trans e;have b:Fh (q::I) k=ca q.2:=by simp[Fh,Mi,F]
   rw[Sv e,b];exact L
  ·have F:¬q.1=k:=λz=>e (J.trans z);have b:Fh (q::I) k=Fh I k:=by simp[Fh,Mi,F]
   rw[Rv e,b];exact O
def KT.repl     (r:KT H kvs xs) k (R:RelV y u) :
  KT H (kvs.map λI=>if I.1=k then (I.1,y) else I) (xs.map (putAt k u)):=by
 induction r with
 |nil=>exact .nil
 |@cons p q Y Z h t O=>
  rw[af,af];refine .cons ?_ O;obtain⟨F,J,L⟩:=h;unfold putAt;by_cases e:p.1=k
  ·rw[if_pos e,if_pos (F.symm.trans e)];exact⟨F,J,R⟩
  ·rw[if_neg e,if_neg (λz=>e (F.trans z))];exact⟨F,J,L⟩
def KT.put     (r:KT H kvs xs)(k:List Vb)(I:H b=ca (.tup (k.map kV)))(z:RelV y u) :
  KT H (putK kvs k y) (storedH xs k b u):=by
 have e:(kvs.any λF=>decide (F.1=k))=(Fh xs k).isSome:=by
  rw[XF,(r.val k).isSome_eq,nC]
 unfold putK storedH;rw[e];by_cases q:(Fh xs k).isSome=da
 ·rw[if_pos q,if_pos q];exact r.repl k z
 ·rw[if_neg q,if_neg q];exact td.snoc r ⟨rfl,I,z⟩
def KT.keeps     (r:KT H kvs xs)(I:∀b F,H b=ca (.tup F)->H' b=ca (.tup F)):KT H' kvs xs:=
 Paired.mapP r λ_ _ z=>⟨z.1,I _ _ z.2.1,z.2.2⟩


def JD   (ok:Md P w H h)(e:Rd H a u):Sd P w H h a u:=e.ok ok
def Em   (ok:Md P w H h)(e:Rd H a (.dK kvs)):kvs.length<=Wa/\(a==Of)=ia/\∃vs,KV kvs vs/\h.DictOf (sf P w) a vs:=
 show Sd P w H h a (.dK kvs)from JD ok e
def Qu   (ok:Md P w H h)(e:H a=ca (.dK kvs)):kvs.length<=Wa/\(a==Of)=ia/\∃vs,KV kvs vs/\h.DictOf (sf P w) a vs:=Em ok (.inl e)
def Uo   (ok:Md P w H h)(e:H a=ca (.tup (z.map kV))):(Kp (sf P w)).is h z a:=by
 obtain⟨_,y,r,o,J,I,n,F,_⟩:=(show Sd P w H h a (.tup (z.map kV))from ok a _ e);exact⟨o,y.toArray,n,J,I,F,by simpa using vG r⟩
def So   (ok:Md P w H h)(e:Rd H a (.dT kvs)):kvs.length<=Wa/\(a==Of)=ia/\
  ∃xs,KT H kvs xs/\h.DictOfH (Kp (sf P w)) a xs:=by
 obtain⟨z,y,xs,r,o,es,Y,R,O,L,h4,J⟩:=(show Sd P w H h a (.dT kvs)from JD ok e);refine⟨z,y,xs,r,o,es,Y,R,O,L,h4,λx F=>?_,J⟩;have all:∀{l:List (List Vb×V)} {m:List (List Vb×Aa×Ba)},KT H l m->∀x∈m,(Kp (sf P w)).is h x.1 x.2.1:=by
  intro l m q
  induction q with
  |nil=>intro x F;exact nomatch F
  |@cons p q ps qs I t Z=>
   intro x F;rcases Oc.mp F with e|F
   ·subst e;exact Uo ok (by rw[<- I.1];exact I.2.1)
   ·exact Z x F
 exact all r x F
def IM   (ok:Md P w H h)(e:H a=ca (.dT kvs)):kvs.length<=Wa/\(a==Of)=ia/\
  ∃xs,KT H kvs xs/\h.DictOfH (Kp (sf P w)) a xs:=So ok (.inl e)

def DGet  (H:Hp)(a:Aa)(y:V)(r:Option V):Prop:=
 (∃z k,Rd H a (.dK z)/\y=kV k/\r=valV z k)\/∃z k b,Rd H a (.dT z)/\y=.ref b/\H b=ca (.tup (k.map kV))/\r=valV z k
def DPut  (H:Hp)(a:Aa)(y v:V)(H':Hp):Prop:=
 (∃z k,H a=ca (.dK z)/\y=kV k/\z.length<Wa/\H'=upd H a (.dK (putK z k v)))\/
 ∃z k b,H a=ca (.dT z)/\y=.ref b/\H b=ca (.tup (k.map kV))/\z.length<Wa/\H'=upd H a (.dT (putK z k v))
def DGet.k     {k:Vb}(e:H a=ca (.dK kvs)):DGet H a (kV k) (valV kvs k):=.inl ⟨kvs,k,.inl e,rfl,rfl⟩
def DGet.t     {k:List Vb}(e:H a=ca (.dT kvs))(z:H b=ca (.tup (k.map kV))):DGet H a (.ref b) (valV kvs k):=.inr ⟨kvs,k,b,.inl e,rfl,z,rfl⟩
def DPut.k     {k:Vb}(e:H a=ca (.dK kvs))(z:kvs.length<Wa):DPut H a (kV k) v (upd H a (.dK (putK kvs k v))):=.inl ⟨kvs,k,e,rfl,z,rfl⟩
def DPut.t     {k:List Vb}(e:H a=ca (.dT kvs))(z:H b=ca (.tup (k.map kV)))(F:kvs.length<Wa) :
  DPut H a (.ref b) v (upd H a (.dT (putK kvs k v))):=.inr ⟨kvs,k,b,e,rfl,z,F,rfl⟩


def La.big  {z: St}(I:La X pins z H s):Of<s.heap.objs.size:=by
 have h:Ud<s.heap.objs.size:=(I.mod.glob.keeps I.bk).lt;exact iB (by decide) h

def JT  {σ: St}(hu:A.units+1<Pb)(I:La X pins σ H s)(g:DGet H a y (ca v))(ry:RelV y u)(h:∀L s',La X pins σ H s'->RelV v L->Q L s') :
  wpAny (Fa X.prog X.w) A (Vc (.ref a) u) Q E s:=by
 rcases g with⟨Z,k,e,ey,l⟩|⟨Z,k,b,e,ey,eb,l⟩
 ·subst ey;obtain⟨z,hd,vs,J,O⟩:=Em I.hok e;obtain⟨L,R,F⟩:=RelO.some_of (v:=v) (o:=Pf vs k) (by rw[l];exact J.val k)
  exact wpAny_getItem_of (Gm ry) O.mapOf R (h L _ (I.tok _) F)
 ·subst ey;cases(show u=Ae b from ry);obtain⟨z,hd,xs,J,O⟩:=So I.hok e;obtain⟨L,R,F⟩:=RelO.some_of (v:=v) (o:=(Fh xs k).map (·.2)) (by rw[l];exact J.val k)
  obtain⟨p,hp,Y⟩:=Option.map_eq_some_iff.mp R;refine wpAny_getItem_heap (Us hu) (Uo I.hok eb) O hp ?_;rw[Y];exact h L _ (I.tok _) F
def d_in  {R: St}(hu:A.units+1<Pb)(I:La X pins R H s)(g:DGet H a y o)(Y:RelV y u)(h:∀s',La X pins R H s'->Q (.bool o.isSome) s') :
  wpAny (Fa X.prog X.w) A (Ed .In u (.ref a)) Q E s:=by
 rcases g with⟨L,k,e,O,l⟩|⟨L,k,b,e,O,eb,l⟩
 ·subst O;obtain⟨z,hd,vs,F,J⟩:=Em I.hok e;refine wpAny_in_of (Gm Y) hd J.mapOf ?_;rw[<- (F.val k).isSome_eq,<- l];exact h _ (I.tok _)
 ·subst O;cases(show u=Ae b from Y);obtain⟨z,hd,Z,F,J⟩:=So I.hok e;refine wpAny_in_heap (Us hu) (Uo I.hok eb) hd J ?_;have q:=(F.val k).isSome_eq;rw[nC]at q;rw[<- q,<- l];exact h _ (I.tok _)
def mR  {R: St}(hu:A.units+1<Pb)(I:La X pins R H s)(g:DGet H a y o)(Y:RelV y u)(h:∀s',La X pins R H s'->Q (.bool (!o.isSome)) s') :
  wpAny (Fa X.prog X.w) A (Ed .NotIn u (.ref a)) Q E s:=by
 rcases g with⟨L,k,e,O,l⟩|⟨L,k,b,e,O,eb,l⟩
 ·subst O;obtain⟨z,hd,vs,F,J⟩:=Em I.hok e;refine wpAny_notIn_of (Gm Y) hd J.mapOf ?_;rw[<- (F.val k).isSome_eq,<- l];exact h _ (I.tok _)
 ·subst O;cases(show u=Ae b from Y);obtain⟨z,hd,Z,F,J⟩:=So I.hok e;refine wpAny_notIn_heap (Us hu) (Uo I.hok eb) hd J ?_;have q:=(F.val k).isSome_eq;rw[nC]at q;rw[<- q,<- l];exact h _ (I.tok _)
def Dv  {F: St}(I:La X pins F H s)(O:Dt (H a))(hs:Tw a s.heap h')(L:∃q,h'.get? a=ca q)(new:Sd X.prog X.w (upd H a y) h' a y) :
  La X pins F (upd H a y) { s with heap:=h',toks:=t' }:=
 I.write (x:=a) (e:=a) O (.inl rfl) (λb q J z=>(hs.2 b J).trans z) L new
def Ay        (z:kvs.length<=Wa)(hd:(a==Of)=ia)(y:KV kvs vs)(F:h'.DictOf (sf P w) a vs) :
  Sd P w H' h' a (.dK kvs):=⟨z,hd,vs,y,F⟩
def MT  {σ: St}(hu:A.units+1<Pb)(I:La X pins σ H s)(g:DPut H a y v H')(ry:RelV y u)(rv:RelV v r)(h:∀s',La X pins σ H' s'->Q () s') :
  wpAny (Fa X.prog X.w) A (Ve (.ref a) u r) Q E s:=by
 rcases g with⟨J,k,e,ey,l,eH⟩|⟨J,k,b,e,ey,eb,l,eH⟩
 ·subst ey eH;obtain⟨z,hd,vs,F,Y⟩:=Qu I.hok e;have Z:vs.length<=Wa:=by rw[<- F.length];exact z
  have hl:(putK J k v).length<=Wa:=by have:=nA J k v;lia
  refine wpAny_setItem_pairs (hsz:=Z) (Gm ry) Y λh' L R=>h _ ?_;have he:∃q,h'.get? a=ca q:=let ⟨q,_,_,O,_⟩:=L;⟨q,O⟩
  exact Dv I (by rw[e];exact Ph) R he (Ay hl hd (F.put k rv) L)
 ·subst ey eH;cases(show u=Ae b from ry);obtain⟨z,hd,xs,F,Y⟩:=IM I.hok e;have Z:xs.length<=Wa:=by rw[<- Mw F];exact z
  have hl:(putK J k v).length<=Wa:=by have:=nA J k v;lia
  refine wpAny_setItem_heap (hsz:=Z) (Us hu) (Uo I.hok eb) Y λh' L R=>h _ ?_;obtain⟨q,es,ep,O,h2,h3,h4,_,h5⟩:=L;refine Dv I (by rw[e];exact Ph) R ⟨q,O⟩ ⟨hl,hd,_,(F.put k eb rv).keeps λc ys ec=>?_,q,es,ep,O,h2,h3,h4,h5⟩
  rw[Ac (XM ec e (λz=>nomatch z))];exact ec


def FM  {F: St}(I:La X pins F H s)(e:Rd H a (.dK kvs))(h:∀t s',La X pins F H s'->Q (.int kvs.length t) s'):wpAny (Fa X.prog X.w) A (call (.builtin "len") [.ref a]) Q E s:=by
 obtain⟨z,hd,L,y,J⟩:=Em I.hok e;refine call_len_dict hd J (by rw[<- y.length];rw[Pi]at z;lia) ?_
 rw[<- y.length];exact h _ _ (I.tok _)

def YV    {J:St}(I:La X pins J H s)(g:DGet H a y o):s.TypeIs (.ref a) "dict" := by
 rcases g with⟨F,k,e,_,_⟩|⟨F,k,b,e,_,_,_⟩
 ·obtain⟨_,_,O,_,z⟩:=Em I.hok e;exact z.typeIs
 ·obtain⟨_,_,L,_,z⟩:=So I.hok e;exact z.typeIs


def EF     (h:Va)(y:Of<h.objs.size):Sd P w H (h.push { cls:=.type "dict",data:=.dict #[] }) h.objs.size (.dK []):=
 ⟨Me _,beq_eq_false_iff_ne.mpr (Ua (dg y)),[],.nil,Va.DictOf.new h⟩
def PP  : TE:=λ_ H Q=>∀p,H p=la->Q (.ref p) (upd H p (.dK []))

def vU  : PE X (.Dict [] [] pos) PP:=λy s z H Q I h=>
 wpAny_Dict_empty ⟨.ref s.heap.objs.size,_,I.laid (a:=s.heap.objs.size) (o:=.dK []) (t':=s.toks) (λ_ _ q=>Uc _ q) (ub _) (EF s.heap I.big),rfl,h _ (I.hok.fresh (ub _))⟩

def qv  : List (TE×TE)->St->Hp->(List (V×V)->Hp->Prop)->Prop
 |[],_,H,Q=>Q [] H
 |(tk,tv)::r,σ,H,Q=>tk σ H λx F=>tv σ F λy I=>qv r σ I λJ z=>Q ((x,y)::J) z
abbrev VV  : List (V×V)->List (Ba×Ba)->Prop:=td λp q=>RelV p.1 q.1/\RelV p.2 q.2
def Sn  (X:Cx)(pos:Pos)(F:List (Option Ia))(y:List Ia)(I:List (TE×TE)):Prop:=
 ∀(z:List (Aa×Obj)) (s:Da) (σ:St) (H:Hp) (Q:List (V×V)->Hp->Prop),La X z σ H s->qv I σ H Q->
  wpAny (Fa X.prog X.w) X.A (evalPairs (pairTrees F y X.env pos)) (λO R=>∃J L,La X z σ L R/\VV J O/\Q J L) X.xe s
def nS    : Sn X pos [] [] []:=λy s z H Q I h=>pairTrees_nil_walk ⟨[],H,I,.nil,h⟩
def BU         (hk:PE X k tk)(hv:PE X v tv)(hr:Sn X pos Z vs J) :
  Sn X pos (ca k::Z) (v::vs) ((tk,tv)::J):=λz s L H Q I h=>
 pairTrees_cons_walk (Db (hk z s L H _ I h) λu s1 ⟨x,H1,I1,R,q1⟩=>Db (hv z s1 L H1 _ I1 q1) λw2 s2 ⟨y,H2,I2,ry,q2⟩=>
  Db (hr z s2 L H2 _ I2 q2) λws s3 ⟨ps,O,Y,F,q3⟩=>⟨(x,y)::ps,O,Y,.cons ⟨R,ry⟩ F,q3⟩)

def Oj  (kvs y:List (Vb×V)):List (Vb×V):=y.foldl (λz F=>putK z F.1 F.2) kvs
def KV.merge  : ∀{z } {F } {kvs } {vs },KV z F->KV kvs vs->KV (Oj kvs z) (merged vs F):=by
 intro z F kvs vs r;unfold KV at r
 induction r generalizing kvs vs with
 |nil=>intro q;exact q
 |@cons p q L O h t J=>
  intro I;have e:KV (putK kvs p.1 p.2) (stored vs q.1 q.2):=by
   have:=I.put p.1 h.2;rw[<- h.1];exact this
  exact J e
theorem vA  : ∀(y kvs:List (Vb×V)),(Oj kvs y).length<=kvs.length+y.length
 |[],kvs=>by show kvs.length<=kvs.length+0;lia
 |p::r,kvs=>by
  have F:=vA r (putK kvs p.1 p.2);have z:=nA kvs p.1 p.2;show(Oj (putK kvs p.1 p.2) r).length<=_;rw[pj];lia
theorem WG    : ∀{kvs } {ws },VV (kvs.map λz=>(kV z.1,z.2)) ws->∃y,Carries (sf P w) ws y/\KV kvs y
 |[],_,r=>by rw[Uw]at r;cases r;exact⟨[],Ph,.nil⟩
 |p::kvs,_,r=>by
  rw[af]at r;cases r with
  |@cons a b J bs h t=>
   obtain⟨y,c,q⟩:=WG (P:=P) (w:=w) t;obtain⟨I,F⟩:=b;exact⟨(p.1,F)::y,⟨Gm h.1,rfl,c⟩,.cons ⟨rfl,h.2⟩ q⟩
def TN  (z:List (TE×TE)):TE:=λL H Q=>∀p,H p=la->qv z L (upd H p (.dK [])) λJ I=>I p=ca (.dK [])/\∃y:List (Vb×V),J=y.map (λF=>(kV F.1,F.2))/\y.length<=15/\Q (.ref p) (upd I p (.dK (Oj [] y)))
def QS       (h:Sn X pos y F Z)(R:y.all (·.isSome)=da)(hl:y.length=F.length)(h0:y≠[])
  (xa:y.length<=15):PE X (.Dict y F pos) (TN Z):=by
 intro O s σ H Q I q;have hn:=I.hok.fresh (ub s.heap.objs.size);have I1:=I.laid (a:=s.heap.objs.size) (o:=.dK []) (h':=s.heap.push { cls:=.type "dict",data:=.dict #[] }) (t':=s.toks) (λ_ _ q=>Uc _ q) (ub _) (EF s.heap I.big);refine wpAny_Dict_walk (knd:=sf X.prog X.w) R hl h0 xa (Db (h O _ σ _ _ I1 (q _ hn)) λws s2 ⟨ps,H2,I2,Y,e,J,ep,lk,q2⟩=>?_);subst ep;obtain⟨rs,c,rk⟩:=WG (P:=X.prog) (w:=X.w) Y;obtain⟨z,hd,za,r0,dd⟩:=Qu I2.hok e;cases r0;refine⟨rs,c,dd,λh' L hs=>⟨.ref s.heap.objs.size,_,?_,rfl,q2⟩⟩;have hz:(Oj [] J).length<=Wa:=by
  have h1:=vA J [];rw[Mn]at h1;rw[Pi];lia
 have he:∃q,h'.get? s.heap.objs.size=ca q:=let ⟨q,_,_,hq,_⟩:=L;⟨q,hq⟩
 exact Dv I2 (by rw[e];exact Ph) hs he (Ay hz hd (rk.merge .nil) L)

structure M1 (X:Cx)(o:Ia)(m:Str)(apos:Pos)(e:Ia)(cpos:Pos):Prop where
 base:jn o m X.env (lb o X.env)=lb o X.env
 few:((Tb cpos (uc [e] X.env)).all (λx=>!x.1)&&(backToKw cpos (keywordEach [] X.env)).all (λx=>x.1.isSome)
  && decide (([e]:List Ia).length+([]:List Ot).length+(if ([]:List Ot).isEmpty then 0 else 1)<30))=da
 line:(apos.endLine==cpos.line)=da
 trees:Tb cpos (uc [e] X.env)=[(ia,lb e X.env)]

def CP  {Y: St}(hu:A.units+1<Pb)(I:La X pins Y H s)(g:DGet H a y o)(Z:RelV y u)(rd:RelV d r)(h:∀R s',La X pins Y H s'->RelV (o.getD d) R->Q R s') :
  wpAny (Fa X.prog X.w) A (call (.builtin "dict.get") [.ref a,u,r]) Q E s:=by
 rcases g with⟨L,k,e,O,l⟩|⟨L,k,b,e,O,eb,l⟩
 ·subst O;obtain⟨z,hd,vs,F,J⟩:=Em I.hok e;refine oB jx J.typeIs jL (lL _ _ _) (meets_dict_get_default (sf X.prog X.w) a (Gm Z) hd r) ⟨_,J.mapOf,h _ _ (I.tok _) ?_⟩;rw[l];exact(F.val k).getD rd
 ·subst O;cases(show u=Ae b from Z);obtain⟨z,hd,xs,F,J⟩:=So I.hok e;refine oB jx J.typeIs jL (lL _ _ _) (meetsH_dict_get_default (Kp (sf X.prog X.w)) a b hd r) ⟨Us hu,k,xs,Uo I.hok eb,J,h _ _ (I.tok _) ?_⟩;rw[l];exact(F.val k).getD rd






end L2

namespace Att
open PySem PySem.W PySem.Calls PyProof.Rows

def LW    : ∀(ns:List Int) vs ,WellAll P h vs (ns.map WData.int)->Ej vs ns:=by
 intro ns
 induction ns with
 |nil=>
  intro vs w;rw[Uw]at w;cases w;exact .nil
 |cons n ns y=>
  intro vs w;rw[af]at w;cases w with
  |cons a b=>
   cases a;exact .cons _ _ (y _ b)

def FU  {l:Cj}(hn:l.most=ca n) 
  (y:l.row.toRowW.claim.pre args=da) (O:WellAll P h I args) :
  ∃a vs ns,I=[Ae a]/\args=[WData.list (ns.map WData.int)]/\h.get? a=ca { cls:=.type "list",data:=.seq vs.toArray }/\Ej vs ns/\ns.length<=n:=by
 have R:kq.hasAll [] args [.list .int]=da:=(pre_splitW y).1;have Y:l.pre.holds [] { args:=args }=da:=(pre_splitW y).2;obtain⟨d,r,rfl,h1,h2⟩:=hasAllW_cons R;obtain rfl:=hasAllW_nil h2;obtain⟨xs,rfl,h3⟩:=hasW_list h1;obtain⟨ns,rfl⟩:=items_int h3;have F:ns.length<=n:=by
  unfold Cj.pre at Y;have L:(WTm.not (.lt (.lit (.int (n:Int))) (.len (.arg 0)))).holds [] { args:=[.list (ns.map .int)] }=da:=by
   have L:=(holds_andW Y).1;rw[hn]at L;exact L
  have J:=condW_of L (w_not (w_lt w_lit (w_len_list (w_arg rfl))));rw[Bc]at J;refine Nat.le_of_not_lt λq=>?_;have Z:(n:Int)<((ns.length:Nat):Int):=by lia
  first
   |(rw[decide_eq_true Z]at J;exact absurd J (by decide))
   |(simp at J;lia)
 cases O with
 |cons w1 w2=>
  cases w2;cases w1 with
  |list ho z=>exact⟨_,_,ns,rfl,rfl,ho,LW ns _ z,F⟩

def cV  (l:Cj) args:l.row.toRowW.claim.post args (.bool da) args=da:=
 postW_of (r:=l.row.toRowW) (X:=(da==da))
  (show kq.has [] (.bool da) .bool=da by first|rfl|decide|simp[kq.has,kq.arms,kq.armsAll])
  (show(WTm.eq .res (.lit (.bool da))).value [] { args:=args,res:=ca (.bool da),after:=args }=ca (.bool (da==da))from w_eq_bool (w_res rfl) w_lit) rfl

def attach_call  {l:Cj} 
  (hn:l.most=ca n) (za:d.params.defaults=[])
  (call:∀(w:ib) (s₀ y:Da) mg mb I (o:Obj) Z cd F a (vs:List Ba) (ns:List Int),
   Ground q loose [] XP w s₀ mg mb y.heap->YP w y.heap->
   y.heap.get? I=ca o->o.data=.func (docDef d.name d.params d.body d.scope Z cd F)->y.heap.CodeRec cd d.name->mg d.name=ca (.ref I)->
   y.heap.get? a=ca { cls:=.type "list",data:=.seq vs.toArray }->Ej vs ns->ns.length<=n->y.gens=#[]->
   codeAny (Fa l.prog w) fh (.call (.ref I) ⟨[.ref a],[]⟩) (λr s'=>r=.ok (.ret (.bool da))/\OldK y.heap s'.heap/\s'.os=y.os/\re s'.gens) y) :
  WalkO q loose XP YP l.row.toRowW d [] (λf vs=>lB f vs):=by
 intro w s₀ y mg mb G Y I o Z cd F dV kV ho hd R hD xa hg va ka as L ya zb ja xb;obtain rfl:dV=.none:=Dflts.none hD za;obtain rfl:kV=.none:=Dflts.noKw hD;obtain⟨a,vs,ns,rfl,rfl,O,z,J⟩:=FU hn L ja;refine enter_call (Qp (call w s₀ y mg mb I o Z cd F a vs ns G Y ho (fd_plain hd) R xa O z J hg) λr s' hq=>?_);obtain⟨rfl,h2,h3,h4⟩:=hq;exact⟨.inl ⟨.bool da,.bool da,[],rfl,λ_=>rfl,.bool da,cV l _,λ_=>⟨kL,λ_ hm=>(nomatch hm)⟩⟩,h2,h3,h4⟩


end Att

namespace L2
open PySem PySem.Spec PyProof.Rows

theorem jG  : ∀{vs } {ns },Ej vs ns->Vals (ns.map V.int) vs
 |_,_,.nil=>.nil
 |_,_,.cons n t h=>.cons ⟨t,rfl⟩ (jG h)



noncomputable def Ug  (s:Pa)(j:Nat):Pa:=match s with
 |.ClassDef _ _ _ y _ _ _ _ _ _ _=>y.getD j (.Pass ⟨0,0,0,0⟩)
 |_=>.Pass ⟨0,0,0,0⟩
def og  (s:Pa):ww:=match s with
 |.FunctionDef _ a _ _ _ _ _ _ _ _=>a
 |_=>{ posonlyargs:=[],args:=[],vararg:=la,kwonlyargs:=[],kw_defaults:=[],kwarg:=la,defaults:=[] }
def Yc  (s:Pa):List Pa:=match s with
 |.FunctionDef _ _ b _ _ _ _ _ _ _=>b
 |_=>[]
def Xb  (s:Pa):Cc:=match s with
 |.FunctionDef _ _ _ _ _ _ y _ _ _=>y
 |_=>{ kind:=.function,names:=[],isGenerator:=ia,isCoroutine:=ia }

abbrev E0  : XK:=λ_ _ _=>False
structure Fun (K:Hb)(x qual:Str)(st:Pa)(f:Aa)(fd:Bp):Prop where
 ex:∃(oc:Ba) (od:Option Aa) (kV doc pm:Ba) (an:Option Aa) (cdv ct:Ba) (osl:Array (Option Ba)),
  fd=ah x qual (og st) (Yc st) (Xb st) .none kV doc pm an cdv ct/\K.lookup f=ca ⟨oc,od,.func fd,osl⟩/\Zj K cdv qual=da
 kp:oj K (.ref f)=da

def Fun.binds  {K: Hb}{st:Pa}(F:Fun K x qual st f fd)
  (h:∀kV I L J z ct (us:List Ba),us.length=ps.length->Gs (ah x qual (og st) (Yc st) (Xb st) .none kV I L J z ct) ⟨us,[]⟩=pure (ps.zip us)):Binds K fd ps []:=by
 obtain⟨oc,Z,kV,I,L,J,z,ct,O,rfl,Y,R⟩:=F.ex;exact .all (h kV I L J z ct)
def Ey  {K: Hb}{st:Pa}{kV z I y ct:Ba}(l:K.lookup f=ca ⟨L,od,.func (ah x qual (og st) (Yc st) (Xb st) .none kV z I J y ct),F⟩)
  (c:Zj K y qual=da) (k:oj K (.ref f)=da):Fun K x qual st f (ah x qual (og st) (Yc st) (Xb st) .none kV z I J y ct):=⟨⟨L,od,kV,z,I,J,y,ct,F,rfl,l,c⟩,k⟩
def OM    (hr:Room k A):A.units+1<Pb:=Yg (Dx (by decide:1<=64) _) hr.units


def iteF  {A B:Prop}(h:B):if ia=da then A else B:=by
 rw[if_neg Dd];exact h
def iteT  {A B:Prop}(h:A):if da=da then A else B:=by
 rw[if_pos rfl];exact h

def sU  : rf X (.builtin "len") (λxs H Q=>∃a kvs,xs=[V.ref a]/\H a=ca (.dK kvs)/\Q (.int kvs.length) H):=by
 intro y s O H xs L Q I r h;obtain⟨a,kvs,rfl,z,q⟩:=h;obtain⟨u,rfl,F⟩:=gj r;cases F;exact FM I (.inl z) λt R J=>⟨.int kvs.length,H,J,⟨t,rfl⟩,q⟩
section
variable {κ:Type}[DecidableEq κ]
end
end L2

namespace L2
open PySem PySem.Spec PyProof.Rows


noncomputable def Yy  (env:Env)(ifs:List Ia):Sem Bool:=forIn ifs da λc r=>ite (r=da) (ce c env (lb c env) >>= λb=>pure (.yield b)) (pure (.yield r))
def Sr  (z:Pos)(y:Ia)(ifs:List Ia)(it:Ba)(env:Env)(em:Sem Unit)(next:Fj):Sem Fin:=
 be z >>= λ_=>pyNext it >>= λr=>match r with
  |none=>pure (.done .next)
  |some v=>Zs y it v >>= λ_=>Ec y env v >>= λ_=>Yy env ifs >>= λok=>ite (ok=da) (em >>= λ_=>again next) (again next)
def UR  (M:Mt)(A:Kb)(F:Ia)(ifs:List Ia)(it:Ba)(env:Env)(em:Sem Unit)(z:Da->Prop)(y:Da->Prop):Option Ba->Da->Prop
 |none,s=>z s
 |some v,s=>wpAny M A (Zs F it v) (λ_ s=>wpAny M A (Ec F env v) (λ_ s=>wpAny M A (Yy env ifs) (λok s=>if ok=da then wpAny M A em (λ_ s=>y s) (λ_ _=>False) s else y s) (λ_ _=>False) s) (λ_ _=>False) s) (λ_ _=>False) s
def tW             (I : Nat -> Da -> Prop)
    (F : Dp (.ListComp elt gens scope pos) J it acc env = Sr L y ifs it env em (.compLoop (.ListComp elt gens scope pos) J it acc env))
    (z : ∀ k t, I k t -> wpAny (Fa prog w) A (pyNext it) (UR (Fa prog w) A y ifs it env em (R (.ok .next)) λt => ∃ m, m < k /\ I m t) (λ_ _ => False) t)
     n (h : I n s) : codeAny (Fa prog w) A (.compLoop (.ListComp elt gens scope pos) J it acc env) R s := by
  have no : ∀ {Z : Ba -> Da -> Prop} (e : Ba) (t : Da), False -> Z e t := λ_ _ f => f.elim
  refine codeAny_loop rfl I (λk t hk => wpAny_noted (m := Dp (.ListComp elt gens scope pos) J it acc env) (F ▸ ?_)) n h
  refine db (ml (db (Pe (z k t hk) (λr t1 p => ?_) no)))
  match r, p with
  | none, p => exact Zb p
  | some v, p =>
    refine db (Pe p (λ_ t2 p => db (Pe p (λ_ t3 p => db (Pe p (λok t4 p => ?_) no)) no)) no)
    match ok, p with
    | false, p => exact Zb ⟨rfl, p⟩
    | true, p => exact db (Pe p (λ_ O p => Zb ⟨rfl, p⟩) no)

theorem iA  (env:Env):∀(names:List (Str×Kf)) acc ,(∀y∈names,y.2=.free->∃c,env.cells.lookup y.1=ca c)->
  ∃cl ,(forIn names acc (λ(y:Str×Kf) cs=>(if (y.2==Ue)=da then (do let c <- jq env y.1;pure (ForInStep.yield ((y.1,c)::cs))) else pure (ForInStep.yield cs):Sem (ForInStep (List (Str×Aa))))):Sem (List (Str×Aa)))=pure cl/\
   (∀x c,(x,c)∈cl->(x,c)∈acc\/(env.cells.lookup x=ca c/\(x,Ue)∈names))/\(∀p∈acc,p∈cl)/\(∀y∈names,y.2=.free->∃c,(y.1,c)∈cl)
 |[],acc,_=>⟨acc,rfl,λ_ _ h=>.inl h,λ_ h=>h,λ_ h=>nomatch h⟩
 |(n,k)::r,acc,h=>by
  by_cases hk:k=.free
  ·subst hk;obtain⟨c,Z⟩:=h (n,.free) Uf rfl;obtain⟨cl,e,O,I,L⟩:=iA env r ((n,c)::acc) λy F=>h y (Le _ F);refine⟨cl,?_,λx d hd=>?_,λp Y=>I p (Le _ Y),λy F J=>?_⟩
   ·rw[xB];have:(jq env n:Sem Aa)=pure c:=by unfold jq;rw[Z]
    simp_all
   ·grind
   grind
  ·obtain⟨cl,e,O,I,L⟩:=iA env r acc λy F=>h y (Le _ F);have R:(k==Ue)=ia:=by simpa using hk
   refine⟨cl,?_,λx d hd=>?_,I,λy F J=>?_⟩
   ·rw[xB];simp only[R,Yp,if_false,pure_bind];exact e
   ·rcases O x d hd with z|⟨z,z'⟩
    ·exact .inl z
    ·exact .inr ⟨z,Le _ z'⟩
   ·rcases Oc.mp F with z|z
    ·subst z;exact absurd J hk
    ·exact L y z J
theorem QH  {y:Type}:∀{l:List (Str×y)} {x } {c },(x,c)∈l->∃d,l.lookup x=ca d/\(x,d)∈l
 |(n,k)::r,x,c,h=>by
  cases F:x==n with
  |true=>
   simp_all
  |false=>
   rcases Oc.mp h with z|z
   ·lia
   ·obtain⟨d,e,m⟩:=QH z
    grind
def XG    (h:∀y∈scope.names,y.2=.free->∃c,env.cells.lookup y.1=ca c) :
  ∃cl ,xw scope env=pure cl/\(∀x c,cl.lookup x=ca c->env.cells.lookup x=ca c)/\(∀y∈scope.names,y.2=.free->∃c,cl.lookup y.1=ca c):=by
 obtain⟨cl,e,J,_,F⟩:=iA env scope.names [] h;refine⟨cl,?_,λx c I=>?_,λy R L=>?_⟩
 ·unfold xw
  simp_all
 ·rcases J x c (cg I)with z|⟨z,_⟩
  ·simp_all
  lia
 ·obtain⟨c,O⟩:=F y R L;obtain⟨d,e,_⟩:=QH O
  simp_all

noncomputable def Xd  (X:Cx)(N:List Str)(scope:Cc)(cl:List (Str×Aa))(C:Aa)(s₀:Da)(H₀:Hp)(y:List Aa):Cx where
 prog:=X.prog
 w:=X.w
 K:=X.K
 mg:=X.mg
 base:=X.base
 A:=X.A
 N:=N
 s₀:=s₀
 H₀:=H₀
 env:=compEnvC scope cl C X.env
 outer:=X.stack
 stack:=X.stack
 ex:=y
 fn:=λx=>scope.names.lookup x==ca .cell
 calm:=X.calm
 pn:=[]
 xe:=λ_ _=>False

noncomputable def eX  (F:List Str)(z:List (Str×Kf))(N:List Str)(pick:List (Option Nat))(scope:Cc):Bool:=
 decide (scope.kind=.function)&&scope.names.all (λy=>y.2 != .cell||scope.names.lookup y.1==ca .cell)&&scope.names.all (λy=>y.2 != .local||scope.names.lookup y.1==ca .local)
  && scope.names.all (λy=>y.2 != .free||(scope.names.lookup y.1==ca .free&&(z.lookup y.1==ca .cell||z.lookup y.1==ca .free)))
  && pick.length==N.length&&(N.zip pick).all (λp=>match p.2 with|none=>da|some j=>F[j]?==ca p.1&&scope.names.lookup p.1==ca .free)

structure CScope (X:Cx)(N:List Str)(pick:List (Option Nat))(scope:Cc):Prop where
 kind:scope.kind=.function
 cells:∀y∈scope.names,y.2=.cell->scope.names.lookup y.1=ca .cell
 names:∀y∈scope.names,y.2=.local->scope.names.lookup y.1=ca .local
 fre:∀y∈scope.names,y.2=.free->scope.names.lookup y.1=ca .free/\(X.env.kindOf y.1=ca .cell\/X.env.kindOf y.1=ca .free)
 len:pick.length=N.length
 caps:∀(i j:Nat) (x:Str),N[i]?=ca x->pick[i]?=ca (ca j)->X.N[j]?=ca x/\scope.names.lookup x=ca .free
theorem zH  (f:Str->Kf->Kf):∀(names:List (Str×Kf)) x ,(names.map λy=>(y.1,f y.1 y.2)).lookup x=(names.lookup x).map (f x)
 |[],_=>rfl
 |(n,k)::r,x=>by
  rw[af,oi,oi,zH f r x];by_cases e:x=n
  ·subst e;rw[beq_self_eq_true];rfl
  ·rw[beq_false_of_ne e]
noncomputable def HE  (env:Env)(n:Str)(k:Kf):Kf:=if (k==Ue&&env.scope.kind == .function&&env.kindOf n==ca .cell) then .cell else k
def UH (env:Env)(names:List (Str×Kf))(x:Str) :
  (names.map λ(n,k)=>if (k==Ue&&env.scope.kind == .function&&env.kindOf n==ca .cell) then (n,Nf) else (n,k)).lookup x=(names.lookup x).map (HE env x):=by
 rw[<- zH (HE env)];congr 2;funext y;show ite _ _ _=(y.1,ite _ _ _)
 lia
def BJ {env:Env}{names:List (Str×Kf)}{x:Str}(h:names.lookup x=ca .free) :
  (names.map λ(n,k)=>if (k==Ue&&env.scope.kind == .function&&env.kindOf n==ca .cell) then (n,Nf) else (n,k)).lookup x=ca .cell\/
  (names.map λ(n,k)=>if (k==Ue&&env.scope.kind == .function&&env.kindOf n==ca .cell) then (n,Nf) else (n,k)).lookup x=ca .free:=by
 rw[UH,h];show ca (ite _ _ _)=_\/ca (ite _ _ _)=_
 lia
def NA {env:Env}{q:Kf}(y:q≠.free){names:List (Str×Kf)}{x:Str}(h:names.lookup x=ca q) :
  (names.map λ(n,k)=>if (k==Ue&&env.scope.kind == .function&&env.kindOf n==ca .cell) then (n,Nf) else (n,k)).lookup x=ca q:=by
 rw[UH,h];show ca (ite _ _ _)=_
 lia
theorem KI {env:Env}:∀{names:List (Str×Kf)} {x:Str},
  ((names.map λ(n,k)=>if (k==Ue&&env.scope.kind == .function&&env.kindOf n==ca .cell) then (n,Nf) else (n,k)).lookup x=ca .cell\/
  (names.map λ(n,k)=>if (k==Ue&&env.scope.kind == .function&&env.kindOf n==ca .cell) then (n,Nf) else (n,k)).lookup x=ca .free)->(x,Ue)∈names\/(x,Nf)∈names
 |[],_,h=>by simp at h
 |(n,k)::r,x,h=>by
  have J:_->_:=@KI env r x;have y:mi x ((if (k==Ue&&env.scope.kind == .function&&env.kindOf n==ca .cell)=da then (n,Nf) else (n,k))::r.map λ(n,k)=>if (k==Ue&&env.scope.kind == .function&&env.kindOf n==ca .cell) then (n,Nf) else (n,k))=ca .cell\/mi x ((if (k==Ue&&env.scope.kind == .function&&env.kindOf n==ca .cell)=da then (n,Nf) else (n,k))::r.map λ(n,k)=>if (k==Ue&&env.scope.kind == .function&&env.kindOf n==ca .cell) then (n,Nf) else (n,k))=ca .free:=h
  by_cases hk:k=.free
  ·cases F:x==n with
   |true=>simp_all
   |false=>
    refine(J ?_).imp (Le _) (Le _);by_cases I:(k==Ue&&env.scope.kind == .function&&env.kindOf n==ca .cell)=da
    ·rw[if_pos I]at y;simpa only[oi,F]using y
    ·rw[if_neg I]at y;simpa only[oi,F]using y
  ·have L:(k==Ue)=ia:=by simpa using hk
   rw[if_neg (by simp[L])]at y
   cases F:x==n with
   |true=>
    simp only[oi,F]at y;rcases y with z|z
    ·rw[eq_of_beq F,Te z];exact .inr Uf
    ·exact absurd (Te z) hk
   |false=>exact(J (by simpa only[oi,F]using y)).imp (Le _) (Le _)

theorem As  : ∀names n acc ,Gf n names acc=Gf n names []++acc
 |[],_,_=>rfl
 |(x,k)::r,n,acc=>by
  unfold Gf;split
  ·rw[As r (n+1) ((x,n)::acc),As r (n+1) [(x,n)],Op];rfl
  ·exact As r n acc
theorem lw  : ∀names n {x } {c },(x,c)∈Gf n names []->(x,Nf)∈names
 |[],_,_,_,h=>nomatch h
 |(y,k)::r,n,x,c,h=>by
  unfold Gf at h;split at h
  ·rename_i hk;rw[As]at h;rcases Oa.mp h with h|h
   ·exact Le _ (lw r _ h)
   simp_all
  ·exact Le _ (lw r _ h)
def tV  {y:Type}:∀(l m:List (Str×y)) x ,(l++m).lookup x=(l.lookup x).or (m.lookup x)
 |[],_,_=>by simp
 |(n,k)::r,m,x=>by
  grind
structure BCells (scope:Cc)(cl cs:List (Str×Aa))(lo:Nat)(h:Va):Prop where
 lk:∀x c,cs.lookup x=ca c->((x,Nf)∈scope.names/\lo<c/\h.IsCell c la)\/((x,Nf)∉scope.names/\cl.lookup x=ca c)
 own:∀x,scope.names.lookup x=ca .cell->∃c,cs.lookup x=ca c/\lo<c
 old:∀x c,(x,Nf)∉scope.names->cl.lookup x=ca c->cs.lookup x=ca c
 inj:∀x y c,cs.lookup x=ca c->cs.lookup y=ca c->lo<c->x=y
def lU   {cl:List (Str×Aa)}{z:Nat}(Y:h.objs.size=z+1)(S:∀y∈scope.names,y.2=.cell->scope.names.lookup y.1=ca .cell)(Z:∀x c,cl.lookup x=ca c->c<=z):BCells scope cl (Gf (z+1) scope.names cl) z (Ps h scope.names):=by
 have ok:=cellsFrom_ok scope.names h (z+1) [] ⟨λ_ _ hm=>(nomatch hm),kL⟩ (by lia)
 rw[Y]at ok;have look:∀x,(Gf (z+1) scope.names cl).lookup x=((Gf (z+1) scope.names []).lookup x).or (cl.lookup x):=λx=>by rw[As,tV]
 have own:∀x,(x,Nf)∈scope.names->∃c,(Gf (z+1) scope.names []).lookup x=ca c:=λx F=>oz (S _ F rfl);refine⟨λx c e=>?_,λx F=>?_,λx c F R=>?_,λx y c L O R=>?_⟩
 ·rw[look]at e;by_cases F:(x,Nf)∈scope.names
  ·obtain⟨I,J⟩:=own x F;rw[J,Option.some_or]at e;have e:I=c:=Te e;subst e;obtain⟨z1,z2⟩:=ok.empty x I (cg J)
   lia
  ·cases q:(Gf (z+1) scope.names []).lookup x with
   |some I=>exact absurd (lw _ _ (cg q)) F
   |none=>simp_all
 ·obtain⟨c,e⟩:=own x (cg F);exact⟨c,by simp_all,(ok.empty x c (cg e)).2⟩
 ·rw[look];cases q:(Gf (z+1) scope.names []).lookup x with
  |some I=>exact absurd (lw _ _ (cg q)) F
  |none=>simp_all
 ·rw[look]at L O;have new:∀x,((Gf (z+1) scope.names []).lookup x).or (cl.lookup x)=ca c->(Gf (z+1) scope.names []).lookup x=ca c:=λx e=>by
   cases q:(Gf (z+1) scope.names []).lookup x with
   |some I=>simp_all
   |none=>
    grind
  exact name_of_addr ok.apart (cg (new x L)) (cg (new y O))
def OW           
  (y:Q (newEnv scope s.heap.objs.size globals (Gf (s.heap.objs.size+1) scope.names cl) qual la .none (ca env) Ep) { s with heap:=Ps (s.heap.push { cls:=.type "dict",data:=.dict #[] }) scope.names }) :
  wpAny M A (LB scope globals cl [] qual la .none (ca env)) Q E s:=by
 have sz:(s.heap.push { cls:=.type "dict",data:=.dict #[] }).objs.size=s.heap.objs.size+1:=Va.size_push ..;unfold LB;rw[if_pos (by rfl)]
 refine db (wpAny_alloc (db (wpAny_layCells _ (λx k c=>by lia) _ _ _ _ ?_)))
 rw[show Va.objs (Da.heap _)=(s.heap.push { cls:=.type "dict",data:=.dict #[] }).objs from rfl,sz];exact db (Zb (Zb y))


def TW   (h:scope.names.lookup x=ca .globalImplicit):Gl (Xd X N scope cl C s₀ H₀ y) x:=NA (by decide) h

def PIfs  (X:Cx)(ifs:List Ia)(t:TT):Prop:=
 ∀(y:List (Aa×Obj)) (s:Da) (σ:St) (H:Hp) (Q:Bool->Hp->Prop),La X y σ H s->t σ H Q->
  wpAny (Fa X.prog X.w) X.A (Yy X.env ifs) (TP X y σ Q) X.xe s
def WN  : TT:=λ_ H Q=>Q da H
def iS   : PIfs X [] WN:=λ_ _ _ H _ I h=>wpAny_tests_nil ⟨H,I,h⟩
def jS     (h:PT X c t):PIfs X [c] t:=λy s z H Q I q=>wpAny_tests_one (h y s z H Q I q)

abbrev Il:=St->List V->Hp->(St->List V->Hp->Prop)->Prop
def Gy  (J:It)(g:TG)(tt:TT)(L:Il)(QQ:St->List V->Hp->Prop)(R:St)(Z:List V)(H1:Hp):Prop:=∃W:Nat->Nat->St->List V->Hp->Prop,
 (∃m,W 0 m R Z H1)/\∀i m O F H,W i m O F H->
  (J.stop i H/\QQ O F H)\/(J.go i H/\∀x H',J.yld i H x H'->g x O H' λy H2=>tt y H2 λb H3=>if b=da then L y F H3 λY I H4=>∃z,z<m/\W (i+1) z Y I H4
   else ∃z,z<m/\W (i+1) z y F H3)
def VA  (I:TE)(D:Aa):Il:=λF y H Q=>I F H λv z=>z D=ca (.lst y)/\y.length<Wa/\Q F (y++[v]) (upd z D (.lst (y++[v])))
def LcGG  (J:It)(g:TG)(F:TT)(z:Aa->Il)(D:Aa)(y:St)(Q:VK)(I:Hp):Prop:=Gy J g F (z D) (λ_ _ H=>Q (.ref D) H) y [] (upd I D (.lst []))
def bq  (Y:Cx)(em:Sem Unit)(I:Il):Prop:=∀(y:List (Aa×Obj)) (s:Da) (τ:St) (ys:List V) (H:Hp) (Q:St->List V->Hp->Prop),La Y y τ H s->I τ ys H Q->
 wpAny (Fa Y.prog Y.w) Y.A em (λ_ L=>∃z F J,La Y y z J L/\Q z F J) Y.xe s
def tLcG  (pick:List (Option Nat))(I:TI)(g:TG)(L:TT)(y:Aa->Il):TE:=λz H Q=>I z H λJ F=>∀D,F D=la->LcGG J g L y D (pick.map λo=>o.bind λj=>(z[j]?).join) Q F
abbrev Tx  (pick:List (Option Nat))(y:TI)(g:TG)(F:TT)(z:TE):TE:=tLcG pick y g F (VA z)
section
variable {X:Cx}{N:List Str}{pick:List (Option Nat)}{scope:Cc}{pins:List (Aa×Obj)}{σ:St}{s s3:Da}{H H3:Hp}

def SV  {cl cs:List (Str×Aa)}{fp:List Aa}(S:CScope X N pick scope)(F:La X pins σ H3 s3)(hf:∀b∈fp,FpOk X pins H3 b)(xa:∀b∈fp,b<s3.heap.objs.size)
  (c1:∀x c,cl.lookup x=ca c->X.env.cells.lookup x=ca c) (c2:∀y∈scope.names,y.2=.free->∃c,cl.lookup y.1=ca c) (B:BCells scope cl cs s3.heap.objs.size I)
  (ka:I.Ns s3.heap.objs.size mB) (hk:∀b o,s3.heap.get? b=ca o->I.get? b=ca o) :
  La (Xd X N scope cs s3.heap.objs.size s3 H3 fp) [] (pick.map λo=>o.bind λj=>(σ[j]?).join) H3 { s3 with heap:=I,toks:=tk }:=by
 have za:∀b∈uf X.stack,b∈X.env.locals::X.fs:=F.stkSub;have oc:∀x c,cs.lookup x=ca c->X.env.cells.lookup x=ca c\/s3.heap.objs.size<c:=λx c e=>by
  rcases B.lk x c e with⟨_,z,_⟩|⟨_,z⟩
  ·lia
  simp_all
 have va:∀x,((x,Ue)∈scope.names\/(x,Nf)∈scope.names)->∃c,cs.lookup x=ca c:=λx Y=>by
  by_cases J:(x,Nf)∈scope.names
  ·obtain⟨c,e,_⟩:=B.own x (S.cells _ J rfl)
   simp_all
  ·rcases Y with Y|Y
   ·obtain⟨c,e⟩:=c2 _ Y rfl;exact⟨c,B.old x c J e⟩
   lia
 refine⟨⟨F.ok.mod,S.kind,F.ok.glob,F.ok.blt,ub _,λx y c e1 Z=>?_,λx Y=>va x (KI Y),λx c z e=>?_,F.ok.hd,F.ok.frames,.inl rfl,λb O=>⟨dg (xa b O),λx c e=>?_⟩,
   F.bs,Jb F.ok.bsz F.sz,λb o e O=>?_,λb O hm=>?_,F.stack,F.stkFree⟩,
  rfl,F.bare,Un.kept hk,⟨_,ka,λi x v e1 Z e3=>?_⟩,λx c e=>?_,F.hok.fresh (ub _),λx c e=>?_,λp hp=>absurd (show p∈([]:List (Aa×Obj))from hp) (by simp),F.hok.kept hk,?_⟩
 ·by_cases J:s3.heap.objs.size<c
  ·exact B.inj x y c e1 Z J
  ·exact F.ok.inj x y c ((oc x c e1).resolve_right J) ((oc y c Z).resolve_right J)
 ·have z':scope.names.lookup x=ca .cell:=eq_of_beq z;rcases B.lk x c e with⟨_,y,_⟩|⟨y,_⟩
  ·exact fk y
  ·exact absurd (cg z') y
 ·rcases oc x c e with z|z
  ·exact(hf b O).2.2.2.2.1 x c z
  ·intro q;rw[q]at z;exact absurd (iB z (xa b O)) (Ki _)
 ·rcases(hf b O).2.2.2.1 with z|z
  ·exact F.ok.noex b o e z
  ·exact absurd (Mf (Nc e) (Jb F.ok.bsz z)) (Ki _)
 ·rcases Oc.mp (za b hm)with z|z
  ·exact(hf b O).2.1 z
  ·exact(hf b O).2.2.1 z
 ·-- a captured name
  have ya:∃j,pick[i]?=ca (ca j)/\σ[j]?=ca (ca v):=by
   rw[Lf]at Z;cases q:pick[i]? with
   |none=>simp_all
   |some o=>
    rw[q]at Z;cases o with
    |none=>simp at Z
    |some j=>
     grind
  obtain⟨j,ej,ev⟩:=ya;obtain⟨hN,ja⟩:=S.caps i j x e1 ej;have L:(x,Ue)∈scope.names:=cg ja;have xb:(x,Nf)∉scope.names:=λz=>by
   have:=S.cells _ z rfl
   lia
  obtain⟨_,R⟩:=S.fre _ L rfl;obtain⟨m,hn,hl⟩:=F.loc;obtain⟨u,r,l⟩:=hl j x v hN ev (R.elim (λz=>.inr (.inl z)) λz=>.inr (.inr z));refine⟨u,r,.inr ⟨?_,?_⟩⟩
  ·exact BJ (env:=X.env) ja
  ·obtain⟨c,J⟩:=c2 _ L rfl;have zb:=c1 _ _ J;rcases l with⟨z,_⟩|⟨_,c',e,o,ho,hd⟩
   ·lia
   ·have:c'=c:=by lia
    subst this;exact⟨c',B.old x c' xb J,o,hk _ _ ho,hd⟩
 ·rcases B.lk x c e with⟨_,_,z⟩|⟨_,z⟩
  ·grind
  ·obtain⟨v,o,ho,hd⟩:=F.cell x c (c1 x c z);exact⟨v,o,hk _ _ ho,hd⟩
 ·rcases oc x c e with z|z
  ·exact F.freeC x c z
  ·exact F.hok.fresh (fk z)
 ·rw[Bc];exact S.len

def XS     {L:St}(I:La X pins σ H3 s3)(z:∀b∈O,FpOk X pins H3 b)(J:La (Xd X N scope cl C s3 H3 O) F L H' s') :
  La X pins σ H' s':=I.call' J.os J.base J.hok J.bare λb y=>⟨(z b y).2.2.2.1,(z b y).2.1,(z b y).2.2.2.2.1,(z b y).2.2.2.2.2⟩

def NQ                  {xa:St} 
  (yc:Y.calm=da) (R:Y.xe=λ_ _=>False)
  (yb:Dp (.ListComp elt gens scope pos) dp (.ref it) acc Y.env=Sr ip tg ifs (.ref it) Y.env em (.compLoop (.ListComp elt gens scope pos) dp (.ref it) acc Y.env))
  (yg:PG Y tg g) (yi:PIfs Y ifs tt) (ym:bq Y em xb) (J0:La Y pins xa H s) (T:Turn Y.prog Y.w Y.K tg J Z it tn) (t0:tn 0 s.heap) (f0:∀b∈Z,FpOk Y pins H b) (hW:Gy J g tt xb QQ xa vb H) :
  codeAny (Fa Y.prog Y.w) Y.A (.compLoop (.ListComp elt gens scope pos) dp (.ref it) acc Y.env) (λr s'=>r=.ok .next/\∃ja ka H',La Y pins ja H' s'/\QQ ja ka H') s:=by
 obtain⟨W,⟨m0,w0⟩,za⟩:=hW;have z:∀{H':Hp},(∀b∈Z,H' b=la)->∀b∈Z,FpOk Y pins H' b:=λhn b L=>⟨hn b L,(f0 b L).2⟩;refine tW (λn s'=>∃i F O H',La Y pins F H' s'/\tn i s'.heap/\(∀b∈Z,H' b=la)/\W i n F O H') yb ?_ m0 ⟨0,_,vb,_,J0,t0,λb L=>(f0 b L).1,w0⟩;rintro n s4 ⟨i,F,O,H4,J4,t4,fr4,w4⟩;rcases za i n F O H4 w4 with⟨ya,q⟩|⟨go,step⟩
 ·refine Pe (T.done Y rfl rfl rfl yc i pins s4 F H4 (λ_ _=>False) J4 (z fr4) t4 ya) (λr s5 ⟨hr,J5⟩=>?_) λ_ _ f=>f;subst hr;exact⟨rfl,F,O,H4,J5,q⟩
 ·refine Pe (T.item Y rfl rfl rfl yc i pins s4 F H4 (λ_ _=>False) J4 (z fr4) t4 go) (λr s5 ⟨u,hr,h5⟩=>?_) λ_ _ f=>f;subst hr;refine Pe h5 (λ_ s6 ⟨x,H6,J6,r6,y6,t6,jb⟩=>?_) λ_ _ f=>f;have zb:=J6.pinned (z jb) (T.obj _ _ t6);have ag:=yg _ s6 F H6 x u _ zb r6 (step x H6 y6);rw[R]at ag;refine Pe ag (λ_ s7 ⟨va,H7,J7,q7⟩=>?_) λ_ _ f=>f;have ai:=yi _ s7 va H7 _ J7 q7;rw[R]at ai;refine Pe ai (λok s8 ⟨H8,J8,q8⟩=>?_) λ_ _ f=>f;have I:∀{y:St} {H9:Hp} {s9:Da} {zs:List V},La Y (pins++Mr Z s6.heap) y H9 s9->(∃m',m'<n/\W (i+1) m' y zs H9)->∃m,m<n/\∃i F O H',La Y pins F H' s9/\tn i s9.heap/\(∀b∈Z,H' b=la)/\W i m F O H':=λ{y H9 s9 zs} J9 ⟨m',hm,w9⟩=>by
   refine⟨m',hm,i+1,y,zs,H9,J9.unpinned,T.keep _ _ _ t6 λb L o e=>(J9.pin (b,o) (Ag _ (Ag _ (Yv L e)))).1,λb L=>?_,w9⟩;obtain⟨o,e,d⟩:=T.obj _ _ t6 b L;exact(J9.pin (b,o) (Ag _ (Ag _ (Yv L e)))).2.1
  cases ok with
  |false=>exact I J8 q8
  |true=>
   have am:=ym _ s8 va O H8 _ J8 q8;rw[R]at am;exact Pe am (λ_ s9 ⟨y,zs,H9,J9,q9⟩=>I J9 q9) λ_ _ f=>f
def UD      (ja:Y.xe=λ_ _=>False)(he:PE Y elt te):bq Y (do let _ <- call (.builtin "list.append") [.ref D,<- lb elt Y.env]) (VA te D):=by
 intro Z s F ys H Q J q;have ae:=he _ s F H _ J q;refine db (Pe ae (λv s9 ⟨z,R,J9,r9,L,y,q9⟩=>?_) λ_ _ f=>f);have aa:=yG (X:=Y) _ s9 F R (.ref D) [z] (.ref D) [v] (λx H'=>H'=upd R D (.lst (ys++[z]))) J9 rfl (.cons r9 .nil) ⟨_,ys,z,rfl,rfl,L,y,rfl⟩;refine db (Pe aa (λ_ za ⟨_,xa,I,_,O⟩=>?_) λ_ _ f=>f);subst O;exact Zb ⟨F,_,_,I,q9⟩
section
variable {tg iter elt:Ia}{ifs:List Ia}
def aG {rest:List Iw}{pos:Pos}{g:TG}{tt:TT}{xa:Aa->Il}{em:Aa->Env->Sem Unit}{J:It}{L:List Aa}{it:Aa}{tn:Nat->Va->Prop}{cl:List (Str×Aa)}{Q:VK}{E:Ba->Da->Prop}{RR:Ba->Aa->Result->Da->Prop}
  (hc:X.calm=da) (S:CScope X N pick scope) (c1:∀x c,cl.lookup x=ca c->X.env.cells.lookup x=ca c) (c2:∀y∈scope.names,y.2=.free->∃c,cl.lookup y.1=ca c)
  (hg:∀cl C s₀ H₀ L,PG (Xd X N scope cl C s₀ H₀ L) tg g) (hi:∀cl C s₀ H₀ L,PIfs (Xd X N scope cl C s₀ H₀ L) ifs tt) (he:∀D cl C s₀ H₀ L,bq (Xd X N scope cl C s₀ H₀ L) (em D (Xd X N scope cl C s₀ H₀ L).env) (xa D))
  (kb:∀(it:Ba) (D:Aa) (env:Env),Dp (.ListComp elt (⟨tg,iter,ifs,0⟩::rest) scope pos) 0 it (.ref D) env=Sr iter.pos tg ifs it env (em D env) (.compLoop (.ListComp elt (⟨tg,iter,ifs,0⟩::rest) scope pos) 0 it (.ref D) env))
  (I2:La X pins σ H s) (T:Turn X.prog X.w X.K tg J L it tn) (st:tn 0 s.heap) (hf:∀b∈L,FpOk X pins H b)
  (hW:∀D,H D=la->LcGG J g tt xa D (pick.map λo=>o.bind λj=>(σ[j]?).join) Q H)
  (yb:∀D C H' s',La X pins σ H' s'->(∃m,s'.heap.Ns C m)->FpOk X pins H' C->Q (.ref D) H'->RR (.ref D) C (.ok .next) s') :
  wpAny (Fa X.prog X.w) X.A (newList []) (λacc ka=>wpAny (Fa X.prog X.w) X.A (LB scope X.env.globals cl [] X.env.qual la .none (ca X.env)) (λZ va=>
   codeAny (Fa X.prog X.w) X.A (.compStart (.ListComp elt (⟨tg,iter,ifs,0⟩::rest) scope pos) 0 (.ref it) acc { Z with scope:=relabel scope X.env }) (RR acc Z.locals) va) E ka) E s:=by
 have hD:H s.heap.objs.size=la:=I2.hok.fresh (ub _);have xb:∀b∈L,b<s.heap.objs.size:=λb F=>let ⟨o,e,_⟩:=T.obj _ _ st b F;Nc e
 refine Ri (OW ?_);have I3:La X pins σ (upd H s.heap.objs.size (.lst [])) { s with heap:=s.heap.push { cls:=.type "list",dict:=la,data:=.seq ([]:List Ba).toArray } }:=
  I2.laid (t':=s.toks) (λb u e=>Uc _ e) (ub _) ⟨Me _,[],0,.nil,Zg _ rfl⟩
 generalize jb:({ s with heap:=s.heap.push { cls:=.type "list",dict:=la,data:=.seq ([]:List Ba).toArray } }:Da)=s3 at I3 ⊢
 have kc:s3.heap.objs.size=s.heap.objs.size+1:=by rw[<- jb];simp_all
 have ja:∀b∈L,FpOk X pins (upd H s.heap.objs.size (.lst [])) b:=λb F=>⟨by rw[Ac (dg (xb b F))];exact(hf b F).1,(hf b F).2⟩
 have zb:(s3.heap.push { cls:=.type "dict",data:=.dict #[] }).objs.size=s3.heap.objs.size+1:=Va.size_push ..;have hk:∀b o,s3.heap.get? b=ca o->(Ps (s3.heap.push { cls:=.type "dict",data:=.dict #[] }) scope.names).get? b=ca o:=λb o e=>pushCells_keeps _ _ b o (Uc _ e);have R:(Ps (s3.heap.push { cls:=.type "dict",data:=.dict #[] }) scope.names).Ns s3.heap.objs.size λ_=>la:=(Va.Ns.new s3.heap (.type "dict")).keeps (pushCells_keeps _ _);have B:=lU (cl:=cl) zb S.cells λx c e=>by
  obtain⟨v,z⟩:=I3.cell x c (c1 x c e);exact fk z.lt
 generalize Ps (s3.heap.push { cls:=.type "dict",data:=.dict #[] }) scope.names=h₁ at hk R B ⊢;generalize Gf (s3.heap.objs.size+1) scope.names cl=cs at B ⊢;have xc:∀x c,cs.lookup x=ca c->X.env.cells.lookup x=ca c\/s3.heap.objs.size<c:=λx c e=>by
  rcases B.lk x c e with⟨_,z,_⟩|⟨_,z⟩
  ·lia
  simp_all
 have st1:tn 0 h₁:=T.keep _ _ _ st λb _ o e=>hk b o (by rw[<- jb];exact Uc _ e)
 have IY:La (Xd X N scope cs s3.heap.objs.size s3 (upd H s.heap.objs.size (.lst [])) L) [] (pick.map λo=>o.bind λj=>(σ[j]?).join) (upd H s.heap.objs.size (.lst [])) { s3 with heap:=h₁ }:=
  SV (tk:=s3.toks) S I3 ja (λb F=>Mf (xb b F) (by lia)) c1 c2 B R hk
 generalize O:Xd X N scope cs s3.heap.objs.size s3 (upd H s.heap.objs.size (.lst [])) L=Y at IY;have yg:PG Y tg g:=O ▸ hg _ _ _ _ _;have yi:PIfs Y ifs tt:=O ▸ hi _ _ _ _ _;have ye:bq Y (em s.heap.objs.size Y.env) (xa s.heap.objs.size):=O ▸ he _ _ _ _ _ _;have za:Y.prog=X.prog:=by rw[<- O];rfl
 have yw:Y.w=X.w:=by rw[<- O];rfl
 have yK:Y.K=X.K:=by rw[<- O];rfl
 have yA:Y.A=X.A:=by rw[<- O];rfl
 have yc:Y.calm=da:=by rw[<- O];exact hc
 have I:Y.env=compEnvC scope cs s3.heap.objs.size X.env:=by rw[<- O];rfl
 have vb:∀b,b∈Y.ex↔b∈L:=λb=>by rw[<- O];rfl
 have zc:Y.xe=λ_ _=>False:=by rw[<- O];rfl
 have vc:Y.pn=[]:=by rw[<- O];rfl
 have qc:∀b,b∈Y.fs->b∈X.env.locals::X.fs:=λb F=>I3.stkSub b (by rw[<- O]at F;exact F)
 have ya:∀{H':Hp},(∀b∈L,H' b=la)->∀b∈L,FpOk Y [] H' b:=λhn b F=>by
  refine⟨hn b F,?_,λhm=>?_,.inl ((vb b).mpr F),λx c e=>?_,λp hp=>?_⟩
  ·rw[I];show b≠s3.heap.objs.size
   grind
  ·rcases Oc.mp (qc b hm)with z|z
   ·exact(hf b F).2.1 z
   ·exact(hf b F).2.2.1 z
  ·rw[I]at e;rcases xc x c e with z|z
   ·exact(hf b F).2.2.2.2.1 x c z
   grind
  simp_all
 have jc:∀{τ:St} {H':Hp} {s':Da},La Y [] τ H' s'->Q (.ref s.heap.objs.size) H'->RR (.ref s.heap.objs.size) s3.heap.objs.size (.ok .next) s':=λ{τ H' s'} J q=>by
  have fr:H' s3.heap.objs.size=la:=by have:=J.free;rw[I]at this;exact this
  obtain⟨m,hn,_⟩:=J.loc;rw[I]at hn;exact yb _ _ H' s' (XS I3 ja (O ▸ J)) ⟨m,hn⟩ (I3.fpOk (ub _) fr) q
 have hn:∀b∈L,upd H s.heap.objs.size (.lst []) b=la:=λb F=>(ja b F).1;have lp:=NQ (pins:=[]) (s:={ s3 with heap:=h₁ }) (acc:=.ref s.heap.objs.size) (ifs:=ifs) (em:=em s.heap.objs.size Y.env) yc zc (kb (.ref it) s.heap.objs.size Y.env) yg yi ye IY (by lia) st1 (ya hn) (hW _ hD)
 rw[za,yw,yA,I]at lp;have lp:=Qp lp (R':=RR (.ref s.heap.objs.size) s3.heap.objs.size) λr s' ⟨hr,qd,wc,H',I',q'⟩=>by grind
 show codeAny (Fa X.prog X.w) X.A (.compStart (.ListComp elt (⟨tg,iter,ifs,0⟩::rest) scope pos) 0 (.ref it) (.ref s.heap.objs.size) (compEnvC scope cs s3.heap.objs.size X.env)) (RR (.ref s.heap.objs.size) s3.heap.objs.size) _;exact codeAny_compStart_list lp (T.self _ 0 _ _ _ st1 lp)

def jQ {pos:Pos}{wi:TI}{g:TG}{tt:TT}{rest:List Iw}{O:Aa->Il}{em:Aa->Env->Sem Unit}(hc:X.calm=da)(S:CScope X N pick scope)(hw:PI X tg iter wi)
  (hg:∀cl C s₀ H₀ L,PG (Xd X N scope cl C s₀ H₀ L) tg g) (hi:∀cl C s₀ H₀ L,PIfs (Xd X N scope cl C s₀ H₀ L) ifs tt) (he:∀D cl C s₀ H₀ L,bq (Xd X N scope cl C s₀ H₀ L) (em D (Xd X N scope cl C s₀ H₀ L).env) (O D))
  (xa:∀(it:Ba) (D:Aa) (env:Env),Dp (.ListComp elt (⟨tg,iter,ifs,0⟩::rest) scope pos) 0 it (.ref D) env=Sr iter.pos tg ifs it env (em D env) (.compLoop (.ListComp elt (⟨tg,iter,ifs,0⟩::rest) scope pos) 0 it (.ref D) env))
  (hs:∀x,Qi iter X.env x=pure x:=by intro _;rfl):PE X (.ListComp elt (⟨tg,iter,ifs,0⟩::rest) scope pos) (tLcG pick wi g tt O):=by
 intro z s σ H Q I h;obtain⟨cl,F,c1,c2⟩:=XG (scope:=scope) (env:=X.env) λy hy hf=>I.ok.has _ (S.fre y hy hf).2;rw[eval_ListComp];refine zK (use:=la) rfl hs F S.kind S.names (Db (hw z s σ H _ I h) λv s1 h1=>Db h1 λza s2 h2=>?_);obtain⟨it,L,tn,J,H2,e,I2,T,st2,f2,hW⟩:=h2;subst e;refine aG (RR:=λY C=>compPost (Fa X.prog X.w) X.A X.xe la (EP X z σ Q) Y C) hc S c1 c2 hg hi he xa I2 T st2 f2 hW λD C H' s' J' ⟨m,hn⟩ R q=>?_;refine⟨m,hn,λh' Z=>⟨.ref D,H',?_,rfl,q⟩⟩;exact J'.turned (t':=s'.toks) (it:=C) (λb o hb e=>Z.extBut b o hb e) R.1 R.2.1 R.2.2.2.1 R.2.2.2.2.1 R.2.2.2.2.2

def tQ {pos Z L:Pos}{wi:TI}{g:TG}{tt:TT}{rest:List Iw}{xa:Aa->Il}{em:Aa->Env->Sem Unit}{i:Nat}{y:Str}(hN:X.N.Nodup)(ka:X.N[i]?=ca y)(hy:X.env.scope.names.lookup y=ca .local)(hc:X.calm=da)(S:CScope X N pick scope)(hw:PI X tg iter wi)
  (hg:∀cl C s₀ H₀ O,PG (Xd X N scope cl C s₀ H₀ O) tg g) (hi:∀cl C s₀ H₀ O,PIfs (Xd X N scope cl C s₀ H₀ O) ifs tt) (he:∀D cl C s₀ H₀ O,bq (Xd X N scope cl C s₀ H₀ O) (em D (Xd X N scope cl C s₀ H₀ O).env) (xa D))
  (zb:∀(it:Ba) (D:Aa) (env:Env),Dp (.ListComp elt (⟨tg,iter,ifs,0⟩::rest) scope pos) 0 it (.ref D) env=Sr iter.pos tg ifs it env (em D env) (.compLoop (.ListComp elt (⟨tg,iter,ifs,0⟩::rest) scope pos) 0 it (.ref D) env))
  (za:ii (.ListComp elt (⟨tg,iter,ifs,0⟩::rest) scope pos) (ca (.Name y Z)) L.line X.env=pure da) (hs:∀x,Qi iter X.env x=pure x:=by intro _;rfl) :
  PS X (.Assign [.Name y Z] (.ListComp elt (⟨tg,iter,ifs,0⟩::rest) scope pos) L) (tAsg (tLcG pick wi g tt xa) (Er i)):=by
 intro F s σ H D0 I h;obtain⟨cl,R,c1,c2⟩:=XG (scope:=scope) (env:=X.env) λy hy hf=>I.ok.has _ (S.fre y hy hf).2;rw[exec_Assign_Name_used _ _ _ _ za];refine db (ml (db ?_));show wpAny _ _ (do let _ <- comprehension (.ListComp elt (⟨tg,iter,ifs,0⟩::rest) scope pos) scope X.env _ (newList []) ia (lb iter X.env) (ca (Ec (.Name y Z) X.env))) _ _ s
 refine db (Db (zK (use:=ca (Ec (.Name y Z) X.env)) (Q:=λ_ s'=>SP X F D0 .next s') rfl hs R S.kind S.names
  (Db (hw F s σ H _ I h) λv s1 h1=>Db h1 λvb s2 h2=>?_)) λ_ s' hq=>Zb (Zb hq))
 obtain⟨it,O,tn,J,H2,e,I2,T,st2,f2,hW⟩:=h2;subst e;refine aG (Q:=λx H1=>Er i x σ H1 D0.nx) (RR:=λja C=>compPost (Fa X.prog X.w) X.A X.xe (ca (Ec (.Name y Z) X.env)) (λ_ s'=>SP X F D0 .next s') ja C) hc S c1 c2 hg hi he zb I2 T st2 f2 hW λD C H' s' J' ⟨m,hn⟩ Y q=>?_
 show wpAny _ _ (Ec (.Name y Z) X.env (.ref D)) _ _ _;refine wpAny_assign_Name (iG (v:=.ref D) J' hN ka (.inl hy) rfl (λjb ya ⟨a,sb,ha⟩=>?_) (.inr hy));have va:C≠a:=by
  rcases ha with z|z
  ·rw[z];exact Y.2.1
  ·exact λe=>Y.2.2.2.2.1 y a z e.symm
 refine⟨m,hn.sameBut sb va,λh' xb=>?_⟩;refine⟨_,H',ya.turned (t':=jb.toks) (it:=C) (λb o hb e=>xb.extBut b o hb e) Y.1 Y.2.1 Y.2.2.2.1 Y.2.2.2.2.1 Y.2.2.2.2.2,q⟩
def qO {pos:Pos}{F:TI}{g:TG}{J:TT}{I:TE}(Y:X.calm=da)(S:CScope X N pick scope)(L:PI X tg iter F)
  (Z:∀cl C s₀ H₀ y,PG (Xd X N scope cl C s₀ H₀ y) tg g) (R:∀cl C s₀ H₀ y,PIfs (Xd X N scope cl C s₀ H₀ y) ifs J) (O:∀cl C s₀ H₀ y,PE (Xd X N scope cl C s₀ H₀ y) elt I)
  (hs:∀x,Qi iter X.env x=pure x:=by intro _;rfl):PE X (.ListComp elt [⟨tg,iter,ifs,0⟩] scope pos) (Tx pick F g J I):=
 jQ (em:=λD z=>do let _ <- call (.builtin "list.append") [.ref D,<- lb elt z]) (rest:=[]) Y S L Z R (λD cl C s₀ H₀ y=>UD rfl (O cl C s₀ H₀ y)) (λ_ _ _=>rfl) hs
def xO {pos:Pos}{O:TI}{g:TG}{Z:TT}{Y:TE}{R z:Pos}{i:Nat}{y:Str}(hN:X.N.Nodup)(L:X.N[i]?=ca y)(hy:X.env.scope.names.lookup y=ca .local)(hc:X.calm=da)(S:CScope X N pick scope)(hw:PI X tg iter O)
  (hg:∀cl C s₀ H₀ F,PG (Xd X N scope cl C s₀ H₀ F) tg g) (hi:∀cl C s₀ H₀ F,PIfs (Xd X N scope cl C s₀ H₀ F) ifs Z) (he:∀cl C s₀ H₀ F,PE (Xd X N scope cl C s₀ H₀ F) elt Y)
  (J:ii (.ListComp elt [⟨tg,iter,ifs,0⟩] scope pos) (ca (.Name y R)) z.line X.env=pure da) (hs:∀x,Qi iter X.env x=pure x:=by intro _;rfl):PS X (.Assign [.Name y R] (.ListComp elt [⟨tg,iter,ifs,0⟩] scope pos) z) (tAsg (Tx pick O g Z Y) (Er i)):=
 tQ (em:=λD I=>do let _ <- call (.builtin "list.append") [.ref D,<- lb elt I]) (rest:=[]) hN L hy hc S hw hg hi (λD cl C s₀ H₀ F=>UD rfl (he cl C s₀ H₀ F)) (λ_ _ _=>rfl) J hs
end
end

mutual
inductive DV (K:Hb)(H:Hp):V->Ma->Prop
 |non:DV K H .non .none
 |bl (b:Bool):DV K H (.bl b) (.bool b)
 |int (i:Int):DV K H (.int i) (.int i)
 |str (x:Str):DV K H (.str x) (.str x)
 |tup {a:Aa} {xs:List V} {ds:List Ma}:Pc K H a xs->fg K H xs ds->DV K H (.ref a) (.tuple ds)
 |lst {a:Aa} {xs:List V} {ds:List Ma}:Rd H a (.lst xs)->fg K H xs ds->DV K H (.ref a) (.list ds)
 |dic {a:Aa}:H a=ca (.dK [])->DV K H (.ref a) (.dict [])
inductive fg (K:Hb)(H:Hp):List V->List Ma->Prop
 |nil:fg K H [] []
 |cons {x:V} {d:Ma} {xs:List V} {ds:List Ma}:DV K H x d->fg K H xs ds->fg K H (x::xs) (d::ds)
end

mutual
noncomputable def CM:Ma->Bool
 |.list _=>ia
 |.tuple y=>noLs y
 |.dict _=>ia
 |.none|.bool _|.int _|.str _=>da
noncomputable def noLs:List Ma->Bool
 |[]=>da
 |x::r=>CM x&&noLs r
end


def La.noSys    {z:St}(I:La X pins z H s)(h:s.heap.get? a=ca o)(c:o.cls=.type "list"):Of≠a:=λe=>by
 obtain⟨J,l,F⟩:=I.mod.sys;have:=I.kIn _ _ l
 lia
mutual
theorem DV.reads2 {X:Cx}{pins:List (Aa×Obj)}{σ:St}{H:Hp}{s:Da}(I:La X pins σ H s):∀{x:V} {d:Ma} {u:Ba},DV X.K H x d->RelV x u->∃as,Reads s.heap u d as/\Of∉as
 |_,_,_,.non,r=>by cases r;exact⟨_,.none,by simp⟩
 |_,_,_,.bl b,r=>by cases r;exact⟨_,.bool b,by simp⟩
 |_,_,_,.int i,r=>by obtain⟨t,rfl⟩:=r;exact⟨_,.int i t,by simp⟩
 |_,_,_,.str x,r=>by obtain⟨t,rfl⟩:=r;exact⟨_,.str x t,by simp⟩
 |_,_,_,.tup e h,r=>by
  cases r
  obtain⟨O,R,⟨o,F,L,n,hd⟩,_⟩:=I.tuple e
  obtain⟨as,q,z⟩:=fg.reads2 I h R
  exact⟨_,.tuple F L hd q,z⟩
 |_,_,_,@DV.lst _ _ a _ _ e h,r=>by
  cases r
  obtain⟨O,R,⟨o,n,F,L,_,hd⟩,_⟩:=I.list (.inl e)
  obtain⟨as,q,z⟩:=fg.reads2 I h R
  refine⟨_,.list F L hd q,λJ=>?_⟩
  rcases Oc.mp J with J|J
  ·exact I.noSys F L J
  lia
 |_,_,_,@DV.dic _ _ a e,r=>by
  cases r
  obtain⟨_,hS,Z,kv,o,es,ep,F,hx,hd,_,Y,_⟩:([]:List (Vb×V)).length<=Wa/\(a==Of)=ia/\∃Z,KV [] Z/\s.heap.DictOf (sf X.prog X.w) a Z:=I.hok a _ e
  have e0:es.toList=[]:=by
   cases kv
   revert Y
   cases es.toList with
   |nil=>lia
   |cons x r=>exact λY=>(nomatch Y)
  refine⟨_,.dict (kvs:=[]) (as:=[]) (bs:=[]) F hx.1 hd (by rw[e0];exact .nil) (by rw[e0];exact .nil),λJ=>?_⟩
  simp_all
theorem fg.reads2 {X:Cx}{pins:List (Aa×Obj)}{J:St}{H:Hp}{s:Da}(I:La X pins J H s):∀{xs:List V} {ds:List Ma} {us:List Ba},fg X.K H xs ds->Vals xs us->∃as,ReadsAll s.heap us ds as/\Of∉as
 |_,_,_,.nil,r=>by cases r;exact⟨_,.nil,by simp⟩
 |_,_,_,.cons a b,r=>by
  cases r with
  |cons r rr=>
   obtain⟨as,q,z⟩:=DV.reads2 I a r
   obtain⟨bs,F,L⟩:=fg.reads2 I b rr
   exact⟨_,.cons q F,by simp_all⟩
end
def DV.reads {X:Cx}{pins:List (Aa×Obj)}{z:St}{H:Hp}{s:Da}(I:La X pins z H s){x:V}{d:Ma}{u:Ba}(h:DV X.K H x d)(r:RelV x u):∃as,Reads s.heap u d as:=let ⟨as,q,_⟩:=DV.reads2 I h r;⟨as,q⟩
def fg.reads    {z:St}(I:La X pins z H s)(h:fg X.K H xs ds)(r:Vals xs us):∃as,ReadsAll s.heap us ds as:=let ⟨as,q,_⟩:=fg.reads2 I h r;⟨as,q⟩

structure Fits (n k:Nat)(d:Ma):Prop where
 sh:d.showable=da
 ln:d.shown.length<=n
 dp:d.depth<=k
def Fits.mono    (h:Fits n k d)(I:n<=z)(F:k<=k'):Fits z k' d:=⟨h.sh,Jb h.ln I,Jb h.dp F⟩
def Fits.non  : Fits 4 0 .none:=⟨rfl,by decide +kernel,ub _⟩
def Fits.bl   b:Fits 5 0 (.bool b):=⟨rfl,by cases b<;>decide +kernel,ub _⟩
def Fits.dic  : Fits 2 1 (.dict []):=⟨rfl,by decide +kernel,by decide +kernel⟩
def Fits.str    (h:x.length<=m)(z:∀c∈x.cps.toList,c<16 ^ 8):Fits (10*m+2) 0 (.str x):=by
 refine⟨rfl,?_,ub _⟩;simp only[Zk];exact Jb (StrLaws.reprText_len x z) (by lia)
def GR   ts:(Str.join ", " ts).length<=Jt ts:=by
 rcases Classical.em (ts=[])with rfl|hz
 ·exact Me _
 ·exact Nat.le_of_add_right_le (Zw (join_length_add ts hz))
theorem pH  : ∀ts k (acc:Str),(textFrom k acc ts).length<=acc.length+Jt ts
 |[],_,_=>ub _
 |t::r,k,acc=>by
  have two:(((if k>0 then ", " else "" : String):Str)).length<=2:=by split<;>decide
  have y:=pH r (k+1) (acc++(if k>0 then ", " else "" : String)++t)
  simp only[aB]at y;rw[piled_cons];exact Jb y (by lia)
theorem kA  : ∀{ds } {k },(∀d∈ds,d.depth<=k)->Rh ds<=k
 |[],_,_=>Me _
 |d::r,k,h=>by
  simp only[Rh];exact Dj.mpr ⟨h d Uf,kA λq y=>h q (Le _ y)⟩
def IN  (K:Hb):List V->Hp->VK->Prop:=λy H Q=>∃x d,y=[x]/\DV K H x d/\Fits 16000000 60 d/\Q (.str d.shown) H
def RV    (hr:Room k X.A):rf X (.builtin "repr") (IN X.K):=by
 intro R s σ H Z us Q I r h;obtain⟨x,d,rfl,dv,ft,q⟩:=h;obtain⟨u,rfl,F⟩:=gj r;have hu:=hr.un;have y:∀(O:Va) (J:Tok) (L:Nat),(∀b o,s.heap.get? b=ca o->O.get? b=ca o)->EP X R σ Q (.str d.shown J) { s with heap:=O,toks:=L }:=λO J L hk=>
  ⟨.str d.shown,H,I.kept (t':=L) hk,⟨J,rfl⟩,q⟩
 have Y:d.shown.length<=Wa:=Jb ft.ln (by decide)
 cases dv with
 |non=>cases F;exact P.repr_of_none (y _ _ _ λ_ _ e=>e)
 |bl b=>cases F;exact P.repr_of_bool (by have:=y s.heap s.toks (s.toks+1) λ_ _ e=>e;simp only[Zk]at this;lia)
 |int i=>
  obtain⟨t,rfl⟩:=F;refine P.repr_of_int (by simpa[Gx]using ft.sh) ?_
  have:=y s.heap s.toks (s.toks+1) λ_ _ e=>e;simp only[Zk]at this
  lia
 |str x=>
  obtain⟨t,rfl⟩:=F;simp only[Zk]at Y;refine P.repr_of_str ?_ Y;have:=y s.heap s.toks (s.toks+1) λ_ _ e=>e;simp only[Zk]at this
  lia
 |@tup a Z ds e hd=>
  obtain⟨as,rd,z⟩:=DV.reads2 I (DV.tup e hd) F;cases F;exact MB rd ft.sh (λ_=>z) hr.gd (by have:=ft.dp;lia) (λ_ _ e=>e) (λO J L hk=>y O J L hk) Y
 |@lst a Z ds e hd=>
  obtain⟨as,rd,z⟩:=DV.reads2 I (DV.lst e hd) F;cases F;exact MB rd ft.sh (λ_=>z) hr.gd (by have:=ft.dp;lia) (λ_ _ e=>e) (λO J L hk=>y O J L hk) Y
 |@dic a e=>
  obtain⟨as,rd,z⟩:=DV.reads2 I (DV.dic e) F;cases F;exact MB rd ft.sh (λ_=>z) hr.gd (by have:=ft.dp;lia) (λ_ _ e=>e) (λO J L hk=>y O J L hk) Y

def Sm  (f:Aa)(H H':Hp):Prop:=∀b o,b≠f->H b=ca o->H' b=ca o




theorem bI  : ∀{ns } {us },Vals (ns.map V.int) us->∃y:List (Int×Tok),us=(y.map λp=>Os p.1 p.2)/\y.map (·.1)=ns
 |[],us,r=>by cases r;simp_all
 |n::ns,us,r=>by
  cases r with
  |cons h r=>
   obtain⟨t,rfl⟩:=h;obtain⟨y,rfl,e⟩:=bI r;exact⟨(n,t)::y,rfl,by simp[e]⟩

def ET  (F:X.calm=da):rf X (.builtin "sum") (λxs H Q=>∃(p:Aa) (ns:List Int),xs=[.ref p]/\Zc X.K H p (ns.map V.int)/\Q (.int ns.sum) H):=by
 intro y s σ H xs us Q I r h;obtain⟨p,ns,rfl,Y,q⟩:=h;obtain⟨u,rfl,rx⟩:=gj r;cases rx;obtain⟨z,O,J,hz⟩:=I.list Y;obtain⟨Z,rfl,e⟩:=bI O;have L:s.heap.IsList p (intItems Z.toArray):=by
  have:=J.isList;simpa[intItems]using this
 refine sum_intListG (I.ok.hd F) L λh' tk R k=>⟨.int ns.sum,H,I.kept k,⟨R,?_⟩,q⟩;rw[preSum_eq,tL (by simp),<- e]

theorem fm_rev  (xs:List Ba):∀n,n<=xs.length->(Be n).filterMap (λk=>xs[xs.length-1-k]?)=(xs.drop (xs.length-n)).reverse
 |0,_=>by simp
 |n+1,h=>by
  rw[jt,List.filterMap_append,fm_rev xs n (by lia)]
  have hk:xs.length-1-n<xs.length:=by lia
  have:xs.drop (xs.length-(n+1))=xs[xs.length-1-n]::xs.drop (xs.length-n):=by
   rw[show xs.length-(n+1)=xs.length-1-n by lia,zC hk,show xs.length-1-n+1=xs.length-n by lia]
  simp_all
def ZT  (xs:List Ba):Jp xs.toArray la la (ca (-1))=xs.reverse.toArray:=by
 have e:sliceRange ((xs.length:Int)-1) (-1) (-1)=(Be xs.length).map λk=>xs.length-1-k:=by
  unfold sliceRange;have y:(if (-1:Int)>0 then (if (xs.length:Int)-1 < -1 then (-1-((xs.length:Int)-1) + -1-1) / -1 else 0) else (if (xs.length:Int)-1 > -1 then ((xs.length:Int)-1 - -1 - -1-1)/(- -1) else 0)).toNat=xs.length:=by
   rw[if_neg (by lia),show(- -1:Int)=1 from rfl,gB]
   split<;>lia
  simp only[y];refine Ws λk hk=>?_;have:=List.mem_range.mp hk
  lia
 have b:Xj la la (ca (-1)) xs.toArray.size=((xs.length:Int)-1,-1,-1):=by
  simp[Xj]
 unfold Jp;rw[b];simp only;rw[e,RK];have:=fm_rev xs xs.length (ub _);rw[Nat.sub_self,rB]at this;rw[<- this];congr 1;refine congrArg (λf=>List.filterMap f (Be xs.length)) (funext λk=>?_);simp
def zT  (xs:List Ba):Jp xs.toArray la la (ca 1)=xs.toArray:=by
 have:=slicePick_all xs.toArray;unfold Jp at this ⊢;exact this
def Vals.rev    (r:Vals xs us):Vals xs.reverse us.reverse:=by
 induction r with
 |nil=>exact .nil
 |cons h r z=>rw[Jx,Jx];exact z.append (.cons h .nil)

end L2
namespace HT
open PySem PySem.Spec PyProof.Rows

def getItem_tuple_all     {y I:Option Int}(F:Vi s.heap t items)(hs:s.heap.IsSliceOf R vl vu .none)(Y:Qe vl y)(Z:Qe vu I)
  (hw:sIx items.size 0 y=0/\sIx items.size items.size I=items.size) (h:Q (.ref t) s):wpAny (Fa prog w) A (Vc (.ref t) (.ref R)) Q E s:=by
 obtain⟨os,O,L,xa⟩:=id hs;have J:s.TypeIs (.ref R) "slice" := ⟨os,O,L⟩;unfold Vc
 try with_reducible refine al ?_
 first|refine db (Zb ?_)|skip
 refine db (vB F.typeIs (by decide) ?_)
 refine db (bC (name:=Yk "__getitem__") F.typeIs ik
  (JB ik F.typeIs jC ?_ (rC _ _)))
 show wpAny _ _ (vC (.ref t) >>= _) _ _ s;refine db (bB F ?_);refine db (Qs J ?_);rw[if_pos (by decide)]
 refine db (KJ hs Y Z ?_);have z:((((sIx items.size 0 y:Nat):Int)==0&&(1:Int)==1&&(sIx items.size items.size I-sIx items.size 0 y)==items.size)=da):=by
  simp_all
 show wpAny _ _ (if (((sIx items.size 0 y:Nat):Int)==0&&(1:Int)==1&&(sIx items.size items.size I-sIx items.size 0 y)==items.size)=da then _ else _) _ _ s
 rw[if_pos z];refine db (m:=KL (.ref t)) ?_;unfold KL;refine db (Qs F.typeIs (Zb ?_));rw[if_pos (by decide)]
 exact db (wpAny_rule (Zb ⟨_,rfl,Zb h⟩))
end HT
namespace L2
open PySem PySem.Spec PyProof.Rows

def rSlW  (K:Hb):V->Option Int->Option Int->Hp->VK->Prop:=λx z F H Q=>∃a y,x=.ref a/\Pc K H a y/\
 (HT.sIx y.length 0 z=0/\HT.sIx y.length y.length F=y.length)/\Q (.ref a) H
def CS  : Vh X (rSlW X.K):=by
 intro z s σ H x v vl vu lo hi sl Q I rx Y O Z h;obtain⟨a,L,rfl,R,hw,q⟩:=h;cases rx;obtain⟨y,r,J,hz⟩:=I.tuple R;have F:y.toArray.size=L.length:=by rw[ud];exact r.length.symm
 refine⟨"tuple",_,ik.lookup,J.typeIs,?_⟩;exact HT.getItem_tuple_all J Y O Z (by lia) ⟨.ref a,H,I,rfl,q⟩
def BS  : Vh X (λx z y H Q=>rSlT X.K x z y H Q\/rSlW X.K x z y H Q):=Vh.or LP CS
theorem qH  : ∀(xs:List V) (us:List Ba),xs.length=us.length->(∀(i:Nat) x u ,xs[i]?=ca x->us[i]?=ca u->RelV x u)->Vals xs us
 |[],[],_,_=>.nil
 |x::xs,u::us,h,g=>.cons (g 0 x u rfl rfl) (qH xs us (by simpa using h) λi y z I F=>g (i+1) y z (by simp_all) (by simp_all))
 |[],_::_,h,_=>by simp at h
 |_::_,[],h,_=>by simp at h
def iU  (F:TA):TE:=λz H Q=>F z H λI y=>∃j:Int,I=[.int j]/\0<=j/\j<=1000000/\∀l,y l=la->Q (.ref l) (upd y l (.lst ((Be j.toNat).map λk:Nat=>V.int (k:Int))))
section
variable {X:Cx}
def mW {a:Ia}{ta:TA}{p O pos y:Pos}(hc:X.calm=da)(R:Gl X "list")(za:X.mg "list" = la)(Y:Gl X "range")(ja:X.mg "range" = la)(ha:PA X [a] ta)(hs:uc [a] X.env=[(ia,lb a X.env)]:=by rfl)
  (L:uc [.Call (.Name "range" O) [a] [] y] X.env=[(ia,lb (.Call (.Name "range" O) [a] [] y) X.env)]:=by rfl):PE X (.Call (.Name "list" p) [.Call (.Name "range" O) [a] [] y] [] pos) (iU ta):=by
 intro F s σ H Q I h;refine rl (Wo I R za boot_list ?_ (by decide) (by decide))
 refine Mx ?_ L rfl;rw[L];refine sK (rest:=[]) ?_;refine Call_ (Wo I Y ja boot_range (Mx (Db (ha y F s σ H _ I h) λus s1 ⟨vs,H1,I1,r1,q1⟩=>?_) hs rfl));obtain⟨j,e,h0,h1,q⟩:=q1;subst e;cases r1 with
 |cons r rr=>
  cases rr;obtain⟨t,rfl⟩:=r;refine call_range_1 ?_;refine Zb ?_;have I2:La X F σ H1 { s1 with heap:=s1.heap.push { cls:=.type "range",data:=.fields #[.int 0 s1.toks,.int j t,.int 1 (s1.toks+1)] },toks:=s1.toks+1+1 }:=I1.kept λb o e=>Uc _ e
  have hn:OL 0 j 1=(j.toNat:Nat):=by rw[rangeSize_one];lia
  refine call_list_range (I2.ok.hd hc) (IsRange.new ..) (small_one (by lia) (by lia) (by lia) (by lia)) hn (by lia) λh' tk J c' hk xa z=>?_
  have hv:Vals ((Be j.toNat).map λk:Nat=>V.int (k:Int)) J.toList:=qH _ _ (by simp[z.1]) λi x u hx hu=>by
   have hi:i<j.toNat:=by
    grind
   rw[Lf,QB hi]at hx;obtain⟨Z,e⟩:=z.2 i u (by simp_all)
   cases hx;exact⟨Z,by lia⟩
  have hz:((Be j.toNat).map λk:Nat=>V.int (k:Int)).length<=Wa:=by
   rw[Bc,List.length_range];exact Jb (show j.toNat<=1000000 by lia) (by decide)
  refine⟨.ref _,_,I2.laid (t':=tk) (o:=.lst ((Be j.toNat).map λk:Nat=>V.int (k:Int))) hk (ub _) ?_,rfl,q _ (I2.hok.fresh (ub _))⟩;exact⟨hz,_,c',hv,xa⟩
end
end L2
namespace HT
open PySem PySem.Spec PyProof.Rows

def KW    {n:Nat}(hs:s.heap.IsSliceOf F .none .none (.int (-1) t))(h:Q ((n:Int)-1,-1,n) s):wpAny (Fa prog w) A (Lx (.ref F) (pure (n:Int))) Q E s:=by
 obtain⟨O,y,I,z⟩:=id hs;unfold Lx QL;refine db (db (Oi y z (x:=.none) rfl (db (Oi y z (x:=.none) rfl (db (Oi y z (x:=.int (-1) t) rfl (Zb ?_)))))));refine db (Yr (.int (-1) t) ?_);show wpAny _ _ (if ((-1:Int)==0)=da then _ else _) _ _ s
 rw[if_neg (by decide)]
 refine db (Yr .none (db (Yr .none (db (Zb ?_)))));have J:Bt la la (-1) (n:Int)=((n:Int)-1,-1):=rfl;have L:Fl ((n:Int)-1) (-1) (-1)=n:=by
  unfold Fl;rw[if_neg (by lia),show(- -1:Int)=1 from rfl,gB]
  split<;>lia
 show wpAny _ _ (match Bt la la (-1) (n:Int)with|(lo,hi)=>pure (lo,(-1:Int),Fl lo hi (-1))) _ _ s
 rw[J];show wpAny _ _ (pure ((n:Int)-1,(-1:Int),Fl ((n:Int)-1) (-1) (-1))) _ _ s;rw[L];exact Zb h
def AU  (xs:List Ba):((Be xs.length).filterMap λ(k:Nat)=>xs.toArray[((xs.length:Int)-1+(k:Int)*(-1)).toNat]?).toArray=xs.reverse.toArray:=by
 have:=L2.fm_rev xs xs.length (ub _);rw[Nat.sub_self,rB]at this;rw[<- this];congr 1;refine congrArg (λf=>List.filterMap f (Be xs.length)) (funext λk=>?_);rw[show((xs.length:Int)-1+(k:Int)*(-1)).toNat=xs.length-1-k by lia]
 simp
def getItem_tuple_rev   {y:List Ba}(F:Vi s.heap t y.toArray)(hs:s.heap.IsSliceOf R .none .none (.int (-1) tk))
  (h:Q (.ref s.heap.objs.size) { s with heap:=s.heap.push { cls:=.type "tuple",data:=.seq y.reverse.toArray } }) (hsz:y.length<=Wa):wpAny (Fa prog w) A (Vc (.ref t) (.ref R)) Q E s:=by
 have z:sizeOk (.seq y.reverse.toArray):=by
  show y.reverse.toArray.size<=Wa
  simp_all
 obtain⟨Z,O,L,Y⟩:=id hs;have J:s.TypeIs (.ref R) "slice" := ⟨Z,O,L⟩;unfold Vc
 try with_reducible refine al ?_
 first|refine db (Zb ?_)|skip
 refine db (vB F.typeIs (by decide) ?_)
 refine db (bC (name:=Yk "__getitem__") F.typeIs ik
  (JB ik F.typeIs jC ?_ (rC _ _)))
 show wpAny _ _ (vC (.ref t) >>= _) _ _ s;refine db (bB F ?_);refine db (Qs J ?_);rw[if_pos (by decide)]
 refine db (KW (n:=y.length) hs ?_);have I:¬((((y.length:Int)-1)==0&&(-1:Int)==1&&y.length==y.toArray.size)=da):=by simp
 show wpAny _ _ (if (((y.length:Int)-1)==0&&(-1:Int)==1&&y.length==y.toArray.size)=da then _ else _) _ _ s
 rw[if_neg I,AU]
 first
  |exact db (m:=El _) (Ri (Zb ⟨_,rfl,Zb h⟩) z)
  |exact db (m:=El _) (Ri (db (Zb (Zb ⟨_,rfl,Zb h⟩))) z)
  |exact db (db (m:=El _) (Ri (Zb (Zb ⟨_,rfl,Zb h⟩)) z))
  |exact db (db (m:=El _) (Ri (Zb ⟨_,rfl,Zb h⟩) z))
end HT
namespace L2
open PySem PySem.Spec PyProof.Rows

def FN  (K:Hb):V->V->Hp->VK->Prop:=λx y H Q=>∃p z i v,x=.ref p/\y=.int i/\Zc K H p z/\0<=i/\z[i.toNat]?=ca v/\Q v H
def cT  : PGet X (FN X.K):=by
 intro z s σ H o i ov iv Q I R Z h;obtain⟨p,L,k,v,rfl,rfl,Y,h0,F,q⟩:=h;cases R;obtain⟨t,rfl⟩:=Z;obtain⟨J,r,O,hz⟩:=I.list Y;obtain⟨w,ew,y⟩:=r.get F;have hk:k.toNat<L.length:=(Ka.mp F).1;have hn:=Km;exact wpAny_getItem_list O.isList h0 (by lia) (by simp_all) ⟨v,H,I,y,q⟩

end L2

namespace L2
open PySem PySem.Spec PyProof.Rows

def yO  (K:Hb):R2:=λx y H Q=>∃a b z F,x=.ref a/\y=.ref b/\Pc K H a z/\Pc K H b F/\z.length+F.length<=Wa/\
 (z=[]->Q (.ref b) H)/\(z≠[]->F=[]->Q (.ref a) H)/\(z≠[]->F≠[]->∀p,H p=la->Q (.ref p) (upd H p (.tup (z++F))))
def iR  : ic X (Se .Add) (yO X.K):=by
 intro J s σ H x y v u Q I rx ry h;obtain⟨a,b,xs,ys,rfl,rfl,ha,hb,hz,q0,q1,q2⟩:=h;by_cases z:xs=[]
 ·cases rx;cases ry;obtain⟨Y,r1,p1,_⟩:=I.tuple ha;obtain⟨F,r2,p2,_⟩:=I.tuple hb;have hv:Y=[]:=r1.nil_iff.mpr z;subst hv;obtain⟨⟨ya,dd,ja,sl⟩,ho,hc,n,hd⟩:=id p1;obtain⟨⟨va,Z,xa,za⟩,R,O,n2,L⟩:=id p2;simp only at hc hd O L;subst hc hd O L;exact qB ⟨_,ho,rfl⟩ ⟨_,R,rfl⟩ IB ZA DC wC (AC _ _)
   (tuple_addW0 a b _ F.toArray n n2 dd Z sl za rfl) ⟨ho,R,⟨.ref b,H,I,rfl,q0 z⟩⟩
 ·exact jR J s σ H _ _ _ _ Q I rx ry ⟨a,b,xs,ys,rfl,rfl,ha,hb,z,hz,q1 z,q2 z⟩
def IV   (hr:Room k X.A):ic X (Ed .Eq) (λx y H Q=>∃a b xs,x=.ref a/\y=.ref b/\Pc X.K H a xs/\Pc X.K H b []/\Q (.bl xs.isEmpty) H):=by
 intro L s σ H x y v u Q I rx ry h;obtain⟨a,b,xs,rfl,rfl,R,O,q⟩:=h;cases rx;cases ry;obtain⟨z,Y,pa,_⟩:=I.tuple R;obtain⟨J,F,pb,_⟩:=I.tuple O;cases F;have hu:X.A.units<Pb:=hr.units0;have e:((Be (min z.toArray.size ([]:List Ba).toArray.size)).all (λ_=>da)&&z.toArray.size==([]:List Ba).toArray.size)=xs.isEmpty:=by
  cases Y<;>simp
 refine EqBoolInt.of_rc (Di.tuples (e:=λ_=>da) (show s.heap.IsTuple a z.toArray from pa) (show s.heap.IsTuple b ([]:List Ba).toArray from pb) hu λj _ Z=>?_) ?_
 ·simp at Z
 ·rw[e];exact⟨.bl xs.isEmpty,H,I,rfl,q⟩
def MV   (hr:Room k X.A):ic X (Ed .NotEq) (λx y H Q=>∃a b xs,x=.ref a/\y=.ref b/\Pc X.K H a xs/\Pc X.K H b []/\Q (.bl (!xs.isEmpty)) H):=by
 intro R s σ H x y v u Q I rx ry h;obtain⟨a,b,xs,rfl,rfl,Z,Y,q⟩:=h;cases rx;cases ry;obtain⟨J,rv,pa,_⟩:=I.tuple Z;obtain⟨O,L,pb,_⟩:=I.tuple Y;cases L;have hu:X.A.units<Pb:=hr.units0;have z:s.heap.IsTuple a J.toArray:=pa;have F:s.heap.IsTuple b ([]:List Ba).toArray:=pb;cases rv with
 |nil=>
  refine Ax (pL (e:=λ_=>da) z F hu λj h1 _=>?_) ⟨.bl ia,H,I,rfl,q⟩;simp at h1
 |cons r rr=>
  refine Ax (pL (e:=λ_=>da) z F hu λj _ h2=>?_) ⟨.bl da,H,I,rfl,q⟩;simp at h2




def GD  (K:Hb)(z:Bool):R2:=λx y H Q=>∃d e,DV K H x d/\DV K H y e/\d.canLay0=da/\e.canLay0=da/\d.depth<=100/\Q (.bl (if z then !PyData.eqv d e else Ce d e)) H
def aP   (hr:Room k X.A):ic X (Ed .NotEq) (GD X.K da):=by
 intro z s Z H x y v u Q I R O h;obtain⟨d,e,hd,J,c1,c2,hk,q⟩:=h;obtain⟨Y,F⟩:=hd.reads I R;obtain⟨bs,L⟩:=J.reads I O;exact SeqAt.compareNe_reads F L c1 c2 (by have:=hr.un;lia) ⟨.bl _,H,I,rfl,q⟩
def UO   (hr:Room k X.A):ic X (Ed .Eq) (GD X.K ia):=by
 intro z s Z H x y v u Q I R O h;obtain⟨d,e,hd,J,c1,c2,hk,q⟩:=h;obtain⟨Y,F⟩:=hd.reads I R;obtain⟨bs,L⟩:=J.reads I O;exact SeqAt.compareEq_reads F L c1 c2 (by have:=hr.un;lia) ⟨.bl _,H,I,rfl,q⟩

mutual
noncomputable def cj:Ma->Bool
 |.none=>da
 |.bool _=>ia
 |.int _=>da
 |.str _=>da
 |.list y=>noBs y
 |.tuple y=>noBs y
 |.dict _=>ia
noncomputable def noBs:List Ma->Bool
 |[]=>da
 |d::r=>cj d&&noBs r
end
mutual
theorem ZD:∀{d e:Ma},cj d=da->cj e=da->Ce d e=da->d=e
 |.none,.none,_,_,_=>rfl
 |.int i,.int j,_,_,h=>by rw[Ce]at h;rw[eq_of_beq h]
 |.str i,.str j,_,_,h=>by rw[Ce]at h;rw[eq_of_beq h]
 |.list xs,.list ys,h1,h2,h=>by rw[Ce]at h;rw[cj]at h1 h2;rw[Qy h1 h2 h]
 |.tuple xs,.tuple ys,h1,h2,h=>by rw[Ce]at h;rw[cj]at h1 h2;rw[Qy h1 h2 h]
 |.bool _,_,h,_,_=>by rw[cj]at h;cases h
 |.dict _,_,h,_,_=>by rw[cj]at h;cases h
 |.none,.bool _,_,h,_|.int _,.bool _,_,h,_|.str _,.bool _,_,h,_|.list _,.bool _,_,h,_|.tuple _,.bool _,_,h,_=>by rw[cj]at h;cases h
 |.none,.dict _,_,h,_|.int _,.dict _,_,h,_|.str _,.dict _,_,h,_|.list _,.dict _,_,h,_|.tuple _,.dict _,_,h,_=>by rw[cj]at h;cases h
 |.none,.int _,_,_,h|.none,.str _,_,_,h|.none,.list _,_,_,h|.none,.tuple _,_,_,h=>by rw[Ce]at h;cases h
 |.int _,.none,_,_,h|.int _,.str _,_,_,h|.int _,.list _,_,_,h|.int _,.tuple _,_,_,h=>by rw[Ce]at h;cases h
 |.str _,.none,_,_,h|.str _,.int _,_,_,h|.str _,.list _,_,_,h|.str _,.tuple _,_,_,h=>by rw[Ce]at h;cases h
 |.list _,.none,_,_,h|.list _,.int _,_,_,h|.list _,.str _,_,_,h|.list _,.tuple _,_,_,h=>by rw[Ce]at h;cases h
 |.tuple _,.none,_,_,h|.tuple _,.int _,_,_,h|.tuple _,.str _,_,_,h|.tuple _,.list _,_,_,h=>by rw[Ce]at h;cases h
theorem Qy:∀{ds y:List Ma},noBs ds=da->noBs y=da->Pp ds y=da->ds=y
 |[],[],_,_,_=>rfl
 |d::r,e::q,h1,h2,h=>by
  rw[noBs,Lc]at h1 h2
  rw[Pp,Lc]at h
  rw[ZD h1.1 h2.1 h.1,Qy h1.2 h2.2 h.2]
 |[],_::_,_,_,h=>by rw[Pp]at h;cases h
 |_::_,[],_,_,h=>by rw[Pp]at h;cases h
end


def UV  (ds:List Ma):Pp ds []=ds.isEmpty:=by
 cases ds<;>rfl
def JW  : fillsNumberSlot (.type "tuple") "mul" = pure ia:=
 PySem.fillsNumberSlot_seq (id := "tuple.__mul__") (r:=ca (.builtin "tuple.__rmul__")) Hs.lookup (by decide +kernel) F.slot_tuple_rmul.lookup (by decide +kernel)
def nW  : seqRepeat? (.type "tuple")=pure (ca (.builtin "tuple.__mul__")):=by
 unfold seqRepeat?;rw[NK (T := "tuple") (name := "__mul__") (id := "tuple.__mul__") Hs.lookup (by decide +kernel),NK (T := "tuple") (name := "__rmul__") (id := "tuple.__rmul__") F.slot_tuple_rmul.lookup (by decide +kernel)]
 rfl
def zW   a (t:Tok) l items (n:Nat) dd sl :
  Nt (Mb.«int.__rmul__» ⟨[.int a t,.ref l],[]⟩) (λ_ R s=>s.heap.get? l=ca { cls:=.type "tuple",dict:=dd,data:=.seq items n,slots:=sl }/\R (.ok (.ret Ba.notImplemented)) s):=
 .of_wp λy w A R s h=>by obtain⟨F,g,d,I,J⟩:=s;obtain⟨z,h⟩:=h;wp_walk;exact⟨_,rfl,h⟩
def oV   l (items:Array Ba)(n:Nat) dd sl (x:Int)(t:Tok)(hx:2<=x)(xa:x<2 ^ 62)(h0:items.isEmpty=ia)(hsz:items.size*x.toNat<=Wa) :
  Nt (Mb.«tuple.__mul__» ⟨[.ref l,.int x t],[]⟩)
   (λA R s=>s.heap.get? l=ca { cls:=.type "tuple",dict:=dd,data:=.seq items n,slots:=sl }/\R (.ok (.ret (.ref s.heap.objs.size))) { s with heap:=s.heap.push { cls:=.type "tuple",data:=.seq ((Ab x.toNat items).foldl (·++·) #[]) } }):=
 .of_wp λJ w A R s h=>by
  obtain⟨hp,g,d,tk,os⟩:=s;obtain⟨F,h⟩:=h;have c1:(decide (x < -2 ^ 63)||decide (x ≥ 2 ^ 63))=ia:=by simp;lia
  have c2:(items.isEmpty||x==1)=ia:=by rw[h0];simp;lia
  have O:(decide (x<=0)||items.isEmpty)=ia:=by rw[h0];simp;lia
  have L:(items.size:Int)*x=((items.size*x.toNat:Nat):Int):=by rw[Int.natCast_mul,Int.toNat_of_nonneg (by lia)]
  have Z:(Wa:Nat)<=(2 ^ 63-1)/8:=by decide
  wp_walk using Xa F
  simp only[c1,Yp,if_false]
  wp_walk using Xa F
  simp only[c2,O,Yp,if_false];rw[if_neg (by rw[L];lia)]
  have Y:LL ((items.size:Int)*x)=ia:=by
   rw[L];unfold LL;exact decide_eq_false (by lia)
  simp only[Y,Yp,if_false];have I:(Ts (λy z=>y++z) #[] (Ab x.toNat items)).size<=Wa:=by
   rw[AutoListH.size_joined];simp only[ud,Mn,Rw];rw[ax];exact hsz
  revert I h;generalize Ts (λy z=>y++z) #[] (Ab x.toNat items)=G;intro h I
  wp_walk
  exact⟨_,rfl,h⟩
def mV   l (items:Array Ba)(n:Nat) dd sl t (h0:items.isEmpty=ia) :
  Nt (Mb.«tuple.__mul__» ⟨[.ref l,.int 0 t],[]⟩)
   (λA R s=>s.heap.get? l=ca { cls:=.type "tuple",dict:=dd,data:=.seq items n,slots:=sl }/\R (.ok (.ret (.ref s.heap.objs.size))) { s with heap:=s.heap.push { cls:=.type "tuple",data:=.seq #[] } }):=
 .of_wp λy w A R s h=>by
  obtain⟨I,g,d,F,J⟩:=s;obtain⟨z,h⟩:=h;have c2:(items.isEmpty||(0:Int)==1)=ia:=by rw[h0];rfl
  wp_walk using Xa z
  exact⟨_,rfl,h⟩
def nV   l items (n:Nat) dd sl t :
  Nt (Mb.«tuple.__mul__» ⟨[.ref l,.int 1 t],[]⟩)
   (λA R s=>s.heap.get? l=ca { cls:=.type "tuple",dict:=dd,data:=.seq items n,slots:=sl }/\R (.ok (.ret (.ref l))) s):=
 .of_wp λy w A R s h=>by
  obtain⟨F,g,d,I,J⟩:=s;obtain⟨z,h⟩:=h;have c1:(decide ((1:Int) < -2 ^ 63)||decide ((1:Int) ≥ 2 ^ 63))=ia:=by decide
  have c2:(items.isEmpty||(1:Int)==1)=da:=by simp
  wp_walk using Xa z
  exact⟨_,rfl,h⟩

def HN  (K:Hb):R2:=λx y H Q=>∃l k z,x=.ref l/\y=.int k/\Pc K H l z/\z≠[]/\0<=k/\k<2 ^ 62/\z.length*k.toNat<=Wa/\(k=1->Q (.ref l) H)/\(k≠1->∀p,H p=la->Q (.ref p) (upd H p (.tup (Ab k.toNat z).flatten)))
def KS  : ic X (Se .Mult) (HN X.K):=by
 intro xa s σ H x y v u Q I rx ry h;obtain⟨l,k,xs,rfl,rfl,hH,h0,h1,h2,hz,q1,q2⟩:=h;cases rx;obtain⟨t,rfl⟩:=ry;obtain⟨J,r,pl,_⟩:=I.tuple hH;have hl:=r.length;obtain⟨⟨za,O,Z,R⟩,e,hc,n,hd⟩:=id pl;simp only at hc hd;subst hc hd;have L:J≠[]:=λz=>h0 (r.nil_iff.mp z);refine DL (T := "tuple") (U := "int") (by decide) ⟨_,e,rfl⟩ (λs'=>Ls s' k t) JW F.fills_int_mul Nw nW F.slot_int_index.lookup
  (Ah Nw (Ls s k t) F.entry_int_rmul (F.args_int_rmul_2 _ _) (zW k t l J.toArray n O R) ⟨e,rfl,⟨_,e,rfl⟩,?_⟩)
 by_cases hk:k=1
 ·subst hk;exact Ah Hs ⟨_,e,rfl⟩ yB (dC _ _) (nV l J.toArray n O R t) ⟨e,⟨.ref l,H,I,rfl,q1 rfl⟩⟩
 ·by_cases Y:k=0
  ·subst Y;refine Ah Hs ⟨_,e,rfl⟩ yB (dC _ _) (mV l J.toArray n O R t (by simpa using L)) ⟨e,?_⟩
   refine⟨.ref s.heap.objs.size,_,I.laid (t':=s.toks) (o:=.tup []) (λb ob q=>Uc _ q) (ub _) ?_,rfl,q2 hk _ (I.hok.fresh (ub _))⟩;exact⟨Me _,[],.nil,TupD.new _ _⟩
  refine Ah Hs ⟨_,e,rfl⟩ yB (dC _ _) (oV l J.toArray n O R k t (by lia) h2 (by simpa using L) (by rw[ud,<- hl];exact hz)) ⟨e,?_⟩
  have f0:=Gz J k.toNat [];rw[Dl]at f0;rw[f0];refine⟨.ref s.heap.objs.size,_,I.laid (t':=s.toks) (o:=.tup (Ab k.toNat xs).flatten) (λb ob q=>Uc _ q) (ub _) ?_,rfl,q2 hk _ (I.hok.fresh (ub _))⟩;exact⟨by rw[Wy,ax];exact hz,_,r.rep k.toNat,TupD.new _ _⟩
noncomputable def repS  (x:Str)(k:Nat):Str:=⟨(Ab k x.cps.toList).flatten.toArray⟩
def GN  : R2:=λx y H Q=>∃z k,x=.str z/\y=.int k/\0<=k/\k<1000/\z.length<=1000/\Q (.str (repS z k.toNat)) H
theorem IF  (x:Array Nat):∀k (a:List Nat),((Ab k x).foldl (·++·) a.toArray)=(a++(Ab k x.toList).flatten).toArray
 |0,a=>by simp
 |k+1,a=>by
  rw[ck,wB,show a.toArray++x=(a++x.toList).toArray by simp,IF x k]
  simp[ck]
def JS  : ic X (Se .Mult) GN:=by
 intro J s σ H x y v u Q I rx Y h;obtain⟨z,k,rfl,rfl,h0,h1,Z,q⟩:=h;obtain⟨t,rfl⟩:=rx;obtain⟨t',rfl⟩:=Y;have R:z.length*k.toNat<=1000000:=Jb (Nat.mul_le_mul Z (show k.toNat<=1000 by lia)) (by decide)
 refine P.mul_str (by simp;lia) (λL _=>?_) (λL _=>?_) ?_
 ·have:((2:Int) ^ 63-1)/k ≥ 1000:=by
   refine(Int.le_ediv_iff_mul_le (by lia)).mpr ?_
   lia
  lia
 ·exact decide_eq_false (by
   have:(1000000:Nat)<=Wa:=by decide
   lia)
 ·split
  ·have e:repS z k.toNat=Str.empty:=by rw[show k.toNat=0 by lia];rfl
   rw[e]at q;exact⟨by decide,.str _,H,I.tok _,⟨_,rfl⟩,q⟩
  ·split
   ·rename_i L F;have e:repS z k.toNat=z:=by
     rw[Bl,beq_iff_eq,beq_iff_eq]at F;unfold repS;rcases F with F|F
     ·subst F;simp
     ·have:z.cps.toList=[]:=by
       have:z.cps.size=0:=F;simpa using this
      obtain⟨c⟩:=z;simp only at this ⊢;have O:c=#[]:=by simpa using this
      subst O;simp
    rw[e]at q;exact⟨.str _,H,I,⟨_,rfl⟩,q⟩
   ·have e:(Ab k.toNat z.cps).foldl (·++·) #[]=(Ab k.toNat z.cps.toList).flatten.toArray:=by
     have:=IF z.cps k.toNat [];simpa using this
    refine⟨?_,.str _,H,I.tok _,⟨_,rfl⟩,?_⟩
    ·rw[e];show(Ab k.toNat z.cps.toList).flatten.toArray.size<=Wa;rw[ud,Wy,ax];exact Jb R (by decide)
    ·rw[e];exact q
theorem UG  : ∀{bs:List Bool} {us } {i:Nat} {v },Vals (bs.map V.bl) us->us[i]?=ca v->∃b,bs[i]?=ca b/\v=.bool b
 |b::r,_,0,v,.cons e q,h=>by
  cases e;exact⟨b,rfl,(Te h).symm⟩
 |b::r,_,i+1,v,.cons e q,h=>UG (bs:=r) (i:=i) q (by simpa using h)
 |[],_,i,v,.nil,h=>by simp at h
def QV    {Z:St}{bs:List Bool}(L:X.calm=da)(I:La X pins Z H s)(Y:Zc X.K H p (bs.map V.bl)) d :
  ∃y fp F P S,s.heap.IsList p y/\Walks X.prog X.w X.A.in1 s.heap.objs.size fp F bs.length P S/\S 0 (s.heap.push ⟨.type "list_iterator",la,.fields #[.ref p,.int 0 0],#[]⟩)/\TruthOf X.prog X.w X.A.in1 P (λi=>(bs[i]?).getD d)/\
   ∀h':Va,(∀b o,b∉F->(s.heap.push ⟨.type "list_iterator",la,.fields #[.ref p,.int 0 0],#[]⟩).get? b=ca o->h'.get? b=ca o)->∀b o,s.heap.get? b=ca o->h'.get? b=ca o:=by
 obtain⟨y,J,z,-⟩:=I.list Y;have n:y.toArray.size=bs.length:=by simpa using J.length.symm
 obtain⟨o,O,-⟩:=id z.isList;have W:=Walks.list (prog:=X.prog) (w:=X.w) (A:=X.A.in1) (I.ok.hd L) s.heap.objs.size p (dg (Nc O)) y.toArray;rw[n]at W;refine⟨y.toArray,_,_,_,_,z.isList,W,⟨⟨_,Zg _ rfl,rfl,rfl⟩,z.isList.push _⟩,λi v t Q E R hQ=>?_,λh' hk b o e=>hk b o (λm=>?_) (Uc _ e)⟩
 ·obtain⟨b,e,rfl⟩:=UG (i:=i) (v:=v) J (by simpa using R)
  exact Si (by simpa only[e,Option.getD]using hQ)
 ·exact absurd (Nc e) (by rw[Ea.mp m];exact Ki _)

end L2

namespace L2
open PySem PySem.Spec PyProof.Rows
open Sem (wp)
open AutoSeq1 (wpAny_loadPart')



end L2

namespace L2
open PySem PySem.Spec PyProof.Rows

def WV  : rf X (.builtin "isinstance") (λxs H Q=>∃(x:V) (c:String) (t:Ba) (b:Bool),xs=[x,.ty c]/\TyOf X.K H x t/\Qw X.K t (.type c)=ca b/\Q (.bl b) H):=by
 intro y s R H xs O Q I r h;obtain⟨x,c,t,b,rfl,L,e,q⟩:=h;obtain⟨u,v,rfl,z,F⟩:=Vals.two r;cases F;exact OT I z L e λJ=>⟨.bl b,H,I.tok J,rfl,q⟩




end L2

namespace L2
open PySem PySem.Spec PyProof.Rows PySem.W

end L2

namespace L2
open PySem PySem.Spec PyProof.Rows PySem.W
open PySem.AutoSeq1 (wpAny_loadPart')
open PySem.MeetsSeq PySem.MeetsSeq2 PySem.MeetsSeq3
end L2

namespace L2
open PySem PySem.Spec PyProof.Rows PySem.W



section
variable {X:Cx}
theorem cp  : ∀r:List Int,xx (r.map .int)=da/\Rh (r.map .int)=0/\noBs (r.map .int)=da
 |[]=>⟨rfl,rfl,rfl⟩
 |i::r=>by
  obtain⟨z,y,F⟩:=cp r;refine⟨?_,?_,?_⟩
  ·show((Ks i).canLay0&&xx (r.map .int))=da;rw[z];rfl
  ·show max (Ks i).depth (Rh (r.map .int))=0;rw[y];rfl
  ·show(cj (.int i)&&noBs (r.map .int))=da;rw[F];rfl
theorem JF  : ∀{l y:List Int},l.map Ks=y.map Ks->l=y
 |[],[],_=>rfl
 |[],_::_,h=>by cases h
 |_::_,[],h=>by cases h
 |a::l,b::y,h=>by
  have h:=QK h;rw[Ks.inj h.1,JF h.2]
def sR  (k k':List Int):Ce (.list (k.map .int)) (.list (k'.map .int))=decide (k=k'):=by
 by_cases h:k=k'
 ·rw[h,PySem.SeqAt.eqv_refl (.list (k'.map .int)) (cp k').1];simp
 ·cases e:Ce (.list (k.map .int)) (.list (k'.map .int))with
  |false=>simp[h]
  |true=>
   have e:=Ma.list.inj (ZD (d:=.list (k.map .int)) (e:=.list (k'.map .int)) (cp k).2.2 (cp k').2.2 e);exact absurd (JF e) h

def rInD  (X:Cx)(z:Bool):R2:=λx y H Q=>∃(p:Aa) (vs:List V) (d:Ma) (ds:List Ma),y=.ref p/\(Zc X.K H p vs\/Pc X.K H p vs)/\DV X.K H x d/\fg X.K H vs ds/\d.canLay0=da/\d.depth<=100/\(∀e∈ds,e.canLay0=da)/\Q (.bl (if z then !(ds.any λe=>Ce e d) else ds.any λe=>Ce e d)) H
open Classical in
noncomputable def eD (h:Va)(d:Ma)(w:Ba):Bool:=decide (∃e y,e.canLay0=da/\Reads h w e y/\Ce e d=da)
open Classical in
def zD {h:Va}{d e:Ma}{w:Ba}{as:List Aa}(r:Reads h w e as)(c:e.canLay0=da):eD h d w=Ce e d:=by
 unfold eD;cases q:Ce e d with
 |true=>grind
 |false=>
  refine decide_eq_false λ⟨F,y,J,I,z⟩=>?_;rw[SeqAt.Reads.unique F e w y as J I r,q]at z;cases z
theorem YE {h:Va}{d:Ma}:∀{us:List Ba} {ds:List Ma} {as:List Aa},ReadsAll h us ds as->(∀e∈ds,e.canLay0=da)->us.any (eD h d)=(ds.any λe=>Ce e d)/\∀w∈us,∃e as,e.canLay0=da/\Reads h w e as
 |_,_,_,.nil,_=>⟨rfl,λw y=>by simp at y⟩
 |_,_,_,.cons r rs,c=>by
  obtain⟨F,z⟩:=YE (d:=d) rs λe I=>c e (Le _ I);refine⟨by rw[tj,tj,F,zD r (c _ Uf)],λw y=>?_⟩
  rcases Oc.mp y with rfl|y
  ·exact⟨_,_,c _ Uf,r⟩
  ·exact z w y
def gv   {σ:St}(hu:A.units+100<Pb)(I:La X pins σ H s)(rx:RelV x u)(hd:DV X.K H x d)(c:d.canLay0=da)(Z:d.depth<=100)(r:Vals vs y)(hv:fg X.K H vs ds)(cs:∀e∈ds,e.canLay0=da) :
  (∀w,w∈y->Zf A s w u (eD s.heap d w))/\y.any (eD s.heap d)=ds.any λe=>Ce e d:=by
 obtain⟨as,J⟩:=fg.reads I hv r;obtain⟨bs,Y⟩:=DV.reads I hd rx;obtain⟨R,O⟩:=YE (d:=d) J cs;refine⟨λw L=>?_,R⟩;obtain⟨e,xa,F,z⟩:=O w L;rw[zD z F];exact SeqAt.eqAt_reads _ _ A s _ _ _ _ z Y F c (Yg (Dx (Jb (Nat.min_le_right _ _) Z) _) hu)
def VO   (hr:Room k X.A):ic X (Ed .In) (rInD X ia):=by
 intro Y s σ H x y v u Q I rx ry h;obtain⟨p,vs,d,ds,rfl,F,hd,hv,c,Z,R,q⟩:=h;cases ry;rcases F with F|F
 ·obtain⟨z,r,J,hz⟩:=I.list F;obtain⟨O,L⟩:=gv (A:=X.A.in1) (by have:=hr.un;lia) I rx hd c Z r hv R
  refine iL (eD s.heap d) J.isList (λw hw=>O w (by simp_all)) ⟨.bl _,H,I,rfl,?_⟩
  rw[show z.toArray.any (eD s.heap d)=z.any (eD s.heap d) by simp,L]
  exact q
 ·obtain⟨z,r,J,hz⟩:=I.tuple F;obtain⟨O,L⟩:=gv (A:=X.A.in1) (by have:=hr.un;lia) I rx hd c Z r hv R
  refine iC (eD s.heap d) J (λw hw=>O w (by simp_all)) ⟨.bl _,H,I,rfl,?_⟩
  rw[show z.toArray.any (eD s.heap d)=z.any (eD s.heap d) by simp,L]
  exact q
def YU   (hr:Room k X.A):ic X (Ed .NotIn) (rInD X da):=by
 intro Y s σ H x y v u Q I rx ry h;obtain⟨p,vs,d,ds,rfl,F,hd,hv,c,Z,R,q⟩:=h;cases ry;rcases F with F|F
 ·obtain⟨z,r,J,hz⟩:=I.list F;obtain⟨O,L⟩:=gv (A:=X.A.in1) (by have:=hr.un;lia) I rx hd c Z r hv R
  refine xK (eD s.heap d) J.isList (λw hw=>O w (by simp_all)) ⟨.bl _,H,I,rfl,?_⟩
  rw[show z.toArray.any (eD s.heap d)=z.any (eD s.heap d) by simp,L]
  exact q
 ·obtain⟨z,r,J,hz⟩:=I.tuple F;obtain⟨O,L⟩:=gv (A:=X.A.in1) (by have:=hr.un;lia) I rx hd c Z r hv R
  refine WB (eD s.heap d) J (λw hw=>O w (by simp_all)) ⟨.bl _,H,I,rfl,?_⟩
  rw[show z.toArray.any (eD s.heap d)=z.any (eD s.heap d) by simp,L]
  exact q
end

end L2

namespace L2
open PySem PySem.Spec PyProof.Rows




end L2

namespace L2
open PySem PySem.Spec PyProof.Rows PySem.SeqAt PySem.MeetsSeq
def fK   l es (n:Nat) dd sl b u :
  Nt (Mb.«dict.__eq__» ⟨[.ref l,.str b u],[]⟩) (λ_ R s=>s.heap.get? l=ca { cls:=.type "dict",dict:=dd,data:=.dict es n,slots:=sl }/\R (.ok (.ret .notImplemented)) s):=
 .of_wp λy w A R s h=>by obtain⟨I,g,d,J,L⟩:=s;obtain⟨z,h⟩:=h;have O:=F.sub_str_dict;wp_walk using Xa z;exact⟨_,rfl,h⟩
def iK   b u l es (n:Nat) dd sl :
  Nt (Mb.«str.__eq__» ⟨[.str b u,.ref l],[]⟩) (λ_ R s=>s.heap.get? l=ca { cls:=.type "dict",dict:=dd,data:=.dict es n,slots:=sl }/\R (.ok (.ret .notImplemented)) s):=
 .of_wp λz w A R s h=>by obtain⟨F,g,d,I,J⟩:=s;obtain⟨y,h⟩:=h;wp_walk using Xa y,wpAny_load y;exact⟨_,rfl,h⟩

def wW         b u (z:s.heap.get? l=ca o)(R:o.cls=.type "dict")(hd:o.data=.dict es n)(hu:A.units<Pb):RcAt A s (.ref l) (.str b u) ia:=λL w E Q h=>by
 obtain⟨Y,I,O,J⟩:=o;simp only at R hd;subst R hd;exact rc_eq_decline_or (k:=ia) ⟨_,z,rfl⟩ (cn s b u) (by decide) F.sub_str_dict F.slot_dict_eq F.slot_str_eq_refl
  (λ_ y=>Ah F.slot_dict_eq ⟨_,z,rfl⟩ F.entry_dict_eq (F.args_dict_eq_2 _ _) (fK l es n I J b u) ⟨z,y⟩)
  (λ_ y=>Ah F.slot_str_eq_refl (cn s b u) F.entry_str_eq (F.args_str_eq_2 _ _) (iK b u l es n I J) ⟨z,y⟩)
  (λ_ y=>Nl (rfl:isSame (.ref l) (.str b u)=pure ia) y) (.inr hu) h
def XT  : R2:=λx y H Q=>∃a z F,x=.ref a/\y=.str z/\H a=ca (.dK F)/\Q (.bl ia) H
def CW   (hr:Room k X.A):ic X (Ed .Eq) XT:=by
 intro L s σ H x y v u Q I rx Z h;obtain⟨a,z,F,rfl,rfl,R,q⟩:=h;cases rx;obtain⟨t,rfl⟩:=Z;obtain⟨_,_,J,_,o,es,ep,O,Y,hd,_⟩:F.length<=Wa/\(a==Of)=ia/\∃J,KV F J/\s.heap.DictOf (sf X.prog X.w) a J:=I.hok a _ R;exact wW z t O Y.1 hd (by have:=hr.un;lia) X.prog X.w X.xe _ ⟨.bl ia,H,I,rfl,q⟩
def rSlS  : V->Option Int->Option Int->Hp->VK->Prop:=λx F y H Q=>∃z,x=.str z/\z.length<=Wa/\Q (.str (Aw z F y)) H

def KP  : Vh X rSlS:=by
 intro J s σ H x v vl vu lo hi sl Q I rx hs pl pu h;obtain⟨z,rfl,L,q⟩:=h;obtain⟨t,rfl⟩:=rx;refine⟨"str",_,F.slot_str_getitem.lookup,cn _ _ _,?_⟩;obtain⟨o,O,R,hd⟩:=hs;have y:∀Z k,EP X J σ Q (.str (Aw z lo hi) Z) { s with toks:=k }:=λZ k=>⟨.str _,H,I.tok _,⟨_,rfl⟩,q⟩
 cases pl with
 |none=>
  cases pu with
  |none=>exact gx (l:=la) (u:=la) (st:=la) ⟨o,O,R,hd⟩ rfl (Lw ⟨Jb (Sw z _ _) L,y⟩)
  |int j Y=>exact gx (l:=la) (u:=ca (j,Y)) (st:=la) ⟨o,O,R,hd⟩ rfl (Lw ⟨Jb (Sw z _ _) L,y⟩)
 |int i ui=>
  cases pu with
  |none=>exact gx (l:=ca (i,ui)) (u:=la) (st:=la) ⟨o,O,R,hd⟩ rfl (Lw ⟨Jb (Sw z _ _) L,y⟩)
  |int j Y=>exact gx (l:=ca (i,ui)) (u:=ca (j,Y)) (st:=la) ⟨o,O,R,hd⟩ rfl (Lw ⟨Jb (Sw z _ _) L,y⟩)
def gR  : ic X (Se .Add) (λx y H Q=>∃b j,x=.bl b/\y=.int j/\Q (.int ((if b=da then (1:Int) else 0)+j)) H):=by
 intro z s L H x y v u Q I J F h;obtain⟨b,j,rfl,rfl,q⟩:=h;cases J;obtain⟨t,rfl⟩:=F;exact PySem.IntBool.add_bool_int ⟨.int _,H,I.tok _,⟨_,rfl⟩,q⟩
def LS  : ic X (Se .Sub) (λx y H Q=>(∃b j,x=.bl b/\y=.int j/\Q (.int ((if b=da then (1:Int) else 0)-j)) H)\/∃i b,x=.int i/\y=.bl b/\Q (.int (i-if b=da then (1:Int) else 0)) H):=by
 intro J s L H x y v u Q I F z h;rcases h with⟨b,j,rfl,rfl,q⟩|⟨i,b,rfl,rfl,q⟩
 ·cases F;obtain⟨t,rfl⟩:=z;exact PySem.IntBool.sub_bool_int ⟨.int _,H,I.tok _,⟨_,rfl⟩,q⟩
 ·cases z;obtain⟨t,rfl⟩:=F;exact PySem.IntBool.sub_int_bool ⟨.int _,H,I.tok _,⟨_,rfl⟩,q⟩
def wS  (K:Hb):R2:=λx y H Q=>∃a z F,x=.ref a/\y=.str z/\(Pc K H a F\/Zc K H a F)/\Q (.bl ia) H
def jW   (hr:Room k X.A):ic X (Ed .Eq) (wS X.K):=by
 intro O s σ H x y v u Q I Z Y h;obtain⟨a,z,xs,rfl,rfl,J,q⟩:=h;cases Z;obtain⟨t,rfl⟩:=Y;have hu:X.A.units<Pb:=hr.units0;rcases J with J|J
 ·obtain⟨F,R,L,_⟩:=I.tuple J;exact Di.tuple_str z t (show s.heap.IsTuple a F.toArray from L) hu X.prog X.w X.xe _ ⟨.bl ia,H,I,rfl,q⟩
 ·obtain⟨F,R,L,_⟩:=I.list J;exact Di.list_str z t L.isList hu X.prog X.w X.xe _ ⟨.bl ia,H,I,rfl,q⟩
end L2

namespace L2
open PySem PySem.Spec PyProof.Rows
open AutoSeq1 (wpAny_loadPart')


end L2

namespace L2
open PySem PySem.Spec PyProof.Rows PySem.W
structure Lies (lo:Nat)(pn:List (Aa×Obj))(H:Hp)(h:Va)(e:Aa)(cls:Ba)(dx:Option Aa):Prop where
 ob:∃oe vs,h.get? e=ca oe/\oe.cls=cls/\oe.dict=dx/\oe.data=.fields vs/\
  (vs[1]?=ca .none\/∃T oT ts,vs[1]?=ca (.ref T)/\T≠e/\h.get? T=ca oT/\oT.data=.fields ts/\ts[3]?=ca .none/\H T=la/\lo<=T/\∀p∈pn,p.1≠T)
 hn:H e=la
 le:lo<=e
 pn:∀p∈pn,p.1≠e

def Vv  {h:Va} i x (I:h.get? a=ca o)(hd:o.data=.fields vs) :
  (∃y,(h.update a (kn (·.setIfInBounds i x))).get? a=ca y/\y.cls=o.cls/\y.dict=o.dict/\y.data=.fields (vs.setIfInBounds i x))/\∀b,b≠a->(h.update a (kn (·.setIfInBounds i x))).get? b=h.get? b:=by
 have z:=HK hd (·.setIfInBounds i x);refine⟨⟨_,cx _ I (aC z),Obj.cls_mapFields _ _,?_,z⟩,λb F=>CC _ _ (Ua F)⟩;unfold kn
 lia
def FF  {s: Da} 
  (ja:A.frames=ca (env::outer)) (hl:s.heap.FunFrames base (env::outer)) (hf:env.frame=ca L) (he:s.heap.get? e=ca oe) (hd:oe.data=.fields vs) (hsz:1<vs.size)
  (h:∀(h':Va) (T:Aa) (F oT:Obj) vs' ts ,(∀b o,b∉uf (env::outer)->b≠e->s.heap.get? b=ca o->h'.get? b=ca o)->(∀b o,b∈uf (env::outer)->b≠e->s.heap.get? b=ca o->∃sl,h'.get? b=ca { o with slots:=sl })->
   s.heap.objs.size<=T->h'.get? e=ca F->F.cls=oe.cls->F.dict=oe.dict->F.data=.fields vs'->vs'[1]?=ca (.ref T)->h'.get? T=ca oT->oT.data=.fields ts->ts[3]?=ca .none->Q () { s with heap:=h' }) :
  wpAny M A (do let a <- frameOf env;let I <- entryPlaceOf L va;let b <- EntryCells.newEntry y a .none (Sb L) .none I;setField (.ref e) 1 b) (λ_ s'=>wpAny M A (Ip (.ref e) la) Q E s') E s:=by
 have xa:e∉uf (env::outer):=λm=>by
  rcases hl.mem m with⟨-,o,ho,no⟩
  simp_all
 refine db (wpAny_frameOf_fun ja hl hf λJ fs=>db (wpAny_entryPlaceOf λI za=>db (Ri ?_ (za.sizeOk5 _ _ _ _ _))));have n3:3<([y,.ref L,.none,Sb L,.none]++(if I.isEmpty then Ab 6 uh else I)).toArray.size:=by
  simp_all
 generalize ya:(⟨.type "traceback",la,.fields ([y,.ref L,.none,Sb L,.none]++(if I.isEmpty then Ab 6 uh else I)).toArray,#[]⟩:Obj)=ot
 have Y:ot.data=.fields ([y,.ref L,.none,Sb L,.none]++(if I.isEmpty then Ab 6 uh else I)).toArray:=by lia
 have Z:J.get? e=ca oe:=by rw[fs.2.1 e xa,he]
 have new:=Zg J (aC Y);have ne:J.objs.size≠e:=λz=>Ki _ (z ▸ Nc Z);obtain⟨⟨o2,g2,c2,d2,v2⟩,r2⟩:=Vv 1 (.ref J.objs.size) (Uc ot Z) hd;have R:=(r2 _ ne).trans new;obtain⟨⟨o3,g3,c3,d3,v3⟩,r3⟩:=Vv 3 .none R Y;refine NB (Uc ot Z) hd hsz (db (Oi g2 v2 (FC hsz) ?_));rw[if_pos (by rfl)]
 refine NB R Y n3 ?_;have keep:∀b o,b≠e->J.get? b=ca o->_:=λb o hb g=>(r3 b (dg (Nc g))).trans ((r2 b hb).trans (Uc ot g));refine h _ J.objs.size o2 o3 _ _ (λb o hb O g=>keep b o O (by rw[fs.2.1 b hb,g])) (λb o _ O g=>?_) (Zw fs.1.symm) ((r3 e (Ua ne)).trans g2) c2 d2 v2 (FC hsz) g3 v3 (FC n3)
 rcases fs.2.2 b o g with⟨sl,q⟩
 simp_all

def La.left  {R: St}{ch:List Aa}(I:La X pins R H s)(hH:∀b∈ch,H b=la)(O:∀b∈ch,X.s₀.heap.objs.size<=b)(hd:∀b∈ch,∃o vs,s.heap.get? b=ca o/\o.data=.fields vs)(hp:∀b∈ch,∀p∈X.pn++pins,p.1≠b)
  (k:∀b o,b∉uf X.stack->b∉ch->s.heap.get? b=ca o->h'.get? b=ca o) (Z:∀b o,b∈uf X.stack->b∉ch->s.heap.get? b=ca o->∃t,h'.get? b=ca { o with slots:=t }):La X pins R H { s with heap:=h' }:=by
 have u:Un (uf X.stack) ch H H s.heap h':=by
  refine⟨λb o e _ F J=>k b o F J e,λb o e _ F J=>Z b o F J e,λ_ _ _ n _=>n,λb o e J=>?_,λ_ _ e=>e,λ_ _ _ e=>e,λb ps e=>⟨#[],by rw[e];simp⟩⟩
  grind
 have tr:∀b u,H b=ca u->b∉uf X.stack/\b∉ch:=λb u e=>⟨λz=>(by rw[I.stkFree b z]at e;cases e),λz=>(by simp_all)⟩
 have L:Md X.prog X.w H h':=λa o e=>(I.hok a o e).stay (λb v F q=>by
  grind) (λ_ q=>q) λ_ _ q=>q
 refine I.call (g':=s.gens) (d':=s.drawn) (t':=s.toks) u L I.bare λb F=>⟨.inr (O b F),λz=>?_,λx c e z=>?_,hp b F⟩
 ·obtain⟨o,vs,g,d⟩:=hd b F;obtain⟨m,⟨o',_,_,Y,r⟩,_⟩:=I.loc
  lia
 ·obtain⟨o,vs,g,d⟩:=hd b F;obtain⟨v,o',Y,J⟩:=I.cell x c e
  lia
def Ny  {σ: St}(I:La X [] σ H s)(O:X.stack=X.env::X.outer)(hf:X.env.frame=ca X.env.locals)
  (l:Lies X.s₀.heap.objs.size X.pn H s.heap ea cls dx) (q:∀h',La X [] σ H { s with heap:=h' }->Lies X.s₀.heap.objs.size X.pn H h' ea cls dx->Q () { s with heap:=h' }):wpAny M X.A (Bw (.ref ea) X.env) (λ_ s'=>wpAny M X.A (Ip (.ref ea) la) Q E s') E s:=by
 obtain⟨oe,vs,he,L,ja,hd,ht⟩:=l.ob;have ya:X.A.frames=ca (X.env::X.outer):=by rw[<- O];exact I.ok.frames
 have hl:s.heap.FunFrames X.base (X.env::X.outer):=by rw[<- O];exact I.stack
 have pe:∀p∈X.pn++[],p.1≠ea:=λp hp=>l.pn p (by simp_all)
 unfold Bw;simp only[hf];rcases ht with h1|⟨T,oT,ts,h1,hTe,hT,hdT,h3,nT,lT,pT⟩
 ·refine db (Oi he hd h1 ?_);rw[if_neg (by decide)]
  refine FF ya hl hf he hd (Yb.mp h1).1 λh' T' Y Z za xa k sl R g1 c1 c2 c3 c4 g2 c5 c6=>?_;rw[<- O]at k sl;have J:La X [] σ H { s with heap:=h' }:=I.left (ch:=[ea]) (λb y=>by rw[Ea.mp y];exact l.hn) (λb y=>by rw[Ea.mp y];exact l.le) (λb y=>by simp_all) (λb y=>by grind)
   (λb o y L e=>k b o y (λz=>L (by simp[z])) e) λb o y L e=>sl b o y (λz=>L (by simp[z])) e
  refine q h' J ⟨⟨Y,za,g1,c1.trans L,c2.trans ja,c3,.inr ⟨T',Z,xa,c4,?_,g2,c5,c6,I.hok.fresh R,Jb I.sz R,λp hp z=>?_⟩⟩,l.hn,l.le,l.pn⟩
  ·exact λz=>absurd (Nc he) (Ub.mpr (z ▸ R))
  ·exact absurd (Nc (I.pin p (by simp_all)).1) (Ub.mpr (z ▸ R))
 ·have ka:(uh==Sb X.env.locals)=ia:=rfl;refine db (Oi he hd h1 ?_);rw[if_pos (by rfl)]
  refine db (Oi hT hdT h3 ?_);rw[ka,if_neg Dd];refine db (NB hT hdT (Yb.mp h3).1 ?_);have F:=(Vv 3 .none hT hdT).2;have I1:La X [] σ H { s with heap:=s.heap.update T (kn (·.setIfInBounds 3 uh)) }:=I.left (ch:=[T]) (λb y=>by simp_all) (λb y=>by simp_all) (λb y=>by simp_all) (λb y p hp=>by grind)
   (λb o _ L e=>(F b (by simp_all)).trans e) λb o _ L e=>⟨o.slots,(F b (by simp_all)).trans e⟩
  have va:=(F ea (Ua hTe)).trans he;have xb:(s.heap.update T (kn (·.setIfInBounds 3 uh))).FunFrames X.base (X.env::X.outer):=by rw[<- O];exact I1.stack
  refine FF (s:={ s with heap:=s.heap.update T (kn (·.setIfInBounds 3 uh)) }) ya xb hf va hd (Yb.mp h1).1 λh' T' Y Z za xa k sl R g1 c1 c2 c3 c4 g2 c5 c6=>?_
  rw[<- O]at k sl;have J:La X [] σ H { s with heap:=h' }:=La.left (s:={ s with heap:=s.heap.update T (kn (·.setIfInBounds 3 uh)) }) (ch:=[ea]) I1 (λb y=>by rw[Ea.mp y];exact l.hn) (λb y=>by rw[Ea.mp y];exact l.le) (λb y=>by simp_all) (λb y=>by grind)
   (λb o y L e=>k b o y (λz=>L (by simp[z])) e) λb o y L e=>sl b o y (λz=>L (by simp[z])) e
  refine q h' J ⟨⟨Y,za,g1,c1.trans L,c2.trans ja,c3,.inr ⟨T',Z,xa,c4,?_,g2,c5,c6,I1.hok.fresh R,Jb I1.sz R,λp hp z=>?_⟩⟩,l.hn,l.le,l.pn⟩
  ·exact λz=>absurd (Nc va) (Ub.mpr (z ▸ R))
  ·exact absurd (Nc (I1.pin p (by simp_all)).1) (Ub.mpr (z ▸ R))
def ed  (P:Ib)(w:ib):Vn:=λy H s E e z=>∃(F:Aa) (H':Hp) (cls:Ba) (dx:Option Aa),e=.ref F/\z.os=s.os/\re z.gens/\Un (uf y) [] H H' s.heap z.heap/\Md P w H' z.heap/\Lies s.heap.objs.size [] H' z.heap F cls dx/\E cls dx H'

def ed.back  {Z: St}(I:La X pins Z H s)(h:ed X.prog X.w X.stack H s E e s'):∃(F:Aa) (H':Hp) (cls:Ba) (J:Option Aa),e=.ref F/\La X pins Z H' s'/\Lies X.s₀.heap.objs.size X.pn H' s'.heap F cls J/\E cls J H':=by
 obtain⟨F,H',cls,J,rfl,os,bare,un,L,l,q⟩:=h;have R:∀b,s.heap.objs.size<=b->∀p∈X.pn,p.1≠b:=λb hb p hp z=>absurd (Nc (I.pin p (nk _ hp)).1) (Ub.mpr (z ▸ hb));refine⟨F,H',cls,J,rfl,I.call' (ch:=[]) os un L bare (λb z=>absurd z (by simp)),⟨?_,l.hn,Jb I.sz l.le,R F l.le⟩,q⟩
 obtain⟨oe,vs,he,hc,O,hd,ht⟩:=l.ob;refine⟨oe,vs,he,hc,O,hd,ht.imp id ?_⟩;rintro⟨T,oT,ts,h1,h2,h3,h4,h5,h6,Y,_⟩;exact⟨T,oT,ts,h1,h2,h3,h4,h5,h6,Jb I.sz Y,R T Y⟩
end L2

namespace L2
open PySem PySem.Spec PyProof.Rows PySem.W
open Builtin Builtin.ObjectAttr
section
variable {M:Mt}{A:Kb}{E:Ba->Da->Prop}{h:Va}{g:Array GenState}{d:Drawn}{t:Nat}{os:ie}
variable {nm q:Str}{C N D:Aa}{bs bmB:List Ba}{hdct:Bool}{sn:List Str}{sub:List Ba}{ab:Bool}{col:Option Bool}{dd:Option Aa}{k0 k1 k2 k3 k5:Option Ba}{B newId:String}{mN mD:Str->Option Ba}{name:Str}
structure Sc (h:Va)(C N D:Aa)(mN mD:Str->Option Ba)(bmB:List Ba)(newId:String):Prop where
 cls:∃nm q bs sn sub ab col dd k0 k1 k2 k3 k5,h.get? C=ca (vn nm q C N bs (.ref D::bmB) da sn sub ab col dd k0 k1 k2 k3 k5 newId)
 ns:h.Ns N mN
 low:∃c0 dd cd sl,h.get? D=ca { cls:=c0,dict:=dd,data:=.cls cd,slots:=sl }/\h.Ns cd.ns mD
def Sc.keeps  {h':Va}(T:Sc h C N D mN mD bmB newId)(k:∀b o,h.get? b=ca o->h'.get? b=ca o):Sc h' C N D mN mD bmB newId:=by
 obtain⟨⟨nm,q,bs,L,I,ab,F,J,R,O,Z,k3,Y,e⟩,n,c0,z,cd,sl,e2,n2⟩:=T;exact⟨⟨nm,q,bs,L,I,ab,F,J,R,O,Z,k3,Y,k _ _ e⟩,n.keeps k,c0,z,cd,sl,k _ _ e2,n2.keeps k⟩
def Sc.look    (T:Sc h C N D mN mD bmB newId)(hB:Bf (.type B) name=pure y)(R:mroOf (.type B)=pure bmB)(F:mN name=la)(z:mD name=la)(J:Q y ⟨h,g,d,t,os⟩) :
  wpAny M A (Bf (.ref C) name) Q E ⟨h,g,d,t,os⟩:=by
 obtain⟨⟨nm,q,bs,sn,I,ab,Z,dd,k0,k1,k2,k3,k5,e⟩,n,c0,Y,cd,sl,O,n2⟩:=T;have L:Ql bmB name=pure y:=by rw[cB,R]at hB;exact hB
 rw[cB];refine db (DB e ?_);rw[HB];refine db (wpAny_classOwn_exc e n ?_);rw[F];show wpAny M A (Ql (.ref D::bmB) name) Q E _;rw[HB];refine db (wpAny_classOwn_cls O n2 ?_);rw[z];show wpAny M A (Ql bmB name) Q E _;rw[L];exact Zb J
def Sc.own    (T:Sc h C N D mN mD bmB newId)(F:mN name=ca v)(J:Q (ca v) ⟨h,g,d,t,os⟩):wpAny M A (Bf (.ref C) name) Q E ⟨h,g,d,t,os⟩:=by
 obtain⟨⟨nm,q,bs,O,I,ab,z,L,Y,R,k2,k3,Z,e⟩,n,_⟩:=T;rw[cB];refine db (DB e ?_);rw[HB];refine db (wpAny_classOwn_exc e n ?_);rw[F];exact Zb J
end
section
variable {prog:Ib}{w:ib}{A:Kb}{E:Ba->Da->Prop}{h:Va}{g:Array GenState}{d:Drawn}{t:Nat}{os:ie}
variable {C N D x:Aa}{bmB:List Ba}{B newId sa owner:String}{mN mD mA:Str->Option Ba}{name:Str}{v:Ba}
def Sc.check      (T:Sc h C N D mN mD bmB newId)(J:Zm B bmB sa owner)(Z:h.get? x=ca o)(hc:o.cls=.ref C)(O:Q () ⟨h,g,d,t,os⟩) :
  wpAny M A (Ow sa ⟨[.ref x,F,v],[]⟩) Q E ⟨h,g,d,t,os⟩:=by
 obtain⟨⟨nm,q,bs,sn,xa,ab,Y,dd,k0,k1,k2,k3,k5,e⟩,_⟩:=T;have R:(Ae C::.ref D::bmB).contains (.type owner)=da:=by rw[xn,xn,J.hasOwner,wn,wn]
 have L:wpAny M A (match xL sa with|some I=>Bind.checkArgs sa I ⟨[.ref x,F,v],[]⟩|_=>pure ()) Q E ⟨h,g,d,t,os⟩:=by
  have ok:=J.args (.ref x) F v;unfold argsOk at ok;generalize xL sa=z at ok ⊢;cases z with
  |some I=>exact Nl ok O
  |none=>exact Zb O
 unfold Ow;rw[J.kind,J.split];refine db (m:=zw _ _) ?_;unfold zw
 repeat (first|(with_reducible refine Af Z ?_;rw[hc])|(with_reducible refine Tp e ?_;rw[R])|wp_step)
 exact L
def Sc.tail  (T:Sc h C N D mN mD bmB newId)(F:mD "__init__" = la):OwnTail h bmB (.ref D::bmB):=by
 obtain⟨_,_,c0,z,O,L,I,J⟩:=T;exact .own I J F .base
def Sc.made   {rest:List Ba}{Q:Fin->Da->Prop}(T:Sc h C N D mN mD bmB newId)(F:Fw B newId I bmB)(hD:mD "__init__" = la)(hi:mN "__init__" = ca (.ref Z))(O:h.get? Z=ca oI)(L:oI.cls=.type "function")(hr:rest.length<=Wa)
  (hq:∀h' e,Va.MadeExcOf h h' e (.ref C) rest->h.objs.size<=e->wpAny (Fa prog w) A (call (.ref Z) (.ref e::rest)) (λr s'=>r=.none/\Q (.done (.ret (.ref e))) s') E ⟨h',g,d,t,os⟩) :
  wpAny (Fa prog w) A (Mb.«type.__call__» ⟨.ref C::rest,[]⟩) Q E ⟨h,g,d,t,os⟩:=by
 have R:=T.tail hD;obtain⟨nm,q,bs,sn,xa,ab,za,dd,k0,k1,k2,k3,k5,e⟩:=T.cls
 repeat (first|with_reducible refine Af e ?_|with_reducible refine wpAny_madeBy_exc e ?_|wp_step)
 refine codeAny_call_builtin_code (PK _ F.quiet) (wpAny_check_new_subT F R e (codeAny_exc_new_subT F R e ?_ hr));show wpAny _ _ _ _ _ _;generalize J:(h.push { cls:=.type "tuple",data:=.seq rest.toArray }).push { cls:=.ref C,data:=.fields #[.ref h.objs.size,.none,.none,.none,.bool ia,.none] }=h1;have k:∀b o,h.get? b=ca o->h1.get? b=ca o:=λb o z=>by rw[<- J];exact Uc _ (Uc _ z)
 have T1:=T.keeps k;have Y:h1.get? (h.objs.size+1)=ca { cls:=.ref C,data:=.fields #[.ref h.objs.size,.none,.none,.none,.bool ia,.none] }:=by rw[<- J];heap_get
 have g2:h1.get? h.objs.size=ca { cls:=.type "tuple",data:=.seq rest.toArray }:=by rw[<- J];exact Uc _ (FK rfl rfl)
 have hc:(Ae C::.ref D::bmB).contains (.ref C)=da:=by simp
 have e1:=k _ _ e;unfold zw
 repeat (first|with_reducible refine Af Y ?_|(with_reducible refine Tp e1 ?_;rw[hc])|wp_step)
 show wpAny _ _ (Bf (.ref C) _) _ _ _;refine T1.own hi ?_;refine al (db ?_);unfold bindSpecial;refine db (Qs (T := "function") ⟨_,k _ _ O,L⟩ ?_);rw[if_pos (by decide)]
 refine Zb (db (Pe (hq _ (h.objs.size+1) ⟨k,XB (Hw _),h.objs.size,Y,XB (ub _),g2⟩ (Hw _)) (λr s' z=>?_) λ_ _ z=>z));obtain⟨rfl,z⟩:=z
 wp_walk
 exact z
def Sc.make   {rest:List Ba}{Q:Ba->Da->Prop}(T:Sc h C N D mN mD bmB newId)(F:Fw B newId z bmB)(O:mD "__init__" = la)(hi:mN "__init__" = ca (.ref L))(J:h.get? L=ca oI)(I:oI.cls=.type "function")(hr:rest.length<=Wa)
  (Z:∀h' e,Va.MadeExcOf h h' e (.ref C) rest->h.objs.size<=e->wpAny (Fa prog w) (A.under (.builtin "type.__call__" ⟨.ref C::rest,[]⟩)) (call (.ref L) (.ref e::rest)) (λr s'=>r=.none/\Q (.ref e) s') E ⟨h',g,d,t,os⟩) :
  wpAny (Fa prog w) A (call (.ref C) rest) Q E ⟨h,g,d,t,os⟩:=by
 obtain⟨nm,q,bs,sn,Y,ab,xa,dd,k0,k1,k2,k3,k5,e⟩:=T.cls;have f1:=tc_lookup;have f2:=tc_bind (.ref C);have ty:(⟨h,g,d,t,os⟩:Da).TypeIs (.ref C) "type" := ⟨_,e,rfl⟩;refine Ms (codeAny_of_tree ?_);show wpAny _ _ (callAny (.ref C) _) _ _ _
 repeat (any_goals (first|assumption|with_reducible refine Af e ?_|wp_step))
 refine⟨rfl,codeAny_call_builtin_at (PK _ (by decide +kernel)) entry_typeCall (wpAny_check_type_call_sub e (T.made (hr:=hr) F O hi J I λh' R hm hz=>?_))⟩
 exact Z h' R hm hz
structure Reads (B:String)(bmB:List Ba):Prop where
 ga:Slot B "__getattribute__" "BaseException.__getattribute__"
 mro:mroOf (.type B)=pure bmB
 no:Bf (.type B) "__getattr__" = pure la
 has:bmB.contains (.type "BaseException")=da
def Sc.gaCheck      (T:Sc h C N D mN mD bmB newId)(R:Reads B bmB)(L:h.get? x=ca o)(Z:o.cls=.ref C)(Y:Q () ⟨h,g,d,t,os⟩) :
  wpAny M A (Ow "BaseException.__getattribute__" ⟨[.ref x,z],[]⟩) Q E ⟨h,g,d,t,os⟩:=by
 obtain⟨nm,q,bs,sn,O,ab,J,dd,k0,k1,k2,k3,k5,e⟩:=T.cls;have c1:builtinKind "BaseException.__getattribute__" = ca .slot:=by decide +kernel
 have c2:splitId "BaseException.__getattribute__" = ca ("BaseException", "__getattribute__"):=by decide +kernel
 have I:(Ae C::.ref D::bmB).contains (.type "BaseException")=da:=by rw[xn,xn,R.has,wn,wn]
 have ha:=F.args_bexc_ga (.ref x) z;simp only[Ow,c1,c2];refine db ?_;unfold zw
 repeat (first|(with_reducible refine Af L ?_;rw[Z])|(with_reducible refine Tp e ?_;rw[I])|wp_step)
 exact Y
def Sc.gaEntry      (T:Sc h C N D mN mD bmB newId)(R:Reads B bmB)(L:h.get? x=ca o)(J:o.cls=.ref C)(I:∀c,o.data≠.cls c)(hd:o.dict=ca dx)(F:h.Ns dx mA)(hv:mA name=ca v)
  (hB:Bf (.type B) name=pure la) (Y:mN name=la) (n2:mD name=la) (hq:Q (.done (.ret v)) ⟨h,g,d,t,os⟩) :
  wpAny (Fa prog w) A (Mb.«object.__getattribute__» ⟨[.ref x,.str name tk],[]⟩) Q E ⟨h,g,d,t,os⟩:=by
 obtain⟨nm,q,bs,sn,Z,ab,O,dd,k0,k1,k2,k3,k5,e⟩:=T.cls;unfold Mb.«object.__getattribute__»
 repeat (first|(with_reducible refine Af L ?_;rw[J])|(with_reducible refine T.look hB R.mro Y n2 ?_)|wp_step)
 split
 ·rename_i c z;exact absurd z (I c)
 unfold instanceDict
 repeat (first|(with_reducible refine Af L ?_;rw[J])|with_reducible refine Af e ?_|wp_step)
 rw[hd]
 repeat (first|(with_reducible refine wpAny_nsGet F ?_;rw[hv])|wp_step)
 exact hq
def Sc.get      (T:Sc h C N D mN mD bmB newId)(R:Reads B bmB)(J:h.get? x=ca o)(I:o.cls=.ref C)(O:∀c,o.data≠.cls c)(hd:o.dict=ca dx)(L:h.Ns dx mA)(hv:mA name=ca v)(hh:handedOut v=pure v)
  (hB:Bf (.type B) name=pure la) (Z:mN "__getattribute__" = la) (g2:mD "__getattribute__" = la) (a1:mN "__getattr__" = la) (a2:mD "__getattr__" = la) (n1:mN name=la) (n2:mD name=la) (Y:Q v ⟨h,g,d,t+1,os⟩) :
  wpAny (Fa prog w) A (getAttr (.ref x) name z) Q E ⟨h,g,d,t,os⟩:=by
 have f3:=R.ga.bind (.ref x);have c0:(z&&onTheHeap (zt "BaseException.__getattribute__"))=ia:=by cases z<;>rfl
 have c2:(zt "BaseException.__getattribute__" == zt "object.__getattribute__")=ia:=by decide +kernel
 have c1:(onTheHeap (Ae C)&&zt "BaseException.__getattribute__" == zt "object.__getattribute__")=ia:=by rw[c2];rfl
 unfold getAttr
 repeat (any_goals (first|assumption|(with_reducible refine Af J ?_;rw[I])|(with_reducible refine T.look R.ga.lookup R.mro Z g2 ?_)|(with_reducible refine T.look R.no R.mro a1 a2 ?_)|wp_step))
 refine mC R.ga.plain F.entry_bexc_ga (T.gaCheck R J I (T.gaEntry R J I O hd L hv hB n1 n2 ?_))
 repeat (any_goals (first|assumption|wp_step))
 all_goals first|exact Y|(rw[hh];exact Zb Y)|skip
def uG {M:Mt}{s:Da}{F:Aa}{tk:Tok}{J:Str->Option Ba}{ns:List Str}{Q:Fin->Da->Prop}(n1:s.heap.Ns1 F J)(O:Within J ns)(Z:ns.length<Wa)
  (hq:∀h' I,h'.Ns1 F (λy=>if y=name then ca v else J y)->Tw F s.heap h'->Q (.done (.ret .none)) { s with heap:=h',toks:=I }) :
  wpAny M A (storeInDict F (.str name tk) name v) Q E s:=by
 refine db (m:=newKeyGuard _ _ _) (Zb (db (wpAny_nsSet1 n1 λh' L sb=>?_)));rcases L.count (Within.cons name v O)with⟨o,es,ep,Y,hd,R⟩;have z:es.size<=Wa:=Jb R (by rw[pj];exact Z)
 refine db (wpAny_lookBehind Y (hd ▸ pastItsLine_dict (Nat.le_succ_of_le z)) ?_);exact Zb (hq h' _ L sb)
def Sc.put     {ns:List Str}(T:Sc h C N D mN mD bmB newId)(SF:Zm B bmB sa owner)(n1:mN name=la)(n2:mD name=la)(hB:Bf (.type B) name=pure la)(O:h.get? x=ca o)(hc:o.cls=.ref C)(xa:∀c,o.data≠.cls c)
  (hd:(o.dict=la/\∀n,mA n=la)\/∃F,o.dict=ca F/\F≠x/\h.Ns1 F mA) (hw:Within mA ns) (hl:ns.length<Wa)
  (hq:∀h' I F,(o.dict=ca F\/(o.dict=la/\F=h.objs.size))->F≠x->h'.get? x=ca { o with dict:=ca F }->h'.Ns1 F (λy=>if y=name then ca v else mA y)->(∀b u,b≠x->b≠F->h.get? b=ca u->h'.get? b=ca u)->Q (.done (.ret .none)) ⟨h',g,d,I,os⟩) :
  wpAny (Fa prog w) A (Mb.«object.__setattr__» ⟨[.ref x,.str name tk,v],[]⟩) Q E ⟨h,g,d,t,os⟩:=by
 obtain⟨nm,q,bs,sn,za,ab,ja,dd,k0,k1,R,k3,k5,e⟩:=T.cls;have ps:=SF.passes (.ref x);unfold Mb.«object.__setattr__»
 repeat (first|rw[refuse_eq]|(rw[refuseLoop_ref,refuseLoop_ref,ps])|(with_reducible refine Af O ?_;rw[hc])|with_reducible refine DB e ?_|(with_reducible refine T.look hB SF.mro n1 n2 ?_)|with_reducible refine Af e ?_|wp_step)
 rcases hd with⟨dn,ma⟩|⟨F,de,dne,dns⟩
 ·rw[dn,if_neg (by simp[typeHasDict])]
  split
  ·rename_i z;cases z
  split
  ·rename_i c z;exact absurd z (xa c)
  ·have Z:x≠h.objs.size:=dg (Nc O);have x1:=Uc { cls:=.type "dict",data:=.dict #[] } O;refine db (wpAny_alloc' (db (wpAny_update' x1 (Zb ?_))));have fr:({ cls:=o.cls,dict:=ca h.objs.size,data:=o.data,slots:=o.slots }:Obj).isFreed=ia:=by
    have:=(Va.get?_some_iff.mp O).2;obtain⟨c1,c2,c3,c4⟩:=o;cases c3<;>first|rfl|exact this
   have x2:=cx (λo=>({ cls:=o.cls,dict:=ca h.objs.size,data:=o.data,slots:=o.slots }:Obj)) x1 fr;have d2:((h.push { cls:=.type "dict",data:=.dict #[] }).update x λo=>{ cls:=o.cls,dict:=ca h.objs.size,data:=o.data,slots:=o.slots }).get? h.objs.size=ca { cls:=.type "dict",data:=.dict #[] }:=(tK _ _ _ _ Z.symm).trans (FK rfl rfl);have R:∀b u,b≠x->h.get? b=ca u->((h.push { cls:=.type "dict",data:=.dict #[] }).update x λo=>{ cls:=o.cls,dict:=ca h.objs.size,data:=o.data,slots:=o.slots }).get? b=ca u:=λb u z e=>(tK _ _ _ _ z).trans (Uc _ e);generalize ((h.push { cls:=.type "dict",data:=.dict #[] }).update x λo=>{ cls:=o.cls,dict:=ca h.objs.size,data:=o.data,slots:=o.slots })=h2 at x2 d2 R ⊢;have nd:h2.Ns h.objs.size (λ_=>la):=⟨_,#[],_,d2,rfl,λe he=>absurd he (by simp),λ_=>rfl⟩
   refine uG (Va.Ns1.of_empty nd) Within.nil (Nat.zero_lt_of_lt hl) λh' I J L=>?_;refine hq h' I h.objs.size (.inr ⟨dn,rfl⟩) Z.symm ((L.2 x Z).trans x2) ?_ λb u z1 Y z=>(L.2 b Y).trans (R b u z1 z);obtain⟨o',es,ep,e1,e2,e3,eu,e4⟩:=J;exact⟨o',es,ep,e1,e2,e3,eu,λy=>by rw[e4 y];by_cases hy:y=name<;>simp[hy,ma]⟩
 ·rw[de];refine Zb (uG dns hw hl λh' I J L=>?_);refine hq h' I F (.inl de) dne ?_ J λb u z1 Y z=>(L.2 b Y).trans z;rw[L.2 x dne.symm,O,<- de]
def Sc.set    {ns:List Str}(T:Sc h C N D mN mD bmB newId)(F:Zm B bmB sa owner)(s1:mN "__setattr__" = la)(s2:mD "__setattr__" = la)(n1:mN name=la)(n2:mD name=la)(hB:Bf (.type B) name=pure la)(L:h.get? x=ca o)(J:o.cls=.ref C)(O:∀c,o.data≠.cls c)
  (hd:(o.dict=la/\∀n,mA n=la)\/∃z,o.dict=ca z/\z≠x/\h.Ns1 z mA) (R:Within mA ns) (Z:ns.length<Wa)
  (hq:∀h' I z,(o.dict=ca z\/(o.dict=la/\z=h.objs.size))->z≠x->h'.get? x=ca { o with dict:=ca z }->h'.Ns1 z (λy=>if y=name then ca v else mA y)->(∀b u,b≠x->b≠z->h.get? b=ca u->h'.get? b=ca u)->Q () ⟨h',g,d,I,os⟩) :
  wpAny (Fa prog w) A (setAttr (.ref x) name v) Q E ⟨h,g,d,t,os⟩:=by
 have f3:=F.slot.bind (.ref x);unfold setAttr callSpecial? specialOf
 repeat (any_goals (first|assumption|(with_reducible refine Af L ?_;rw[J])|(with_reducible refine T.look F.slot.lookup F.mro s1 s2 ?_)|wp_step))
 refine mC F.slot.plain F.entry (T.check F L J (T.put F n1 n2 hB L J O hd R Z λh' I z z1 z2 z3 z4 Y=>?_))
 repeat (any_goals (first|assumption|wp_step))
 exact hq h' I z z1 z2 z3 z4 Y
end
def JJ  : Reads "ValueError" [.type "ValueError",.type "Exception",.type "BaseException",.type "object"] where
 ga:=.of (owner := "BaseException") (n := "__getattribute__") (by rw[Lp,Vp];kernel_rfl) (by decide +kernel) (by decide +kernel) (by decide +kernel)
  (by first|exact .inl (by decide +kernel)|exact .inr (by decide +kernel)) (by rw[isSubtype_type];kernel_rfl)
 mro:=by kernel_rfl
 no:=by rw[Lp,Vp];kernel_rfl
 has:=by decide

def La.sooner  {F: St}(I:La X pins F H s)(k:∀b o,sb.heap.get? b=ca o->X.s₀.heap.get? b=ca o)(O:sb.os=X.s₀.os)(J:sb.heap.objs.size<=X.s₀.heap.objs.size)(L:∀b o,X.base.get? b=ca o->sb.heap.get? b=ca o/\X.H₀ b=la)(z:X.base.objs.size<=sb.heap.objs.size)(R:sb.heap.FunFrames X.base X.outer) :
  La { X with s₀:=sb } pins F H s:=by
 refine⟨⟨I.ok.mod,I.ok.kind,I.ok.glob,I.ok.blt,Jb J I.ok.above,I.ok.inj,I.ok.has,λx c h e=>Jb J (I.ok.cab x c h e),I.ok.hd,I.ok.frames,I.ok.stk,I.ok.exf,L,z,I.ok.noex,I.ok.exfs,R,I.ok.frf⟩,I.os.trans O.symm,I.bare,(Un.kept k).trans I.base,I.loc,I.cell,I.free,I.freeC,I.pin,I.hok,I.len⟩
def La.xput  {σ: St}{e F:Aa}(I:La X pins σ H s)(hH:H e=la)(xa:X.s₀.heap.objs.size<=e)(ge:s.heap.get? e=ca oe)(gd:oe.data=.fields vs)(hp:∀p∈X.pn++pins,p.1≠e)
  (Y:s.heap.objs.size<=F\/∃J,H F=ca (.xd J)) (k:∀b u,b≠e->b≠F->s.heap.get? b=ca u->h'.get? b=ca u) (new:Sd X.prog X.w (upd H F (.xd fs)) h' F (.xd fs)):La X pins σ (upd H F (.xd fs)) { s with heap:=h',toks:=t' }:=by
 have nt:∀b o,s.heap.get? b=ca o->H b=la->b≠F:=λb o g n z=>by
  rcases Y with q|⟨J,q⟩
  ·rw[z]at g;exact absurd (Nc g) (Ub.mpr q)
  ·rw[z,q]at n;cases n
 have ne:∀b u,H b=ca u->b≠e:=λb u g z=>by rw[z,hH]at g;cases g
 have O:∀b u,H b=ca u->(∀f0,u≠.xd f0)->b≠F:=λb u g hu z=>by
  rcases Y with q|⟨J,q⟩
  ·rw[z,I.hok.fresh q]at g;cases g
  ·rw[z,q]at g;cases g;exact hu J rfl
 obtain⟨od,za⟩:∃o,h'.get? F=ca o:=by obtain⟨_,⟨o,_,_,z,_⟩,_⟩:=new;exact⟨o,z⟩
 obtain⟨m0,⟨oL,ja,ya,gL,rL⟩,va⟩:=id I.loc;have R:X.env.locals≠e:=λz=>by
  rw[z,ge]at gL;cases gL;have:=rL.1;rw[gd]at this;cases this
 refine I.step (g':=s.gens) (d':=s.drawn) (ch:=[e]) (λb hb=>?_) (λb o _ _ L g n=>k b o (λz=>L (by simp[z])) (nt b o g n) g) (λb o _ _ L g n=>⟨o.slots,k b o (λz=>L (by simp[z])) (nt b o g n) g⟩) (λb o _ g n=>by rw[Ac (nt b o g n)];exact n)
  (λb o L g=>?_) (λb ys g=>by rw[Ac (O b _ g λ_ z=>nomatch z)];exact g) (λb o u g=>by rw[Ac (O b _ g λ_ z=>nomatch z)];exact g) (λb ps g=>⟨#[],by rw[Ac (O b _ g λ_ z=>nomatch z),g];simp⟩) (λm hm=>?_) (λa o g=>?_) I.bare
 ·have z:b=e:=by simpa using hb
  subst z;refine⟨.inr xa,Ua R,λx c q z=>?_,hp⟩;obtain⟨v,o',Z,L⟩:=I.cell x c q;rw[z,ge]at Z;cases Z;rw[gd]at L;cases L
 ·by_cases z:b=F
  ·exact⟨od,z ▸ za⟩
  ·exact⟨o,k b o (λz=>L (by simp[z])) z g⟩
 ·obtain⟨o,es,ep,Z,r⟩:=hm;exact⟨o,es,ep,k _ o R (nt _ o Z I.free) Z,r⟩
 ·by_cases z:a=F
  ·subst z;rw[Xe]at g;cases g;exact new
  ·rw[Ac z]at g;refine(I.hok a o g).stay (λb v hb q=>?_) (λb q=>by rw[Ac (O b _ q λ_ z=>nomatch z)];exact q) λb ys q=>by rw[Ac (O b _ q λ_ z=>nomatch z)];exact q
   rcases hb with z'|z'
   ·subst z';exact k b v (ne b _ g) z q
   ·exact k b v (ne b _ z') (O b _ z' λ_ z=>nomatch z) q
theorem xG   : ∀{fs:List (Str×V)},g∉fs.map (·.1)->fs.lookup g=la
 |[],_=>rfl
 |(a,v)::r,h=>by
  rw[oi];have:(g==a)=ia:=by
   rw[beq_eq_false_iff_ne];exact λz=>h (by rw[z];simp)
  rw[this];exact xG λz=>h (by simp at z ⊢;exact .inr z)
def xset  {σ: St}(I:La X pins σ H s)(T:Sc s.heap C N D mN mD bmB newId)(SF:Zm B bmB sa owner)
  (s1:mN "__setattr__" = la) (s2:mD "__setattr__" = la) (n1:mN f=la) (n2:mD f=la) (hB:Bf (.type B) f=pure la) (hH:H e=la) (za:X.s₀.heap.objs.size<=e) (ge:s.heap.get? e=ca oe) (hc:oe.cls=.ref C) (gd:oe.data=.fields vs) (hp:∀p∈X.pn++pins,p.1≠e)
  (hd:(oe.dict=la/\fs=[])\/∃F,oe.dict=ca F/\H F=ca (.xd fs)) (hl:fs.length<1000) (ru:RelV v u)
  (q:∀s' F,La X pins σ (upd H F (.xd (putF f v fs))) s'->s'.heap.get? e=ca { oe with dict:=ca F }->(∀b u,b≠e->b≠F->s.heap.get? b=ca u->s'.heap.get? b=ca u)->(oe.dict=ca F\/(oe.dict=la/\H F=la))->Q () s') :
  wpAny (Fa X.prog X.w) A (setAttr (.ref e) f u) Q E s:=by
 have nc:∀c,oe.data≠.cls c:=λc z=>by rw[gd]at z;cases z
 have Z:∀(mA:Str->Option Ba) (L:Va) (tk:Nat) (F:Aa),(∀g,RelO (fs.lookup g) (mA g))->(s.heap.objs.size<=F\/∃xa,H F=ca (.xd xa))->(oe.dict=ca F\/(oe.dict=la/\H F=la))->L.get? e=ca { oe with dict:=ca F }->L.Ns1 F (λy=>if y=f then ca u else mA y)->(∀b u,b≠e->b≠F->s.heap.get? b=ca u->L.get? b=ca u)->Q () { s with heap:=L,toks:=tk }:=λmA L tk F r z0 J z2 z3 Y=>by
  refine q _ F (I.xput hH za ge gd hp z0 Y ⟨_,z3,λg=>?_⟩) z2 Y J;rw[EH];by_cases R:g=f
  ·rw[if_pos R,if_pos R];exact ru
  ·rw[if_neg R,if_neg R];exact r g
 obtain⟨hh,gg,dr,tk,os⟩:=s;rcases hd with⟨dn,rfl⟩|⟨F,de,hx⟩
 ·refine T.set (mA:=λ_=>la) (ns:=[]) SF s1 s2 n1 n2 hB ge hc nc (.inl ⟨dn,λ_=>rfl⟩) Within.nil (by rw[Pi];decide) λL O F J z2 z3 Y z5=>?_
  rcases J with J|⟨_,rfl⟩
  ·rw[dn]at J;cases J
  ·exact Z (λ_=>la) L O _ (λg=>Ph) (.inl (ub _)) (.inr ⟨dn,I.hok.fresh (ub _)⟩) z3 Y z5
 ·obtain⟨mA,n,r⟩:=(show Sd X.prog X.w H hh F (.xd fs)from I.hok F _ hx);refine T.set (mA:=mA) (ns:=fs.map (·.1)) SF s1 s2 n1 n2 hB ge hc nc (.inr ⟨F,de,λz=>(by rw[z,hH]at hx;cases hx),n⟩) (λg R=>?_) (by rw[Bc,Pi];lia) λL O ja J z2 z3 Y z5=>?_
  ·refine Classical.byContradiction λz=>R ?_;have:=r g;rw[xG z]at this;exact RelO.none_of this
  ·rcases J with J|⟨J,_⟩
   ·have z:ja=F:=by rw[de]at J;exact(Te J).symm
    subst z;exact Z _ L O _ r (.inr ⟨fs,hx⟩) (.inl de) z3 Y z5
   ·rw[de]at J;cases J
def xstep  {O: St}{C N D e:Aa}{f self a:Str}{v:V}{vs:Array Ba}{i j:Nat}(I:La X [(e,oe)] O H s)(za:X.pn=[])(T:Sc X.base C N D mN mD bmB newId)(SF:Zm B bmB sa owner)
  (s1:mN "__setattr__" = la) (s2:mD "__setattr__" = la) (n1:mN f=la) (n2:mD f=la) (hB:Bf (.type B) f=pure la) (ka:X.s₀.heap.objs.size<=e) (hc:oe.cls=.ref C) (gd:oe.data=.fields vs) (hd:(oe.dict=la/\fs=[])\/∃F,oe.dict=ca F/\H F=ca (.xd fs)) (hl:fs.length<1000)
  (hs:PE X (.Name self p1) (tVar i)) (ha:PE X (.Name a p3) (tVar j)) (hi:O[i]?=ca (ca (.ref e))) (hj:O[j]?=ca (ca v)) (xa:ii (.Name a p3) (ca (.Attribute (.Name self p1) f p2)) pos.line X.env=pure ia)
  (q:∀s' F,La X [(e,{ oe with dict:=ca F })] O (upd H F (.xd (putF f v fs))) s'->(oe.dict=ca F\/(oe.dict=la/\H F=la))->Q .next s') :
  wpAny (Fa X.prog X.w) X.A (exec (.Assign [.Attribute (.Name self p1) f p2] (.Name a p3) pos) X.env) Q X.xe s:=by
 refine plainObj_wpAny_Assign_Attribute (Db (ha _ s O H (λy Y=>y=v/\Y=H) I ⟨v,hj,rfl,rfl⟩) λu s3 ⟨y,Y,I1,ry,hy,va⟩=>?_) xa;subst hy;subst va;refine Db (hs _ s3 O Y (λz Z=>z=.ref e/\Z=Y) I1 ⟨_,hi,rfl,rfl⟩) λov s4 ⟨z,Z,I2,rz,hz,ja⟩=>?_;subst hz;subst ja;obtain rfl:ov=Ae e:=rz;obtain⟨ge,hH,hL,ya,xb⟩:=I2.pin (e,oe) (by simp)
 have J:La X [] O Z s4:=I2.pins_of λp R=>absurd R (by simp)
 refine xset J (T.keeps I2.bk) SF s1 s2 n1 n2 hB hH ka ge hc gd (λp R=>by rw[za]at R;simp at R) hd hl ry λs5 F J5 g5 k5 L=>?_
 refine q s5 F (J5.pins_of λp R=>?_) L;obtain rfl:p=(e,{ oe with dict:=ca F }):=by simpa using R
 refine⟨g5,?_,hL,ya,λv z=>xb v z⟩;show upd Z F _ e=la;rw[Ac,hH];rintro rfl;rcases L with L|L
 ·rcases hd with⟨w0,_⟩|⟨dx',w1,w2⟩
  ·rw[w0]at L;cases L
  ·rw[w1]at L;cases L;rw[hH]at w2;cases w2
 ·have:=J5.free;obtain⟨_,_,_⟩:=J5.hok e _ Xe;rename_i mA n r;obtain⟨o',es,ep,g',d',_⟩:=n;rw[g5]at g';cases g';rw[show({ oe with dict:=ca e }:Obj).data=oe.data from rfl,gd]at d';cases d'
def gT {CX:Vn}{P:Ib}{w:ib}{K:Hb}{mg:Str->Option Ba}{base:Va}{k:Nat}{f:Aa}{name qual:Str}{params:ww}{body:List Pa}{scope:Cc}{dV kV O pm F ct oc:Ba}{an od:Option Aa}{Y:Array (Option Ba)}{N ps:List Str}
  {A:Kb} {outer:List Env} {s sb:Da} {H:Hp} {E:XK} {args:Args} {us:List Ba} {vs:List V} {e:Aa} {oe:Obj} {R:Result->Da->Prop}
  (lk:K.lookup f=ca ⟨oc,od,.func (ah name qual params body scope dV kV O pm an F ct),Y⟩) (Z:Zj K F qual=da) (S:FnScope N ps scope) (hr:Room (k+1) A) (e0:Env0 P w K mg base A outer s H)
  (hb:Jd s (ah name qual params body scope dV kV O pm an F ct) args (ps.zip us)) (r:Vals vs us) (hl:vs.length=ps.length) (ge:s.heap.get? e=ca oe) (hH:H e=la) (ka:∀v,oe.data≠.cell v) (xb:e∉uf outer)
  (kb:∀b o,sb.heap.get? b=ca o->s.heap.get? b=ca o) (xa:sb.os=s.os) (hz:sb.heap.objs.size<=s.heap.objs.size) (va:∀b o,base.get? b=ca o->sb.heap.get? b=ca o/\H b=la) (ja:base.objs.size<=sb.heap.objs.size) (za:sb.heap.FunFrames base outer)
  (J:∀s1,La { cxOf CX P w K mg base N qual scope f F A outer s H E with s₀:=sb } [(e,oe)] (start N vs) H s1->wpAny (Fa P w) (A.deeper (Jc qual scope s.heap.objs.size f F)) (execs body (Jc qual scope s.heap.objs.size f F)) (λfl s'=>fl=.next/\R (.ok (.ret .none)) s') (λ_ _=>False) s1) :
  codeAny (Fa P w) A (.call (.ref f) args) R s:=by
 have KX:K.In s.heap:=e0.mod.kin.keeps λb o z=>(e0.bs b o z).1;have ya:s.heap.NoLimit:=e0.mod.nolimit.keeps λb o z=>(e0.bs b o z).1;have L:∀y∈ps.zip us,scope.names.lookup y.1=ca .local\/(scope.names.lookup y.1=ca .cell/\((Gf (s.heap.objs.size+1) scope.names []).lookup y.1).isSome=da):=λ⟨n,v⟩ hy=>by
  rcases S.par n (Np hy).1 with q|q
  ·exact .inl q
  ·exact .inr ⟨q,sx _ _ _ (.inl q)⟩
 refine qC hr.depth (KX _ _ lk) rfl S.co S.gen rfl (VB KX Z) (hb _ _ _ _ ?_);refine EC S.kind L λzb he s1 x=>?_;subst he;refine⟨ya.keeps x.toInCall.keep,pB ?_⟩;have I:La (cxOf CX P w K mg base N qual scope f F A outer s H E) [] (start N vs) H s1:=Iz S hr.hd e0 hl r x;have I1:La { cxOf CX P w K mg base N qual scope f F A outer s H E with s₀:=sb } [] (start N vs) H s1:=I.sooner kb xa hz va ja za
 have I2:La { cxOf CX P w K mg base N qual scope f F A outer s H E with s₀:=sb } [(e,oe)] (start N vs) H s1:=I1.pins_of λp hp=>by
  obtain rfl:p=(e,oe):=by simpa using hp
  exact⟨x.toInCall.keep _ _ ge,hH,dg (Nc ge),xb,ka⟩
 refine Pe (J s1 I2) (λfl s' ⟨z,h⟩=>?_) λ_ _ z=>z.elim;subst z;exact h

def Qr  (X:Cx)(C:Aa)(s:Da)(H:Hp)(Nm:List Str)(qual:Str)(scope:Cc)(z:Aa)(y:Ba)(body:List Pa)(vs:List V)(fs:List (Str×V)):Prop:=
 ∀(I:Kb) (sM s1:Da) (e t:Aa),La { cxOf (ed X.prog X.w) X.prog X.w X.K X.mg X.base Nm qual scope z y I X.stack sM H (λ_ _ _=>False)with s₀:=s } [(e,{ cls:=.ref C,data:=.fields #[.ref t,.none,.none,.none,.bool ia,.none] })] (start Nm (.ref e::vs)) H s1->s.heap.objs.size<=e->
  wpAny (Fa X.prog X.w) (I.deeper (Jc qual scope sM.heap.objs.size z y)) (execs body (Jc qual scope sM.heap.objs.size z y)) (λfl J=>fl=.next/\∃F,H F=la/\La { cxOf (ed X.prog X.w) X.prog X.w X.K X.mg X.base Nm qual scope z y I X.stack sM H (λ_ _ _=>False)with s₀:=s } [(e,{ cls:=.ref C,dict:=ca F,data:=.fields #[.ref t,.none,.none,.none,.bool ia,.none] })] (start Nm (.ref e::vs)) (upd H F (.xd fs)) J) (λ_ _=>False) s1
def xmake  {σ: St}{dV kV xa pm y ct:Ba} 
  (I:La X pins σ H s) (T:Sc X.base C N D mN mD bmB newId) (F:Fw B newId za bmB) (hD:mD "__init__" = la) (hi:mN "__init__" = ca (.ref fI)) (lk:X.K.lookup fI=ca ⟨.type "function",od,.func (ah name qual params body scope dV kV xa pm an y ct),ya⟩) (ja:Zj X.K y qual=da) (S:FnScope Nm ps scope) (hr:Room (k+2) X.A)
  (hb:Binds X.K (ah name qual params body scope dV kV xa pm an y ct) ps []) (r:Vals vs us) (hl:vs.length+1=ps.length) (hz:us.length<=Wa) (O:Qr X C s H Nm qual scope fI y body vs fs)
  (q:∀e L s',H L=la->La X pins σ (upd H L (.xd fs)) s'->Lies X.s₀.heap.objs.size X.pn (upd H L (.xd fs)) s'.heap e (.ref C) (ca L)->(∃t,s'.heap.get? e=ca { cls:=.ref C,dict:=ca L,data:=.fields #[.ref t,.none,.none,.none,.bool ia,.none] })->Q (.ref e) s'):wpAny (Fa X.prog X.w) X.A (call (.ref C) us) Q X.xe s:=by
 obtain⟨hh,gg,dr,tk,os⟩:=s;have I0:=I;refine(T.keeps I.bk).make F hD hi (I.kIn _ _ lk) rfl hz λh' e Z R=>?_;obtain⟨t,ge,_,_⟩:=Z.there;have e0:=I.env0.make C us [];have e1:Env0 X.prog X.w X.K X.mg X.base (X.A.under (.builtin "type.__call__" ⟨.ref C::us,[]⟩)) X.stack ⟨h',gg,dr,tk,os⟩ H:=⟨e0.frames,e0.mod,λb o z=>⟨Z.keeps _ _ (e0.bs b o z).1,(e0.bs b o z).2⟩,Jb e0.bsz (fk (Yg R (Nc ge))),e0.funs.of_keeps λb o z _=>⟨o,Z.keeps _ _ z,rfl⟩,e0.frf,e0.hok.kept Z.keeps,e0.bare⟩;have hH:H e=la:=I.hok.fresh R;refine Ms ?_;refine gT (k:=k) (CX:=ed X.prog X.w) (E:=λ_ _ _=>False) (sb:=⟨hh,gg,dr,tk,os⟩) (us:=.ref e::us) (vs:=.ref e::vs) lk ja S (hr.make C us []) e1 ?_ (.cons rfl r) (by simpa using hl) ge hH (λv z=>by cases z) (λz=>?_) Z.keeps rfl (fk (Yg R (Nc ge))) e0.bs e0.bsz e0.funs λs1 J=>?_
 ·have:=hb ⟨h',gg,dr,tk,os⟩ (.ref e::us) (e1.mod.kin.keeps λb o z=>(e1.bs b o z).1) (by simp;have:=r.length;lia)
  simpa using this
 ·obtain⟨_,o,ho,_⟩:=e0.funs.mem z;exact absurd (Nc ho) (Ub.mpr R)
 ·refine Pe (O _ _ s1 e t J R) (λfl s' ⟨z,L,va,Y⟩=>⟨z,rfl,?_⟩) λ_ _ z=>z;have Ix:La X pins σ (upd H L (.xd fs)) s':=I.call' (ch:=[]) Y.os Y.base Y.hok Y.bare λb z=>absurd z (by simp)
  obtain⟨g1,g2,_⟩:=Y.pin _ (Ag _ (Ea.mpr rfl));refine q e L s' va Ix ⟨⟨_,_,g1,rfl,rfl,rfl,.inl rfl⟩,g2,Jb I.sz R,λp hp z=>?_⟩ ⟨t,g1⟩;exact absurd (Nc (I.pin p (nk _ hp)).1) (Ub.mpr (z ▸ R))

def QM  {pos: Pos}{v: V}(T:Sc X.base C N D mN mD bmB newId)(SF:Zm B bmB sa owner)(s1:mN "__setattr__" = la)(s2:mD "__setattr__" = la)(y:mN f=la)(n2:mD f=la)(hB:Bf (.type B) f=pure la)
  (h0:Ai scope self) (F:Ai scope a) (O:(self==("__debug__" : Str))=ia) (R:(a==("__debug__" : Str))=ia) (c0:(self==("__classdict__" : Str))=ia) (c1:(a==("__classdict__" : Str))=ia)
  (Y:∀env,ii (.Name a p3) (ca (.Attribute (.Name self p1) f I)) pos.line env=pure ia) :
  Qr X C s H [self,a] qual scope fI xa [.Assign [.Attribute (.Name self p1) f I] (.Name a p3) pos] [v] [(f,v)]:=by
 intro A' sM za e t J he;have L:=J.wish λ_ _=>False;refine On (xstep (X:=Cx.wish _ λ_ _=>False) (i:=0) (j:=1) (fs:=[]) L rfl T SF s1 s2 y n2 hB he rfl rfl (.inl ⟨rfl,rfl⟩) (by decide) (Ji rfl h0 O c0) (Ji rfl F R c1) rfl rfl (Y _) λs' Z K z=>?_)
 refine Zb ⟨rfl,Z,?_,K.unwish⟩;rcases z with z|z
 ·cases z
 ·exact z.2
def SM  {L: Str}{scope: Cc}{za: Ba}{p1: Pos}{p2: Pos}{p3: Pos}{pos: Pos}{q1: Pos}{q2: Pos}{q3: Pos}{R: Pos}{v: V}{I: V}(T:Sc X.base C N D mN mD bmB newId)(SF:Zm B bmB sa owner)(s1:mN "__setattr__" = la)(s2:mD "__setattr__" = la)(n1:mN f=la)(n2:mD f=la)(hB:Bf (.type B) f=pure la)(m1:mN F=la)(m2:mD F=la)(Z:Bf (.type B) F=pure la)(xa:f≠F)
  (h0:Ai scope self) (h1:Ai scope a) (h2:Ai scope L) (d0:(self==("__debug__" : Str))=ia) (d1:(a==("__debug__" : Str))=ia) (d2:(L==("__debug__" : Str))=ia) (c0:(self==("__classdict__" : Str))=ia) (c1:(a==("__classdict__" : Str))=ia) (c2:(L==("__classdict__" : Str))=ia)
  (sw:∀env,ii (.Name a p3) (ca (.Attribute (.Name self p1) f p2)) pos.line env=pure ia) (sw2:∀env,ii (.Name L q3) (ca (.Attribute (.Name self q1) F q2)) R.line env=pure ia) :
  Qr X C s H [self,a,L] qual scope fI za [.Assign [.Attribute (.Name self p1) f p2] (.Name a p3) pos,.Assign [.Attribute (.Name self q1) F q2] (.Name L q3) R] [v,I] [(f,v),(F,I)]:=by
 intro A' sM va e t J he;have J':=J.wish λ_ _=>False;refine On (xstep (X:=Cx.wish _ λ_ _=>False) (i:=0) (j:=1) (fs:=[]) J' rfl T SF s1 s2 n1 n2 hB he rfl rfl (.inl ⟨rfl,rfl⟩) (by decide) (Ji rfl h0 d0 c0) (Ji rfl h1 d1 c1) rfl rfl (sw _) λs' dx K z=>?_)
 have hn:H dx=la:=by
  rcases z with z|z
  ·cases z
  ·exact z.2
 refine On (xstep (X:=Cx.wish _ λ_ _=>False) (i:=0) (j:=2) (fs:=[(f,v)]) K rfl T SF s1 s2 m1 m2 Z he rfl rfl (.inr ⟨dx,rfl,Xe⟩) (by simp) (Ji rfl h0 d0 c0) (Ji rfl h2 d2 c2) rfl rfl (sw2 _) λja y K2 O=>?_)
 have e1:y=dx:=by
  rcases O with O|O
  ·exact(Te O).symm
  ·exact nomatch O.1
 subst e1;have K3:=K2.unwish;have e2:putF F I [(f,v)]=[(f,v),(F,I)]:=by show(if f=F then _ else _)=_;rw[if_neg xa];rfl
 have e3:upd (upd H y (.xd (putF f v []))) y (.xd (putF F I [(f,v)]))=upd H y (.xd [(f,v),(F,I)]):=by
  rw[e2];funext b;by_cases Y:b=y
  ·rw[Y,Xe,Xe]
  ·rw[Ac Y,Ac Y,Ac Y]
 rw[e3]at K3;exact Zb ⟨rfl,y,hn,K3⟩
section
variable {M:Mt}{A:Kb}{E:Ba->Da->Prop}{env:Env}{C N D:Aa}{bmB:List Ba}{newId:String}{mN mD:Str->Option Ba}
def Sc.raise     (F:bmB.contains (.type "BaseException")=da)(R:A.handled=la)
  (h:wpAny M A x (λv s1=>∃e t J,v=.ref e/\Sc s1.heap C N D mN mD bmB newId/\s1.heap.get? e=ca { cls:=.ref C,dict:=ca J,data:=.fields #[.ref t,.none,.none,.none,.bool ia,.none] }/\E (.ref e) s1) E s):wpAny M A (raiseStmt env (ca x) la) Q E s:=by
 have hb:(Ae C::.ref D::bmB).contains (.type "BaseException")=da:=by rw[xn,xn,F,wn,wn]
 unfold raiseStmt;refine db (Pe h (λv s1 L=>?_) λ_ _ z=>z);obtain⟨e,t,J,rfl,T,he,Z⟩:=L;obtain⟨nm,q,bs,sn,O,ab,Y,dd,k0,k1,k2,k3,k5,I⟩:=T.cls;obtain⟨hp,g,d,tk,os⟩:=s1
 repeat (first|with_reducible refine Af he ?_|with_reducible refine Af I ?_|(with_reducible refine Tp I ?_;rw[hb])|wp_step)
 exact wpAny_raiseNew_none R Z
end
def vE  (X:Cx)(C:Aa)(n:Nat)(mk:List V->List (Str×V))(t:TA):TS:=λ_ I H=>t I H λF z=>F.length=n/\∀(y:List (Aa×Obj)) (e dx:Aa) (s':Da),z dx=la->La X y I (upd z dx (.xd (mk F))) s'->Lies X.s₀.heap.objs.size X.pn (upd z dx (.xd (mk F))) s'.heap e (.ref C) (ca dx)->X.xe (.ref e) s'
def CU {X:Cx}{C N D fI:Aa}{Y:List Ba}{B y Z:String}{mN mD:Str->Option Ba}{k:Nat}{name qual x:Str}{params:ww}{body:List Pa}{scope:Cc}{dV kV ja pm R ct:Ba}{an od:Option Aa}{va:Array (Option Ba)}{Nm ps:List Str}{mk:List V->List (Str×V)}{t:TA}{a0:Ia}{as:List Ia}{p L pos:Pos}{n:Nat}
  (T:Sc X.base C N D mN mD Y y) (F:Fw B y Z Y) (hD:mD "__init__" = la) (hi:mN "__init__" = ca (.ref fI)) (lk:X.K.lookup fI=ca ⟨.type "function",od,.func (ah name qual params body scope dV kV ja pm an R ct),va⟩) (ya:Zj X.K R qual=da) (S:FnScope Nm ps scope) (hr:Room (k+2) X.A)
  (hb:Binds X.K (ah name qual params body scope dV kV ja pm an R ct) ps []) (hn:n+1=ps.length) (zb:n<=8) (O:Y.contains (.type "BaseException")=da) (hg:Gl X x) (hm:X.mg x=ca (.ref C)) (hk:oj X.K (.ref C)=da) (ha:PA X (a0::as) t) (za:∀(vs:List V) (s:Da) (H:Hp),vs.length=n->Qr X C s H Nm qual scope fI R body vs (mk vs))
  (xb:(x==("__debug__" : Str))=ia:=by decide) (he:uc (a0::as) X.env=(ia,lb a0 X.env)::uc as X.env:=by rfl) (ka:(Tb L (uc as X.env)).any (·.1)=ia:=by rfl) :
  PS X (.Raise (ca (.Call (.Name x p) (a0::as) [] L)) la pos) (vE X C n mk t):=by
 intro xa s σ H D0 I h;have go:wpAny (Fa X.prog X.w) X.A (lb (.Call (.Name x p) (a0::as) [] L) X.env) (λv s1=>∃e t dx,v=.ref e/\Sc s1.heap C N D mN mD Y y/\s1.heap.get? e=ca { cls:=.ref C,dict:=ca dx,data:=.fields #[.ref t,.none,.none,.none,.bool ia,.none] }/\X.xe (.ref e) s1) X.xe s:=by
  refine rl (jp I hg hm ?_ xb);refine UB (h₀:=X.base) I.ok.mod.kin hk (Db (ha L xa s σ H _ I h) λus s1 ⟨vs,H1,I1,r,hl,q⟩=>⟨I1.kIn,?_⟩) he ka;refine xmake (k:=k) I1 T F hD hi lk ya S hr hb r (by lia) (by have:=r.length;rw[Pi,Dl];lia) (za vs s1 H1 hl) λe dx s' z1 J l ⟨t',g⟩=>?_
  exact⟨e,t',dx,rfl,T.keeps J.bk,g,q xa e dx s' z1 J l⟩
 rw[arm_exec_Raise]
 first
  |exact db (ml (Sc.raise O hr.hd (db (Pe go (λv s1 z=>db (ml (Zb z))) λ_ _ z=>z))))
  |(simp only[evalOpt,fB];exact db (ml (Sc.raise O hr.hd (db (Pe go (λv s1 z=>db (ml (Zb z))) λ_ _ z=>z)))))
def LU    {σ:St}(I:La X pins σ H s)(hN:X.N.Nodup)(hi:X.N[i]?=ca x)(hk:X.env.scope.names.lookup x=ca .local)
  (h:∀s',La X pins (σ.set i la) H s'->Q () s'):wpAny M A (do Cp X.env x .none;unbindBehindTheSuite X.env x pos) Q E s:=by
 obtain⟨m,hn,hl⟩:=id I.loc;have Y:(X.env.scope.kind == .class||(X.env.scope.kind == .module&&X.env.locals != X.env.globals))=ia:=by rw[I.ok.kind];rfl
 have R:i<σ.length:=by rw[I.len];exact(Ka.mp hi).1
 have cne:=I.cne;refine wpAny_nameGoes_keeps hk hn Y λh' v xa F=>?_;have J:∀b o,X.s₀.heap.get? b=ca o->b≠X.env.locals:=λb o e=>dg (Mf (Nc e) I.ok.above);have tr:Md X.prog X.w H h':=λb ob e=>by
  refine(I.hok b ob e).stay (λc w' hc q=>(F.2 c ?_).trans q) (λ_ q=>q) λ_ _ q=>q;rintro rfl;rcases hc with rfl|hc
  ·rw[I.free]at e;cases e
  ·rw[I.free]at hc;cases hc
 refine h _ ⟨I.ok,I.os,I.bare,⟨λb o e n hb O=>(F.2 b (J b o e)).trans (I.base.keep b o e n hb O),λb o e n hb O=>?_,I.base.free,λb o e O=>?_,I.base.tups,I.base.frzs,I.base.tbls⟩,⟨_,xa,λj y v' L Z e3=>?_⟩,λy c e=>?_,I.free,I.freeC,λp hp=>?_,tr,by simpa using I.len⟩
 ·obtain⟨sl,L⟩:=I.base.slot b o e n hb O;exact⟨sl,(F.2 b (J b o e)).trans L⟩
 ·obtain⟨o',L⟩:=I.base.there b o e O;exact⟨o',(F.2 b (J b o e)).trans L⟩
 ·by_cases hj:j=i
  ·subst hj;rw[Rp R]at Z;cases Z
  ·rw[uj (Ua hj)]at Z;have hy:y≠x:=λz=>hj (Ov hN L (z ▸ hi));obtain⟨u,r,l⟩:=hl j y v' L Z e3;refine⟨u,r,l.imp (λz=>⟨z.1,by show(if y=x then v else m y)=ca u;rw[if_neg hy];exact z.2⟩) λz=>⟨z.1,?_⟩⟩
   obtain⟨c,ec,o,ho,hd⟩:=z.2;exact⟨c,ec,o,(F.2 c (cne y c ec)).trans ho,hd⟩
 ·obtain⟨w',o,ho,hd⟩:=I.cell y c e;exact⟨w',o,(F.2 c (cne y c e)).trans ho,hd⟩
 ·obtain⟨p1,p2,p3,p4⟩:=I.pin p hp;exact⟨(F.2 p.1 p3).trans p1,p2,p3,p4⟩
end L2

namespace L2
open PySem PySem.Spec PyProof.Rows PySem.W

def ZV  {R: ie}{I: List Ba}(hC:h.get? C=ca (vn nm q C N bs bm hdct sn I ab col dd k0 k1 k2 k3 k5 newId))(O:h.get? D=ca (vn ya q' D ND ka y L ja xa za Y va l0 l1 l2 l3 l5 F))(he:h.get? e=ca oe)(z:oe.cls=.ref C)(hb:y.contains (.type "BaseException")=da)
  (J:Q ((Ae C::bm).contains (.ref D)) ⟨h,g,d,t,R⟩):wpAny M A (iq (.ref e) (.ref D)) Q E ⟨h,g,d,t,R⟩:=by
 have hB:(Ae D::y).contains (.type "BaseException")=da:=by rw[xn,hb,wn]
 have f:=tc_notTuple;obtain⟨b,Z⟩:∃b,b=(Ae C::bm).contains (.ref D):=⟨_,rfl⟩;rw[<- Z]at J;unfold iq
 repeat (first|(with_reducible refine Af he ?_;rw[z])|with_reducible refine Af O ?_|(with_reducible refine Tp O ?_;rw[hB])|(with_reducible refine Tp hC ?_;rw[<- Z])|wp_step)
 cases b with
 |true=>wp_walk;exact J
 |false=>wp_walk;exact J

def uW  {O: St}(I:La X [] O H s)(l:Lies X.s₀.heap.objs.size X.pn H s.heap ea cls dx)
  (q:∀h',La X [] O H { s with heap:=h' }->Lies X.s₀.heap.objs.size X.pn H h' ea cls dx->Q () { s with heap:=h' }):wpAny M A (Ip (.ref ea) la) Q E s:=by
 obtain⟨oe,Z,F,J,L,hd,Y⟩:=l.ob;rcases Y with h1|⟨T,oT,ts,h1,hTe,hT,hdT,h3,nT,lT,pT⟩
 ·unfold Ip;refine db (Oi F hd h1 ?_);rw[if_neg (by decide)]
  exact Zb (q s.heap I l)
 ·have sz:=(Yb.mp h3).1;refine wpAny_setFlight_none F hd h1 hT hdT sz ?_;have y:=(Vv 3 .none hT hdT).2;have R:=HK hdT (·.setIfInBounds 3 uh);refine q _ (I.left (ch:=[T]) (λb z=>by simp_all) (λb z=>by simp_all) (λb z=>by simp_all) (λb z p hp=>by grind)
   (λb o _ J e=>(y b (by simp_all)).trans e) λb o _ J e=>⟨o.slots,(y b (by simp_all)).trans e⟩) ⟨⟨oe,Z,(y ea (Ua hTe)).trans F,J,L,hd,.inr ⟨T,_,_,h1,hTe,cx _ hT (aC R),R,by simp[sz],nT,lT,pT⟩⟩,l.hn,l.le,l.pn⟩
noncomputable def Cx.tryC  (X:Cx)(pins:List (Aa×Obj))(xe:Ba->Da->Prop):Cx:={ X with pn:=X.pn++pins,xe:=xe }
def La.tryIn  {z: St}(I:La X pins z H s):La (X.tryC pins xe) [] z H s:=
 ⟨⟨I.ok.mod,I.ok.kind,I.ok.glob,I.ok.blt,I.ok.above,I.ok.inj,I.ok.has,I.ok.cab,I.ok.hd,I.ok.frames,I.ok.stk,I.ok.exf,I.ok.bs,I.ok.bsz,I.ok.noex,I.ok.exfs,I.ok.funs,I.ok.frf⟩,I.os,I.bare,I.base,I.loc,I.cell,I.free,I.freeC,λp F=>I.pin p (by simpa[Cx.tryC]using F),I.hok,I.len⟩
def La.tryOut  {F: St}(I:La (X.tryC pins xe) z F H s):La X pins F H s:=
 ⟨⟨I.ok.mod,I.ok.kind,I.ok.glob,I.ok.blt,I.ok.above,I.ok.inj,I.ok.has,I.ok.cab,I.ok.hd,I.ok.frames,I.ok.stk,I.ok.exf,I.ok.bs,I.ok.bsz,I.ok.noex,I.ok.exfs,I.ok.funs,I.ok.frf⟩,I.os,I.bare,I.base,I.loc,I.cell,I.free,I.freeC,λp J=>I.pin p (by simp only[Cx.tryC];grind),I.hok,I.len⟩
noncomputable def Cx.inH  (X:Cx)(e:Ba)(p:List (Aa×Obj)):Cx:={ X with A:=X.A.mark (ca e),calm:=ia,pn:=X.pn++p,xe:=λ_ _=>False }
def La.hIn  {F: St}(I:La X [] F H s)(J:∀q∈p,s.heap.get? q.1=ca q.2/\H q.1=la/\q.1≠X.env.locals/\q.1∉X.fs/\∀v,q.2.data≠.cell v):La (X.inH e p) [] F H s:=
 ⟨⟨I.ok.mod,I.ok.kind,I.ok.glob,I.ok.blt,I.ok.above,I.ok.inj,I.ok.has,I.ok.cab,(λz=>(nomatch z)),I.ok.frames,I.ok.stk,I.ok.exf,I.ok.bs,I.ok.bsz,I.ok.noex,I.ok.exfs,I.ok.funs,I.ok.frf⟩,I.os,I.bare,I.base,I.loc,I.cell,I.free,I.freeC,
  λq L=>by
   have:q∈X.pn++p:=by simpa[Cx.inH]using L
   rcases Oa.mp this with z|z
   ·exact I.pin q (nk _ z)
   ·exact J q z,I.hok,I.len⟩
def La.hOut  {F: St}(ok:X.Ok)(I:La (X.inH e p) z F H s):La X [] F H s:=
 ⟨ok,I.os,I.bare,I.base,I.loc,I.cell,I.free,I.freeC,λq J=>I.pin q (by simp only[Cx.inH];simp_all),I.hok,I.len⟩
def Lies.pinned  {R: St}(I:La X [] R H s)(l:Lies X.s₀.heap.objs.size X.pn H s.heap ea cls dx):∃oe,s.heap.get? ea=ca oe/\oe.cls=cls/\oe.dict=dx/\(∃vs,oe.data=.fields vs)/\
  ∀q∈[(ea,oe)],s.heap.get? q.1=ca q.2/\H q.1=la/\q.1≠X.env.locals/\q.1∉X.fs/\∀v,q.2.data≠.cell v:=by
 obtain⟨oe,vs,L,Z,F,hd,_⟩:=l.ob;refine⟨oe,L,Z,F,⟨vs,hd⟩,λq Y=>?_⟩;rw[Ea.mp Y];refine⟨L,l.hn,λz=>?_,λz=>?_,λv z=>by lia⟩
 ·obtain⟨m,⟨o,es,ep,J,O,_⟩,_⟩:=I.loc
  lia
 ·obtain⟨_,o,J,_⟩:=I.ok.funs.mem z;exact absurd (Nc J) (Ub.mpr l.le)
def XL  (M:Mt)(A:Kb)(env:Env)(R:Ba->Da->Prop):Ba->Da->Prop:=λe F=>wpAny M A (Bw e env) (λ_ y=>wpAny M A (Ip e la) (λ_ z=>R e z) R y) R F
def Yu      : Wj M A env (XL M A env R):=uL

abbrev Ym  (P:Ib)(w:ib)(K:Hb)(mg:Str->Option Ba)(base:Va)(N:List Str)(qual:Str)(scope:Cc)(f:Aa)(cd:Ba)(A:Kb)(outer:List Env)(s:Da)(H:Hp)(E:XK):Cx:=
 (cxOf (ed P w) P w K mg base N qual scope f cd A outer s H E).wish (XL (Fa P w) (A.deeper (Jc qual scope s.heap.objs.size f cd)) (Jc qual scope s.heap.objs.size f cd) λe y=>ed P w outer H s E e y)
def Fun.okX  {K: Hb}{st:Pa}(F:Fun K x qual st f fd)(S:FnScope N ps (Xb st))(Z:∀vs H Q E,sp vs H Q E->vs.length=ps.length)
  (L:∀J (A:Kb) outer (s:Da) H (vs:List V) Q E ,Room k (A.deeper (Jc qual (Xb st) s.heap.objs.size f J))->sp vs H Q E->
   ∃t,Fd (Ym P w K mg base N qual (Xb st) f J A outer s H E) (Yc st) t/\t { nx:=λ_ H'=>Q .non H',rt:=Q } (start N vs) H):FnOk P w K mg base (ed P w) (k+1) f fd ps sp:=by
 obtain⟨oc,od,kV,za,pm,an,J,ct,xa,rfl,lk,Y⟩:=F.ex;refine LM lk Y S Z λA outer s H vs Q E hr R=>?_;obtain⟨t,h,q⟩:=L J A outer s H vs Q E hr R;refine⟨t,λO s1 σ H1 D I hw=>?_,q⟩;refine Pe (h O s1 σ H1 D (I.wish _) hw) (λ_ _ q=>q.unwish) λe s' z=>?_;show wpAny _ _ (Rf _ e) _ _ s';unfold Rf;exact db z
def ed.out1  {K: Hb}{z:St} 
  (I:La (Ym P w K mg base N qual scope f cd A outer s H E) pins z H' s') (l:Lies s.heap.objs.size [] H' s'.heap ea cls dx) (q:E cls dx H'):(Ym P w K mg base N qual scope f cd A outer s H E).xe (.ref ea) s':=by
 have F:La (cxOf (ed P w) P w K mg base N qual scope f cd A outer s H E) [] z H' s':=I.unwish.pins_of λp O=>absurd O (by simp)
 refine Ny (X:=cxOf (ed P w) P w K mg base N qual scope f cd A outer s H E) (E:=λe s'=>ed P w outer H s E e s') F rfl rfl l λR J L=>?_;exact⟨ea,H',cls,dx,rfl,J.os,J.bare,J.base,J.hok,L,q⟩
end L2

namespace L2
open PySem PySem.Spec PyProof.Rows PySem.W
open Builtin Builtin.ObjectAttr
def yW  : Bf (.type "ValueError") "__class__" = pure (ca (.builtin "object.__class__")):=by rw[Lp,Vp];kernel_rfl
def fP  : Bf (.type "getset_descriptor") "__get__" = pure (ca (.builtin "getset_descriptor.__get__")):=by rw[Lp,Vp];kernel_rfl
def iP  : Bf (.type "getset_descriptor") "__set__" = pure (ca (.builtin "getset_descriptor.__set__")):=by rw[Lp,Vp];kernel_rfl
def VE  : builtinKind "object.__class__" = ca .getset:=by decide +kernel
noncomputable abbrev mj  : List Ba:=[.type "ValueError",.type "Exception",.type "BaseException",.type "object"]

def Sc.gaClass  {O: ie}{K:Gh}(hK:K.In h)(hm:Kt K C (.type "object")=ca da)(T:Sc h C N D mN mD bmB newId)(R:Reads B bmB)(z:h.get? x=ca o)(F:o.cls=.ref C)(L:notCls o=da)(I:o.dict=ca dx)(J:h.get? dx=ca od)
  (hB:Bf (.type B) "__class__" = pure (ca (.builtin "object.__class__"))) (Y:mN "__class__" = la) (n2:mD "__class__" = la) (hq:Q (.done (.ret (.ref C))) ⟨h,g,d,t,O⟩) :
  wpAny (Fa prog w) A (Mb.«object.__getattribute__» ⟨[.ref x,.str "__class__" tk],[]⟩) Q E ⟨h,g,d,t,O⟩:=by
 obtain⟨nm,q,bs,sn,Z,ab,xa,dd,k0,k1,k2,k3,k5,e⟩:=T.cls;unfold Mb.«object.__getattribute__»
 repeat (first|(with_reducible refine Af z ?_;rw[F])|(with_reducible refine T.look hB R.mro Y n2 ?_)|wp_step)
 rw[VE];dsimp only;rw[fP]
 repeat (first|(with_reducible refine Af z ?_;rw[F])|wp_step)
 rw[VE];dsimp only;rw[iP]
 repeat (first|(with_reducible refine Af z ?_;rw[F])|wp_step)
 refine PySem.W.class_get (K:=K) hK (ox:=o) (od:=ca od) ⟨z,F,L,by rw[I];exact J⟩ hm ?_
 exact Zb hq
def Sc.cattr  {Y: ie}{K:Gh}(hK:K.In h)(hm:Kt K C (.type "object")=ca da)(T:Sc h C N D mN mD bmB newId)(R:Reads B bmB)(I:h.get? x=ca o)(z:o.cls=.ref C)(L:notCls o=da)(O:o.dict=ca dx)(J:h.get? dx=ca od)
  (hB:Bf (.type B) "__class__" = pure (ca (.builtin "object.__class__"))) (Z:mN "__getattribute__" = la) (g2:mD "__getattribute__" = la) (a1:mN "__getattr__" = la) (a2:mD "__getattr__" = la) (n1:mN "__class__" = la) (n2:mD "__class__" = la) (hq:Q (ca (.ref C)) ⟨h,g,d,t+1,Y⟩) :
  wpAny (Fa prog w) A (getAttr? (.ref x) "__class__") Q E ⟨h,g,d,t,Y⟩:=by
 have f3:=R.ga.bind (.ref x);unfold getAttr? getAttrBy? getAttrBy
 repeat (any_goals (first|assumption|(with_reducible refine Af I ?_;rw[z])|(with_reducible refine T.look R.ga.lookup R.mro Z g2 ?_)|(with_reducible refine T.look R.no R.mro a1 a2 ?_)|wp_step))
 refine mC R.ga.plain F.entry_bexc_ga (T.gaCheck R I z (T.gaClass hK hm R I z L O J hB n1 n2 ?_))
 repeat (any_goals (first|assumption|wp_step))
noncomputable def Av  : List Xk->Option (List Str)
 |[]=>ca []
 |e::r=>match e.key,Av r with
  |.str x _,ca l=>ca (x::l)
  |_,_=>la
def Vo  (K:Gh)(N:Aa):Option (List Str):=match K.lookup N with
 |some ⟨_,_,.dict es _,_⟩=>Av es.toList
 |_=>la
theorem FG  : ∀{es } {I },Av es=ca I->(∀e∈es,∃n t,e.key=.str n t)/\∀x,x∉I->es.find? (λe=>e.key.isStr x)=la
 |[],_,_=>⟨λ_ h=>absurd h (by simp),λ_ _=>rfl⟩
 |e::r,I,h=>by
  unfold Av at h;split at h
  ·rename_i x t l hk O;cases h;obtain⟨Y,R⟩:=FG O;refine⟨λL F=>?_,λy J=>?_⟩
   ·rcases Oc.mp F with rfl|F
    ·exact⟨_,_,hk⟩
    ·exact Y L F
   ·have Z:y≠x:=λz=>J (by simp[z])
    have:e.key.isStr y=ia:=by rw[hk];simp[Ba.isStr,Ua Z]
    rw[Mi,this];exact R y λz=>J (by simp[z])
  ·cases h
def pD  {K:Gh}(e:Vo K N=ca Z):∃m ,(∀h,K.In h->h.Ns N m)/\(∀x,x∉Z->m x=la)/\∀x v,nsIn K N x=ca (ca v)->m x=ca v:=by
 unfold Vo at e;split at e
 ·rename_i c dd I Y sl F;obtain⟨R,O⟩:=FG e;refine⟨nsFind I,λh hK=>⟨_,I,Y,hK _ _ F,rfl,λe J=>R e (by simpa using J),λ_=>rfl⟩,λx L=>?_,λx v y=>?_⟩
  ·unfold nsFind findBy;rw[<- oC,O x L];rfl
  ·unfold nsIn at y;rw[F]at y;dsimp only at y;unfold nsFind findBy;rw[<- oC];split at y
   ·rename_i e' z;rw[z];cases y;rfl
   ·split at y<;>cases y
 ·cases e
noncomputable def offN  : List Str:=["__setattr__", "__getattribute__", "__getattr__", "__class__", "word", "at", "row"]
structure XBase (K:Gh)(mg:Str->Option Ba)(D:Aa)(mD:Str->Option Ba):Prop where
 m:mg "PlanError" = ca (.ref D)
 kp:keepIn K (.ref D)=da
 lk:∃q ND bs hd sn sub ab col dd k0 k1 k2 k3 k5 nid,K.lookup D=ca (vn "PlanError" q D ND bs mj hd sn sub ab col dd k0 k1 k2 k3 k5 nid)/\∀h,K.In h->h.Ns ND mD
 no:∀y∈offN,mD y=la
 ni:mD "__init__" = la
structure XCls (K:Gh)(mg:Str->Option Ba)(x:Str)(fs:List Str)(C:Aa):Prop where
 m:mg x=ca (.ref C)
 kp:keepIn K (.ref C)=da
 ex:∃(D N fI:Aa) (mN mD:Str->Option Ba),XBase K mg D mD/\(∃q bs sn sub ab col dd k0 k1 k2 k3 k5,K.lookup C=ca (vn x q C N bs (.ref D::mj) da sn sub ab col dd k0 k1 k2 k3 k5 "ValueError.__new__"))/\(∀h,K.In h->h.Ns N mN)/\(∀y∈offN,mN y=la)/\
  mN "__init__" = ca (.ref fI)/\∃(st:Pa) (qual:Str) (fd:Bp),L2.Fun K "__init__" qual st fI fd/\(∃od osl,K.lookup fI=ca ⟨.type "function",od,.func fd,osl⟩)/\FnScope ("self" :: fs) ("self" :: fs) (Xb st)/\Binds K fd ("self" :: fs) []/\(∀y∈(("self" : Str)::fs),(Xb st).names.lookup y=ca .local)/\
  ((∃f p1 p2 p3 pos,fs=[f]/\Yc st=[.Assign [.Attribute (.Name "self" p1) f p2] (.Name f p3) pos])\/∃f f2 p1 p2 p3 pos q1 q2 q3 qos,fs=[f,f2]/\f≠f2/\Yc st=[.Assign [.Attribute (.Name "self" p1) f p2] (.Name f p3) pos,.Assign [.Attribute (.Name "self" q1) f2 q2] (.Name f2 q3) qos])
def XBase.get  {K:Gh}(B:XBase K mg D mD)(F:K.In h):∃c0 z cd L,h.get? D=ca { cls:=c0,dict:=z,data:=.cls cd,slots:=L }/\h.Ns cd.ns mD:=by
 obtain⟨q,ND,bs,hd,Y,R,ab,J,z,k0,Z,k2,k3,k5,O,I,n⟩:=B.lk;exact⟨_,_,_,_,F _ _ I,n h F⟩

def XCls.name  {K: Gh}(c:XCls K mg x fs C):∃cd,clsIn K C=ca cd/\cd.name=x/\typeIn K (.ref C)=ca (.type "type")/\∃D z,XBase K mg D z/\cd.mro=.ref C::.ref D::mj:=by
 obtain⟨D,N,Z,mN,z,B,⟨q,bs,O,J,ab,I,L,Y,R,k2,k3,k5,F⟩,_⟩:=c.ex;refine⟨_,by unfold clsIn;rw[F],rfl,by show fB (λx=>x.cls) (mi _ K)=_;rw[F];rfl,D,z,B,rfl⟩
def XBase.nm  {K: Gh}(B:XBase K mg D mD):∃cd,clsIn K D=ca cd/\cd.name = "PlanError" /\ typeIn K (.ref D)=ca (.type "type"):=by
 obtain⟨q,Z,bs,hd,O,J,ab,F,L,Y,R,k2,k3,k5,I,z,n⟩:=B.lk;exact⟨_,by unfold clsIn;rw[z],rfl,by show fB (λx=>x.cls) (mi _ K)=_;rw[z];rfl⟩
def yF  {K: Gh}(c:XCls K mg x fs C)(R:XCls K mg I xa J)(hp:I ≠ "PlanError"):fq K (.ref C) (.ref J)=ca (decide (x=I)):=by
 obtain⟨cd,O,h2,h3,D,mD,B,hm⟩:=c.name;obtain⟨za,y,F,L,_⟩:=R.name;unfold fq;by_cases e:C=J
 ·subst e;rw[O]at y;cases y;rw[if_pos (by simp),<- h2,<- F]
  simp
 ·have hx:x≠I:=λz=>by
   subst z;have:=c.m.symm.trans R.m;simp at this;exact e this
  rw[if_neg (by simpa using e)]
  unfold kitCls subIn Kt;dsimp only;rw[y,L,O];have Z:D≠J:=λz=>by
   subst z;obtain⟨ja,Y,g2,_⟩:=B.nm;rw[y]at Y;cases Y;exact hp (F.symm.trans g2)
  simp[hm,hx,Ua e,Ua Z]
def tP  {K: Gh}(c:XCls K mg x fs C):fq K (.ref C) (.type "ValueError")=ca da:=by
 obtain⟨J,y,I,F,D,L,B,z⟩:=c.name;unfold fq;rw[if_neg (by simp)]
 unfold kitCls subIn Kt;dsimp only;rw[if_pos (by decide +kernel),y]
 simp[z]
def aE  : ∀f∈[("word" : Str), "at", "row"],Bf (.type "ValueError") f=pure la:=by
 intro f y;simp only[Oc,Je,or_false]at y;rcases y with rfl|rfl|rfl<;>(rw[Lp,Vp];kernel_rfl)
noncomputable def fldN  : List Str:=["word", "at", "row"]
def Ry  : ∀f∈fldN,f∈offN:=by decide
section
variable {K:Gh}{mg:Str->Option Ba}{x:Str}{fs:List Str}{C:Aa}
structure XPin (X:Cx)(ea C dx:Aa):Prop where
 ex:∃oe vs,(ea,oe)∈X.pn/\oe.cls=.ref C/\oe.dict=ca dx/\oe.data=.fields vs
def La.xobj    {σ:St}(I:La X pins σ H s)(p:XPin X ea C dx)(z:H dx=ca (.xd l)) :
  ∃oe vs od mA,s.heap.get? ea=ca oe/\oe.cls=.ref C/\oe.dict=ca dx/\oe.data=.fields vs/\s.heap.get? dx=ca od/\s.heap.Ns dx mA/\∀f,RelO (l.lookup f) (mA f):=by
 obtain⟨oe,vs,Y,O,L,F⟩:=p.ex;obtain⟨mA,n,r⟩:=(show Sd X.prog X.w H s.heap dx (.xd l)from I.hok dx _ z);obtain⟨od,es,R,g,gd,J,_,Z⟩:=n;exact⟨oe,vs,od,mA,(I.pin _ (nk _ Y)).1,O,L,F,g,⟨od,es,R,g,gd,J,Z⟩,r⟩
def XCls.two  (c:XCls K mg x fs C)(I:K.In h):∃N D z F,Sc h C N D z F mj "ValueError.__new__" /\ (∀y∈offN,z y=la/\F y=la)/\Kt K C (.type "object")=ca da:=by
 obtain⟨D,N,fI,z,F,B,⟨q,bs,sn,Y,ab,R,dd,k0,k1,k2,k3,k5,J⟩,Z,O,_⟩:=c.ex;refine⟨N,D,z,F,⟨⟨_,_,_,_,_,_,_,_,_,_,_,_,_,I _ _ J⟩,Z h I,B.get I⟩,λy L=>⟨O y L,B.no y L⟩,?_⟩;unfold Kt clsIn;rw[J];simp
def Cz  (c:XCls K mg x fs C)(Y:oe.cls=.ref C)(h2:oe.dict=ca dx)(h3:oe.data=.fields vs):KitX K (.ref ea) (.ref C) (λh=>h.get? ea=ca oe/\h.get? dx=ca od):=by
 have R:notCls oe=da:=by unfold notCls;rw[h3]
 refine⟨λM h y I=>?_,λM h y I=>?_,λh tp dd za n sl y ht=>?_,λ{xa w A E Q s} y I hq=>?_⟩
 ·intro A Q E s k q;obtain⟨hp,g,d,t,Z⟩:=s;have F:=k _ _ I.1;show wpAny M A (typeOf (.ref ea)) Q E _;unfold typeOf
  repeat (first|(with_reducible refine Af F ?_;rw[Y])|wp_step)
  exact q
 ·intro A Q E s k q;obtain⟨hp,g,d,t,Z⟩:=s;obtain⟨D,N,fI,mN,mD,B,⟨q',bs,sn,J,ab,L,dd,k0,k1,k2,k3,k5,O⟩,_⟩:=c.ex;have F:=k _ _ (y _ _ O);unfold isType
  repeat (first|with_reducible refine Af F ?_|wp_step)
  exact q
 ·obtain⟨D,N,fI,mN,mD,B,⟨q',bs,sn,J,ab,L,ja,k0,k1,k2,k3,k5,O⟩,_⟩:=c.ex;have F:=y _ _ O;by_cases z:C=tp
  ·subst z;rw[ht]at F;simp at F
  ·simpa using z
 ·obtain⟨hp,g,d,t,Z⟩:=s;obtain⟨N,D,mN,mD,T,off,hm⟩:=c.two y;have o1:=off "__getattribute__" (by decide)
  have o2:=off "__getattr__" (by decide)
  have o3:=off "__class__" (by decide)
  exact T.cattr y hm JJ I.1 Y R h2 I.2 yW o1.1 o1.2 o2.1 o2.2 o3.1 o3.2 hq
end
section
variable {X:Cx}{mg:Str->Option Ba}{x:Str}{fs:List Str}{C ea dx:Aa}
def nU     (c:XCls X.K mg x fs C)(Z:XCls X.K mg y L R)(hp:y ≠ "PlanError")(p:XPin X ea C dx):rf X (.builtin "isinstance") (λxs H Q=>xs=[.ref ea,.ref R]/\(∃l,H dx=ca (.xd l))/\Q (.bl (decide (x=y))) H):=by
 intro F s σ H xs us Q I r h;obtain⟨rfl,⟨l,hl⟩,q⟩:=h;obtain⟨u,v,rfl,Y,rv⟩:=Vals.two r;cases Y;cases rv;obtain⟨oe,vs,od,mA,g1,g2,g3,g4,J,_⟩:=I.xobj p hl;exact kia_one (Cz c g2 g3 g4) I.kIn ⟨g1,J⟩ (yF c Z hp) (λz=>(nomatch z)) λO=>⟨.bl _,H,I.tok O,rfl,q⟩
def qU  (c:XCls X.K mg x fs C)(p:XPin X ea C dx):rf X (.builtin "isinstance") (λxs H Q=>xs=[.ref ea,.ty "ValueError"]/\(∃l,H dx=ca (.xd l))/\Q (.bl da) H):=by
 intro y s σ H xs us Q I r h;obtain⟨rfl,⟨l,L⟩,q⟩:=h;obtain⟨u,v,rfl,J,O⟩:=Vals.two r;cases J;cases O;obtain⟨oe,vs,od,mA,F,R,g3,g4,Y,_⟩:=I.xobj p L;exact kia_one (Cz c R g3 g4) I.kIn ⟨F,Y⟩ (tP c) (λz=>(nomatch z)) λZ=>⟨.bl da,H,I.tok Z,rfl,q⟩
inductive XMany (X:Cx)(mg:Str->Option Ba):List Str->List Aa->Prop
 |nil:XMany X mg [] []
 |cons {x:Str} {fs:List Str} {C:Aa} {xs:List Str} {Cs:List Aa}:XCls X.K mg x fs C->x ≠ "PlanError" -> XMany X mg xs Cs->XMany X mg (x::xs) (C::Cs)
theorem ZF  (c:XCls X.K mg x fs C):∀{xs } {y },XMany X mg xs y->kitAny X.K (.ref C) (y.map .ref)=ca (xs.contains x)
 |_,_,.nil=>rfl
 |_,_,.cons (x:=x') (C:=C') c' hp r=>by
  have z:=yF c c' hp;have F:=ZF c r;by_cases e:x=x'
  ·subst e;simp only[af,kitAny];rw[z];simp
  ·simp only[af,kitAny];rw[z,F];simp[e]
def pU    (c:XCls X.K mg x fs C)(cs:XMany X mg xs F)(p:XPin X ea C dx):rf X (.builtin "isinstance") (λas H Q=>∃tp,as=[.ref ea,.ref tp]/\H tp=ca (.tup (F.map .ref))/\(∃l,H dx=ca (.xd l))/\Q (.bl (xs.contains x)) H):=by
 intro R s σ H as J Q I r h;obtain⟨tp,rfl,O,⟨l,hl⟩,q⟩:=h;obtain⟨u,v,rfl,y,rv⟩:=Vals.two r;cases y;cases rv;obtain⟨oe,vs,od,mA,g1,g2,g3,g4,Z,_⟩:=I.xobj p hl;obtain⟨z,J,y,o,t1,t2,t3,t4,Y⟩:=(show Sd X.prog X.w H s.heap tp (.tup (F.map .ref))from I.hok tp _ O);have L:J=F.map .ref:=by
  clear O t4 z Y t1 t2;generalize F=Ds at y
  induction Ds generalizing J with
  |nil=>cases y;rfl
  |cons a r ih=>
   cases y with
   |cons h1 h2=>cases h1;rw[ih _ h2];rfl
 subst L;have hk:=ZF c cs;obtain⟨oc,xa,dt,sl⟩:=o;obtain rfl:oc=Ba.type "tuple" := t2;obtain rfl:dt=Data.seq (List.map Ae F).toArray t3:=t4;exact kia_tup (Cz c g2 g3 g4) I.kIn ⟨g1,Z⟩ t1 hk (λz=>(nomatch z)) λtk=>⟨.bl _,H,I.tok tk,rfl,q⟩
def aW    (r:RelV v u):handedOut u=pure u:=by
 cases v with
 |non=>cases r;rfl
 |bl _=>cases r;rfl
 |int _=>obtain⟨_,rfl⟩:=r;rfl
 |str _=>obtain⟨_,rfl⟩:=r;rfl
 |byt _=>obtain⟨_,rfl⟩:=r;rfl
 |flt _=>obtain⟨_,rfl⟩:=r;rfl
 |ref _=>cases r;rfl
 |ty _=>cases r;rfl
def SS      (c:XCls X.K mg x fs C)(p:XPin X ea C dx)(R:f∈fldN)(he:PE X e te)(hb:jn e f X.env (lb e X.env)=lb e X.env) :
  PE X (.Attribute e f pos) (λO H Q=>te O H λv F=>v=.ref ea/\∃l u,F dx=ca (.xd l)/\l.lookup f=ca u/\Q u F):=by
 intro y s O H Q I h;refine NR hb (Db (he y s O H _ I h) λu s1 ⟨v,F,J,rv,Z,l,w,hl,L,q⟩=>?_);subst Z;cases rv;obtain⟨oe,vs,od,mA,g1,g2,g3,g4,g5,g6,g7⟩:=J.xobj p hl;obtain⟨N,D,mN,mD,T,off,hm⟩:=c.two J.kIn;obtain⟨u',hu,Y⟩:=RelO.some_of (v:=w) (o:=mA f) (by rw[<- L];exact g7 f)
 have o1:=off "__getattribute__" (by decide)
 have o2:=off "__getattr__" (by decide)
 have o3:=off f (Ry f R);obtain⟨hp,gg,d,t,os⟩:=s1;exact T.get JJ g1 g2 (λcd z=>by rw[g4]at z;cases z) g3 g6 hu (aW Y) (aE f R) o1.1 o1.2 o2.1 o2.2 o3.1 o3.2 ⟨w,F,J.tok _,Y,q⟩
def EU       (c:XCls X.K mg x fs C)(J:∀f∈fs,f∈fldN)(hr:Room (k+2) X.A)(hg:Gl X x)(ka:X.mg x=ca (.ref C))(ha:PA X (a0::as) t)
  (jb:(x==("__debug__" : Str))=ia) (he:uc (a0::as) X.env=(ia,lb a0 X.env)::uc as X.env) (zb:(Tb cpos (uc as X.env)).any (·.1)=ia) :
  PS X (.Raise (ca (.Call (.Name x p) (a0::as) [] cpos)) la pos) (vE X C fs.length (λvs=>fs.zip vs) t):=by
 intro xa s σ H D0 I h;have hK:X.K.In X.base:=I.ok.mod.kin;obtain⟨D,N,fI,mN,mD,B,⟨q,bs,sn,qc,ab,xc,dd,k0,k1,k2,k3,k5,lk⟩,hn,ho,hi,st,za,fd,F0,⟨od,kb,ya⟩,S,hb,y,O⟩:=c.ex;obtain⟨oc,zc,kV,jc,pm,an,xb,ct,yb,rfl,vb,ja⟩:=F0.ex;have T:Sc X.base C N D mN mD mj "ValueError.__new__" := ⟨⟨_,_,_,_,_,_,_,_,_,_,_,_,_,hK _ _ lk⟩,hn _ hK,B.get hK⟩;have z:mN "__setattr__" = la/\mD "__setattr__" = la:=⟨ho _ (by decide),B.no _ (by decide)⟩
 have Y:∀f∈fs,mN f=la/\mD f=la/\Bf (.type "ValueError") f=pure la:=λf hf=>⟨ho _ (Ry f (J f hf)),B.no _ (Ry f (J f hf)),aE f (J f hf)⟩;have nm:∀f∈fldN,(f==("__debug__" : Str))=ia/\(f==("__classdict__" : Str))=ia:=by decide
 have go:∀(vs:List V) (s:Da) (H:Hp),vs.length=fs.length->Qr X C s H (("self" : Str)::fs) za (Xb st) fI xb (Yc st) vs (fs.zip vs):=by
  intro vs s H hl;rcases O with⟨f,p1,p2,p3,pos,rfl,L⟩|⟨f,f2,p1,p2,p3,pos,q1,q2,q3,qos,rfl,hne,L⟩
  ·rw[L];obtain⟨v,rfl⟩:∃v,vs=[v]:=by
    match vs,hl with
    |[v],_=>exact⟨v,rfl⟩
   have R:=Y f (by simp)
   have Z:=nm f (J f (by simp))
   exact QM T F.store_ValueError z.1 z.2 R.1 R.2.1 R.2.2 (.inl (y _ (by simp))) (.inl (y _ (by simp))) (by decide) Z.1 (by decide) Z.2 (λ_=>rfl)
  ·rw[L];obtain⟨v,v2,rfl⟩:∃v v2,vs=[v,v2]:=by
    match vs,hl with
    |[v,v2],_=>exact⟨v,v2,rfl⟩
   have R:=Y f (by simp)
   have a2:=Y f2 (by simp)
   have Z:=nm f (J f (by simp))
   have b2:=nm f2 (J f2 (by simp))
   exact SM T F.store_ValueError z.1 z.2 R.1 R.2.1 R.2.2 a2.1 a2.2.1 a2.2.2 hne (.inl (y _ (by simp))) (.inl (y _ (by simp))) (.inl (y _ (by simp))) (by decide) Z.1 b2.1 (by decide) Z.2 b2.2 (λ_=>rfl) (λ_=>rfl)
 have va:fs.length<=8:=by
  rcases O with⟨f,p1,p2,p3,pos,rfl,L⟩|⟨f,f2,p1,p2,p3,pos,q1,q2,q3,qos,rfl,hne,L⟩<;>simp
 exact CU T F.excBase_ValueError B.ni hi ya ja S hr hb (by simp) va (by decide) hg ka c.kp ha go jb he zb xa s σ H D0 I h
def xV          (c:XCls X.K mg x fs C)(Z:XBase X.K mg J za)(L:X.K.In s.heap)(he:s.heap.get? ea=ca oe)(y:oe.cls=.ref C)
  (hq:Q da s):wpAny M A (iq (.ref ea) (.ref J)) Q E s:=by
 obtain⟨D,N,fI,mN,mD,B,⟨q,bs,sn,z,ab,I,dd,R,O,Y,k3,k5,lk⟩,_⟩:=c.ex;have e:D=J:=by have:=B.m.symm.trans Z.m;simpa using this
 subst e;obtain⟨q,ND,bs,hd,sn,z,ab,I,dd,R,O,Y,k3,k5,xa,F,n⟩:=B.lk;obtain⟨h,g,d,t,os⟩:=s;refine ZV (L _ _ lk) (L _ _ F) he y (by decide) ?_
 have e:(Ae C::.ref D::mj).contains (.ref D)=da:=by simp
 rw[e];exact hq
end
end L2

namespace L2
open PySem PySem.Spec PyProof.Rows

end L2

namespace L2
open PySem PySem.Spec PyProof.Rows

end L2

namespace L2
open PySem PySem.Spec PyProof.Rows PySem.W
noncomputable def ng  (cells:List (Str×Aa)):List (Str×Kf)->List (Str×Aa)->List (Str×Aa)
 |[],acc=>acc
 |(n,k)::r,acc=>ng cells r (if k == .free then (match cells.lookup n with|some c=>(n,c)::acc|none=>acc) else acc)
theorem qz   
  (F:∀n k cs,f (n,k) cs=if k == .free then (do let a <- jq env n;pure (.yield ((n,a)::cs))) else pure (.yield cs)) :
  ∀names acc ,(∀y∈names,y.2=.free->∃c,env.cells.lookup y.1=ca c)->forIn names acc f=pure (ng env.cells names acc)
 |[],acc,_=>rfl
 |(n,k)::r,acc,h=>by
  rw[xB,F];unfold ng;cases hk:k==Ue with
  |true=>
   obtain⟨c,e⟩:=h (n,k) Uf (eq_of_beq hk);simp only[if_true,jq,e,pure_bind];exact qz F r _ λy z=>h y (Le _ z)
  |false=>
   simp only[Yp,if_false,pure_bind];exact qz F r _ λy z=>h y (Le _ z)
def nI    (h:∀y∈scope.names,y.2=.free->∃c,env.cells.lookup y.1=ca c):xw scope env=pure (ng env.cells scope.names []):=by
 simp only[xw];rw[qz (env:=env) (λn k z=>by lia) _ _ h]
 rfl
theorem AF     : ∀{names } {acc },(ng cells names acc).lookup x=ca c->(cells.lookup x=ca c/\(x,Ue)∈names)\/acc.lookup x=ca c
 |[],_,h=>.inr h
 |(n,k)::r,acc,h=>by
  unfold ng at h;rcases AF h with⟨e,m⟩|e
  ·simp_all
  ·by_cases hk:(k==Ue)=da
   ·rw[if_pos hk]at e;cases y:cells.lookup n with
    |none=>lia
    |some F=>
     rw[y]at e;simp only[oi]at e;by_cases z:x=n
     ·subst z;simp only[beq_self_eq_true]at e;cases e;exact .inl ⟨y,by rw[eq_of_beq hk];exact Uf⟩
     ·rw[beq_eq_false_iff_ne.mpr z]at e;exact .inr e
   lia
theorem nG     : ∀{names } {acc },cells.lookup x=ca c->acc.lookup x=ca c->(ng cells names acc).lookup x=ca c
 |[],_,_,h=>h
 |(n,k)::r,acc,hc,h=>by
  unfold ng;refine nG hc ?_;split
  ·split
   ·rename_i z e;by_cases y:x=n
    ·subst y;rw[hc]at e;cases e;simp
    ·simp only[oi,beq_eq_false_iff_ne.mpr y];exact h
   ·exact h
  ·exact h
theorem Sz     : ∀{names } {acc },cells.lookup x=ca c->(x,Ue)∈names->(ng cells names acc).lookup x=ca c
 |(n,k)::r,acc,hc,h=>by
  unfold ng;rcases Oc.mp h with e|h
  ·cases e;refine nG hc ?_;simp[hc]
  ·exact Sz hc h
structure CloScope (N P:List Str)(sc:Cc):Prop where
 kind:sc.kind=.function
 co:sc.isCoroutine=ia
 gen:sc.isGenerator=ia
 nd:N.Nodup
 pre:N.take P.length=P
 par:∀x∈P,sc.names.lookup x=ca .local
 nocell:∀y∈sc.names,y.2≠.cell
 frees:∀x,(x,Ue)∈sc.names->sc.names.lookup x=ca .free

noncomputable def Uk  (P:Ib)(w:ib)(K:Hb)(mg:Str->Option Ba)(base:Va)(N:List Str)(qual:Str)(scope:Cc)(cl:List (Str×Aa))(f:Aa)(cd:Ba)(A:Kb)(outer:List Env)(s:Da)(H:Hp)(E:XK):Cx where
 prog:=P
 w:=w
 K:=K
 mg:=mg
 base:=base
 A:=A.deeper (envX qual scope s.heap.objs.size f cd cl)
 N:=N
 s₀:=s
 H₀:=H
 env:=envX qual scope s.heap.objs.size f cd cl
 outer:=outer
 stack:=envX qual scope s.heap.objs.size f cd cl::outer
 ex:=[]
 calm:=da
 fn:=λx=>scope.names.lookup x != ca .free
 pn:=[]
 xe:=XL (Fa P w) (A.deeper (envX qual scope s.heap.objs.size f cd cl)) (envX qual scope s.heap.objs.size f cd cl) λe y=>ed P w outer H s E e y
def GU    {i:Nat}(h:(start N vs)[i]?=ca (ca v)):vs[i]?=ca v:=by
 unfold start at h;by_cases y:i<vs.length
 ·rw[Qn (by simpa using y),Lf]at h
  cases e:vs[i]? with
  |none=>rw[e]at h;cases h
  |some a=>rw[e]at h;simpa using h
 ·rw[At (by simpa using y),mx]at h
  split at h<;>cases h
def gS  {ps:List Str}{i:Nat}{u:Ba}(Y:ps.Nodup)(J:ps[i]?=ca x)(O:us[i]?=ca u):(ps.zip us).reverse.lookup x=ca u:=by
 have hm:(x,u)∈ps.zip us:=Ze (fc.mpr ⟨J,O⟩);have F:∀{l:List (Str×Ba)},(x,u)∈l->(∀v,(x,v)∈l->v=u)->l.lookup x=ca u:=by
  intro l
  induction l with
  |nil=>simp_all
  |cons p r R=>
   obtain⟨y,v⟩:=p;intro h hu;rw[oi];by_cases I:x=y
   ·subst I;rw[beq_self_eq_true,hu v Uf]
   ·rw[beq_eq_false_iff_ne.mpr I];rcases Oc.mp h with e|h
    ·cases e;exact absurd rfl I
    ·exact R h λv z=>hu v (Le _ z)
 refine F (Hc.mpr hm) λv z=>?_;obtain⟨j,L⟩:=List.getElem?_of_mem (Hc.mp z);obtain⟨Z,e2⟩:=fc.mp L;obtain rfl:=Ov Y J Z
 lia
def xR  {K: Hb}{tk:Tok} 
  (S:CloScope N ps scope) (hd:A.handled=la) (e0:Env0 P w K mg base A outer s H) (hl:vs.length=ps.length) (r:Vals vs us) (hN:vs.length+cvs.length<=N.length)
  (xa:O.Ns s.heap.objs.size λx=>(ps.zip us).reverse.lookup x) (hk:∀b o,s.heap.get? b=ca o->O.get? b=ca o)
  (J:∀x c,cl.lookup x=ca c->scope.names.lookup x=ca .free/\(∃v,s.heap.IsCell c v)/\H c=la) (inj:∀x y c,cl.lookup x=ca c->cl.lookup y=ca c->x=y)
  (has:∀x,scope.names.lookup x=ca .free->∃c,cl.lookup x=ca c)
  (hv:∀i x v,N[ps.length+i]?=ca x->cvs[i]?=ca v->scope.names.lookup x=ca .free/\∃c u,cl.lookup x=ca c/\RelV v u/\s.heap.IsCell c (ca u)) :
  La (Uk P w K mg base N qual scope cl f cd A outer s H E) [] (start N (vs++cvs)) H { s with heap:=O,toks:=tk }:=by
 have F:∀b:Aa,b∉(Uk P w K mg base N qual scope cl f cd A outer s H E).ex:=λb z=>absurd (show b∈([]:List Aa)from z) (by simp)
 have I:∀{c:Aa} {v:Option Ba},s.heap.IsCell c v->O.IsCell c v:=λ⟨o,ho,hd⟩=>⟨o,hk _ _ ho,hd⟩;refine⟨⟨e0.mod,S.kind,rfl,rfl,ub _,inj,λy L=>?_,λy c R h=>?_,λ_=>hd,JL e0.frames,.inr ⟨rfl,rfl⟩,λb z=>absurd z (F b),e0.bs,e0.bsz,λb _ _=>F b,λb z=>absurd z (F b),e0.funs,e0.frf⟩,
  rfl,e0.bare,Un.kept hk,⟨_,xa,λi y v O h2 h3=>?_⟩,λy c h=>?_,e0.hok.fresh (ub _),λy c h=>(J y c h).2.2,λp Y=>absurd (show p∈([]:List (Aa×Obj))from Y) (by simp),e0.hok.kept hk,?_⟩
 ·have L:scope.names.lookup y=ca .cell\/scope.names.lookup y=ca .free:=L;rcases L with L|L
  ·exact absurd rfl (S.nocell _ (cg L))
  ·exact has y L
 ·have R:(scope.names.lookup y != ca .free)=da:=R;rw[(J y c h).1]at R
  lia
 ·have e:=GU h2;by_cases hi:i<vs.length
  ·rw[Qn hi]at e;obtain⟨u,hu,rv⟩:=r.get e;have Y:ps[i]?=ca y:=by
    rw[<- S.pre,zL (by lia)];exact O
   have Z:ps.Nodup:=by rw[<- S.pre];exact S.nd.sublist (lC _ _)
   exact⟨u,rv,.inl ⟨S.par y (Ze Y),gS Z Y hu⟩⟩
  ·rw[At (by lia)]at e
   obtain⟨R,c,u,hc,rv,z⟩:=hv (i-vs.length) y v (by rw[<- hl,Nat.add_sub_cancel' (by lia)];exact O) e
   exact⟨u,rv,.inr ⟨.inr R,c,hc,I z⟩⟩
 ·obtain⟨_,⟨v,z⟩,_⟩:=J y c h
  grind
 ·unfold start;show _=N.length;rw[Ke,Bc,GL,Ke]
  lia
def PR  {K: Hb} 
  (ho:s.heap.get? f=ca o) (hd:o.data=.func (fnX name qual params body scope cl .none .none Y pm la F Z)) (xa:s.heap.CodeRec F qual) (S:CloScope N ps scope) (hr:Room (k+1) A) (e0:Env0 P w K mg base A outer s H)
  (hb:Jd s (fnX name qual params body scope cl .none .none Y pm la F Z) args (ps.zip us)) (r:Vals vs us) (hl:vs.length=ps.length) (hN:vs.length+cvs.length<=N.length)
  (ja:∀x c,cl.lookup x=ca c->scope.names.lookup x=ca .free/\(∃v,s.heap.IsCell c v)/\H c=la) (inj:∀x y c,cl.lookup x=ca c->cl.lookup y=ca c->x=y)
  (has:∀x,scope.names.lookup x=ca .free->∃c,cl.lookup x=ca c)
  (hv:∀i x v,N[ps.length+i]?=ca x->cvs[i]?=ca v->scope.names.lookup x=ca .free/\∃c u,cl.lookup x=ca c/\RelV v u/\s.heap.IsCell c (ca u))
  (O:Room k (A.deeper (envX qual scope s.heap.objs.size f F cl))->∃t,Fd (Uk P w K mg base N qual scope cl f F A outer s H E) body t/\t { nx:=λ_ H'=>Q .non H',rt:=Q } (start N (vs++cvs)) H) :
  codeAny (Fa P w) A (.call (.ref f) args) (CR (ed P w) outer P w H s Q E) s:=by
 have za:s.heap.NoLimit:=e0.mod.nolimit.keeps λb o e=>(e0.bs b o e).1;refine codeAny_call_def (fd:=fnX name qual params body scope cl .none .none Y pm la F Z) (body:=body) hr.depth ho hd za xa rfl hb S.nocell (λy hy=>S.par y.1 (Np (show(y.1,y.2)∈_ from hy)).1) (λh1 va hk=>?_) S.co S.gen S.kind;obtain⟨t,ht,hq⟩:=O (hr.deeper _);have I:=xR (tk:=s.toks+(ps.zip us).length) (qual:=qual) (f:=f) (cd:=F) (E:=E) S hr.hd e0 hl r hN va hk ja inj has hv;refine Pe (ht [] _ _ H _ I hq) (λfl s' hs=>?_) λe s' z=>?_
 ·have R:∀{L:St} {H':Hp} {v:V} {u:Ba},La (Uk P w K mg base N qual scope cl f F A outer s H E) [] L H' s'->RelV v u->Q v H'->CE outer P w H s Q u s':=
   λ{L H' v u} J rv q=>⟨v,H',J.os,J.bare,J.base,J.hok,rv,q⟩
  cases fl with
  |ret u=>
   obtain⟨v,L,H',J,rv,q⟩:=hs;exact R J rv q
  |next=>
   obtain⟨L,H',J,q⟩:=hs;exact R (v:=V.non) (u:=uh) J rfl q
  |brk=>
   obtain⟨_,_,_,q⟩:=hs
   lia
  |cont=>
   obtain⟨_,_,_,q⟩:=hs
   lia
 ·show wpAny _ _ (Rf _ e) _ _ s';unfold Rf;exact db z
def Fun.runX  {K: Hb}{st:Pa} 
  (F:Fun K x qual st f fd) (S:FnScope N ps (Xb st)) (hr:Room (k+1) A) (e0:Env0 P w K mg base A outer s H) (hb:Jd s fd args (ps.zip us)) (r:Vals vs us) (hl:vs.length=ps.length)
  (R:∀L,fd.code=L->Room k (A.deeper (Jc qual (Xb st) s.heap.objs.size f L))->∃t,Fd (Ym P w K mg base N qual (Xb st) f L A outer s H E) (Yc st) t/\t { nx:=λ_ H'=>Q .non H',rt:=Q } (start N vs) H) :
  codeAny (Fa P w) A (.call (.ref f) args) (CR (ed P w) outer P w H s Q E) s:=by
 obtain⟨oc,od,kV,ja,pm,an,L,ct,za,rfl,lk,Z⟩:=F.ex;have kx:K.In s.heap:=e0.mod.kin.keeps λb o e=>(e0.bs b o e).1;have O:∀y∈ps.zip us,(Xb st).names.lookup y.1=ca .local\/((Xb st).names.lookup y.1=ca .cell/\((Gf (s.heap.objs.size+1) (Xb st).names []).lookup y.1).isSome=da):=λ⟨n,v⟩ hy=>
  (S.par n (Np hy).1).imp id λq=>⟨q,sx _ _ _ (.inl q)⟩
 refine qC hr.depth (kx _ _ lk) rfl S.co S.gen rfl (VB kx Z) (hb _ _ _ _ (EC S.kind O λva he s1 y=>?_));subst he;refine⟨(e0.mod.nolimit.keeps λb o e=>(e0.bs b o e).1).keeps y.toInCall.keep,pB ?_⟩;obtain⟨t,ht,hq⟩:=R L rfl (hr.deeper _);have I:La (cxOf (ed P w) P w K mg base N qual (Xb st) f L A outer s H E) [] (start N vs) H s1:=Iz S hr.hd e0 hl r y;refine Pe (ht [] s1 (start N vs) H _ (I.wish _) hq) (λfl s' Y=>?_) λe s' z=>?_
 ·cases fl with
  |ret u=>obtain⟨v,xa,H',J,rv,q⟩:=Y;exact⟨v,H',J.os,J.bare,J.base,J.hok,rv,q⟩
  |next=>obtain⟨xa,H',J,q⟩:=Y;exact⟨.non,H',J.os,J.bare,J.base,J.hok,rfl,q⟩
  |brk=>obtain⟨_,_,_,q⟩:=Y;lia
  |cont=>obtain⟨_,_,_,q⟩:=Y;lia
 ·show wpAny _ _ (Rf _ e) _ _ s';unfold Rf;exact db z
def ed.outC  {K: Hb}{F:St} 
  (I:La (Uk P w K mg base N qual scope cl f cd A outer s H E) pins F H' s') (l:Lies s.heap.objs.size [] H' s'.heap ea cls dx) (q:E cls dx H'):(Uk P w K mg base N qual scope cl f cd A outer s H E).xe (.ref ea) s':=by
 have J:La (Uk P w K mg base N qual scope cl f cd A outer s H E) [] F H' s':=I.pins_of λp O=>absurd O (by simp)
 exact Ny (X:=Uk P w K mg base N qual scope cl f cd A outer s H E) (E:=λe s'=>ed P w outer H s E e s') J rfl rfl l λR z L=>⟨ea,H',cls,dx,rfl,z.os,z.bare,z.base,z.hok,L,q⟩
def uy  (o:Obj)(q:Str):Prop:=∃y t,o.data=.fields y/\y[1]?=ca (.str q t)
noncomputable abbrev frzC  (o:Obj):HO:=.frz o (.ext λ_=>True)
def PD  (H:Hp)(P:Aa)(pos:Pos)(q:Str):Prop:=
 H P=ca (.tbl #[])\/∃c y,H P=ca (.tbl #[Sb pos.line,Sb pos.col,.ref c])/\H c=ca (frzC y)/\uy y q
def OD  (H H':Hp)(P:Aa)(pos:Pos)(q:Str)(c:Aa)(y:Obj):Prop:=
 H' c=ca (frzC y)/\uy y q/\(H'=H\/(H P=ca (.tbl #[])/\H c=la/\H'=upd (upd H c (frzC y)) P (.tbl #[Sb pos.line,Sb pos.col,.ref c])))
def BmAt  (mg:Str->Option Ba)(base:Va):Prop:=∃z y,mg "__builtins__" = ca (.ref z)/\z≠Ep/\base.get? z=ca y/\y.cls=.type "module" /\ y.dict=ca Ep/\y.data=.plain

def mT  {σ: St}(I:La X pins σ H s)(hN:X.N.Nodup)(hi:X.N[i]?=ca name)(hx:Ml X.env.scope name)(vb:X.fn name=da\/X.env.scope.names.lookup name=ca .local)
  (ya:X.env.code=.ref c) (hC:CodeHd X.base c P) (hB:BmAt X.mg X.base) (hT:PD H P pos (nl X.env name name)) (vd:params.defaults=[]) (hc:params.kw_defaults=[]) (ha:annTrees params la X.env=[])
  (Y:∀y∈scope.names,y.2=.free->∃c,X.env.cells.lookup y.1=ca c)
  (h:∀f F oc L O H' s',OD H H' P pos (nl X.env name name) F oc->
   La X (pins++[(f,gq name (nl X.env name name) params body scope (ng X.env.cells scope.names []) L ((X.mg "__name__").getD .none) F O)]) (σ.set i (ca (.ref f))) H' s'->Q .next s') :
  wpAny (Fa X.prog X.w) X.A (exec (.FunctionDef name params body [] la [] scope la name pos) X.env) Q X.xe s:=by
 refine nestDef_K vd hc ha ?_;have hg:s.heap.Ns Ud X.mg:=I.mod.glob.keeps I.bk;obtain⟨bm,ob,b1,b2,b3,b4,b5,b6⟩:=hB;have xb:=I.bk _ _ b3;have jb:bm≠Ud:=λq=>by
  obtain⟨o,es,ep,e,hd,_⟩:=hg
  lia
 have za:∀{ps:Array Ba},s.heap.get? P=ca (dq ps)->Ud≠P/\bm≠P:=by
  intro ps hP;constructor
  ·intro q;obtain⟨o,es,ep,e,hd,_⟩:=hg
   lia
  lia
 have Z:∀{f:Aa} {fo:Obj} {H':Hp} {s':Da},s.heap.objs.size<=f->s'.heap.get? f=ca fo->H' f=la->(∀v,fo.data≠.cell v)->La X pins σ H' s'->La X (pins++[(f,fo)]) σ H' s':=λ{f fo H' s'} hf hg hn hd J=>
  J.pins_of λp hp=>(Oa.mp hp).elim (λz=>J.pin p (Ag _ z)) λz=>by
   rw[Ea.mp z];exact⟨hg,hn,Nat.ne_of_gt (Mf I.lt hf),I.nofs hf,hd⟩
 rcases hT with hP|⟨F,oc,hP,hc',hco⟩
 ·have gP:s.heap.get? P=ca (dq #[]):=I.hok P _ hP;refine makeFunction_K (mg:=X.mg) (nI Y) I.ok.glob hg ya (hC.keeps I.bk) gP trivial rfl (za gP).1 ⟨bm,ob,b1,b2,jb,(za gP).2,xb,b4,b5,b6⟩ λF O L R tk wc ja xd xc wd=>?_;obtain⟨c2,oc,vs,t,e2,kb,vc,qd⟩:=xc;cases e2;have jd:H F=la:=I.hok.fresh ja;have jc:F≠P:=λz=>by lia
  have xa:R.get? P=ca (dq #[Sb pos.line,Sb pos.col,.ref F]):=by
   simp_all
  let fo:=gq name (nl X.env name name) params body scope (ng X.env.cells scope.names []) L ((X.mg "__name__").getD .none) F O
  let H':=upd (upd H F (frzC oc)) P (.tbl #[Sb pos.line,Sb pos.col,.ref F])
  have kc:∀b,b≠P->b≠F->H' b=H b:=λb h1 h2=>by show upd _ _ _ b=_;rw[Ac h1,Ac h2]
  have yc:H' P=ca (.tbl #[Sb pos.line,Sb pos.col,.ref F]):=Xe;have ka:H' F=ca (frzC oc):=by show upd _ _ _ F=_;rw[Ac jc,Xe]
  have zc:∀b,H b=la->b≠P:=λb n z=>by lia
  have qe:∀b o,s.heap.get? b=ca o->b≠F:=λb o e z=>absurd (Nc e) (Ub.mpr (z ▸ ja));have kp:∀b o,b≠P->s.heap.get? b=ca o->(R.push fo).get? b=ca o:=λb o hb e=>Uc _ (wc b o hb e);have yd:∀b u,H b=ca u->b≠F:=λb u e z=>by lia
  have un:Un X.fs [] H H' s.heap (R.push fo):=by
   refine⟨λb o e n _ _=>kp b o (zc b n) e,λb o e n _ _=>⟨o.slots,kp b o (zc b n) e⟩,λb o e n _=>?_,λb o e _=>?_,λb xs e=>?_,λb o u e=>?_,λb ps e=>?_⟩
   ·simp_all
   ·by_cases hb:b=P
    ·exact⟨_,by rw[hb];exact Uc _ xa⟩
    simp_all
   ·grind
   ·grind
   ·by_cases hb:b=P
    ·simp_all
    simp_all
  have zd:Md X.prog X.w H' (R.push fo):=λb u e=>by
   by_cases hb:b=P
   ·subst hb;rw[yc]at e;cases e;exact Uc _ xa
   ·by_cases va:b=F
    ·subst va;rw[ka]at e;cases e;exact⟨Uc _ kb,trivial,⟨_,Uc _ kb⟩,λ_ _ _ _=>trivial⟩
    ·rw[kc b hb va]at e;refine(I.hok b u e).stay (λd v hd q=>kp d v ?_ q) (λd q=>?_) λd xs q=>?_
     ·lia
     ·grind
     grind
  have yb:s.heap.objs.size<=R.objs.size:=fk (Yg ja xd);have qc:H' R.objs.size=la:=by
   have hn:H R.objs.size=la:=I.hok.fresh yb
   grind
  have J:=Z (fo:=fo) (s':={ s with heap:=R.push fo,toks:=tk }) yb (Zg _ rfl) qc (λv z=>by cases z) (I.un (t':=tk) un zd)
  exact Wm J hN hi hx (v:=.ref R.objs.size) rfl (λs' J'=>h _ F oc L O H' s' ⟨ka,⟨vs,t,vc,qd⟩,.inr ⟨hP,jd,rfl⟩⟩ J') vb
 ·have gP:s.heap.get? P=ca (dq #[Sb pos.line,Sb pos.col,.ref F]):=I.hok P _ hP;refine makeFunction_hit (mg:=X.mg) (cv:=.ref F) (nI Y) I.ok.glob hg ya (hC.keeps I.bk) gP trivial (by simp[codeAmong,Sb]) ⟨bm,ob,b1,b2,jb,(za gP).2,xb,b4,b5,b6⟩ λO L R tk hk zb=>?_
  have kp:∀b o,s.heap.get? b=ca o->(R.push (gq name (nl X.env name name) params body scope (ng X.env.cells scope.names []) L ((X.mg "__name__").getD .none) F O)).get? b=ca o:=λb o e=>Uc _ (hk b o e);have J:=Z (fo:=gq name (nl X.env name name) params body scope (ng X.env.cells scope.names []) L ((X.mg "__name__").getD .none) F O) (H':=H) (s':={ s with heap:=_,toks:=tk }) zb (Zg _ rfl) (I.hok.fresh zb) (λv z=>by cases z) (I.kept (t':=tk) kp)
  exact Wm J hN hi hx (v:=.ref R.objs.size) rfl (λs' J'=>h _ F oc L O H s' ⟨hc',hco,.inl rfl⟩ J') vb
def Uu  (tb:List Aa)(H:Hp):Prop:=∀b,if b∈tb then H b=ca (.tbl #[]) else H b=la\/∃o y,H b=ca (.frz o (.lst y))
def law_callT    {K:Hb}{CX:Vn}{k:Nat}{x:Str}{sp:Sp} 
  (vb:(K.all λp=>p.2.cls != .type "list")=da) (Z:∀b∈tb,y.heap.get? b=ca (dq #[])/\isCodeTable y.heap b/\K.lookup b=la) (qc:BmAt mg y.heap)
  (KX:K.In y.heap) (xa:∃o,K.lookup Of=ca o/\o.cls=.type "dict") (ya:y.heap.Ns Ud mg) (hb:y.heap.Ns Ep mb) (jb:∀x:Str,x ≠ "__name__" -> mb x=rj x) (va:y.heap.NoLimit) (hg:y.gens=#[])
  (ha:y.heap.get? a=ca { cls:=.type "list",data:=.seq vs.toArray }) (hi:Ej vs ns) (hl:ns.length<=Wa) (hr:Room k fh)
  (F:∀base ,K.In base->base.Ns Ud mg->BmAt mg base->FnOk P w K mg base CX k fa fd [x] sp) (R:∀(s:Da) u ,Jd s fd ⟨[u],[]⟩ [(x,u)])
  (zb:∀H (o:Obj),Uu tb H->H a=ca (.frz o (.lst (ns.map V.int)))->sp [.ref a] H (λv _=>v=.bl da) λ_ _ _=>False)
  (kb:∀H e s',CX [] H y (λ_ _ _=>False) e s'->False) :
  codeAny (Fa P w) fh (.call (.ref fa) ⟨[.ref a],[]⟩) (λr s'=>r=.ok (.ret (.bool da))/\OldK y.heap s'.heap/\s'.os=y.os/\re s'.gens) y:=by
 have ka:K.lookup a=la:=by
  cases hk:K.lookup a with
  |none=>rfl
  |some o=>
   have e:=KX a o hk;rw[ha]at e;cases e;have:=Qa.mp vb (a,_) (mem_of_lookupK hk)
   lia
 let oa:Obj:={ cls:=.type "list",data:=.seq vs.toArray }
 have xc:a∉tb:=λz=>by
  simp_all
 obtain⟨H,hH⟩:∃H:Hp,H=λb=>if b∈tb then ca (.tbl #[]) else if b=a then ca (.frz oa (.lst (ns.map V.int))) else la:=⟨_,rfl⟩
 have H1:∀{b},b∈tb->H b=ca (.tbl #[]):=λhb=>by lia
 have H2:H a=ca (.frz oa (.lst (ns.map V.int))):=by
  lia
 have H3:∀{b},b∉tb->b≠a->H b=la:=λ{b} I L=>by
  lia
 clear hH;have ja:∀{b:Aa} {o:Obj},y.heap.get? b=ca o->o.cls≠.none->(∀xs n,o.data≠.seq xs n)->H b=la:=λ{b o} e I L=>by
  refine H3 (λz=>?_) λz=>?_
  ·grind
  grind
 have yb:Md P w H y.heap:=λb u e=>by
  by_cases I:b∈tb
  ·rw[H1 I]at e;cases e;exact(Z b I).1
  ·by_cases L:b=a
   ·subst L;rw[H2]at e;cases e;exact⟨ha,by simp_all,vs,_,jG hi,ha⟩
   simp_all
 have J:∀{b:Aa} {m:Str->Option Ba},y.heap.Ns b m->(hidT y.heap H).Ns b m:=λ{b m} ⟨o,es,ep,e,d,r⟩=>by
  refine⟨o,es,ep,Bz e (H3 (λz=>?_) λz=>?_),d,r⟩
  ·grind
  lia
 have za:K.In (hidT y.heap H):=λb o e=>Bz (KX b o e) (H3 (λz=>by grind) λz=>by lia)
 have hM:Mod K mg (hidT y.heap H):=⟨za,J ya,⟨mb,J hb,jb⟩,let ⟨mc,I,L⟩:=va;⟨mc,J I,L⟩,xa⟩
 have xb:BmAt mg (hidT y.heap H):=by
  obtain⟨bm,ob,b1,b2,b3,b4,b5,b6⟩:=qc;exact⟨bm,ob,b1,b2,Bz b3 (ja b3 (by lia) (by lia)),b4,b5,b6⟩
 have e0:Env0 P w K mg (hidT y.heap H) fh [] y H:=⟨rfl,hM,λb o e=>VQ e,Zw (NT _ _),trivial,λb hb=>(nomatch hb),yb,.of_eq hg⟩;have only:Uu tb H:=λb=>by
  grind
 refine Qp ((F _ za (J ya) xb).run fh [] y H ⟨[.ref a],[]⟩ [.ref a] [.ref a] _ _ hr e0 (R y (.ref a)) (.cons rfl .nil) (zb H oa only H2)) λr s' h=>?_
 match r,h with
 |.error e,h=>exact(kb H e s' h).elim
 |.ok (.ret u),h=>
  obtain⟨v,H',os,bare,un,O,r',q⟩:=h;have q':v=.bl da:=q;subst q';obtain rfl:u=Gw da:=r';refine⟨rfl,⟨λb o e=>?_,λb o e=>un.there b o e (by simp)⟩,os,bare⟩
  by_cases I:b∈tb
  ·obtain⟨e1,ht,_⟩:=Z b I;rw[e]at e1;cases e1;obtain⟨Y,e2⟩:=un.tbls b _ (H1 I);exact .inr (.inl ⟨ht,rfl,#[],Y,rfl,O b _ e2⟩)
  ·by_cases L:b=a
   ·subst L;obtain⟨e2,_⟩:=O b _ (un.frzs b _ _ H2);rw[ha]at e;cases e;exact .inl e2
   ·exact .inl (un.keep b o e (H3 I L) (by intro z;exact(nomatch z)) (by simp))
def walk_ofT  {l:fC}{K:Za->Hb}{CX:ib->Vn}{sp:ib->Sp}{tbs:List (Str×Aa×Aa)}
  (xa:∀w:ib,((K w.params).all λp=>p.2.cls != .type "list")=da) (R:∀(w:ib),∀t∈tbs,(∃dr,(recsOf q).find? (λe=>e.name==t.1)=ca dr)/\tabIn (K w.params) t.1=ca (t.2.1,t.2.2)/\(K w.params).lookup t.2.2=la)
  (hn:l.most=ca n) (za:n<=Wa) (ya:d.params.defaults=[]) (hr:Room k fh)
  (hY:∀(w:ib) (h:Va),YP w h->(K w.params).In h) (Z:∀w:ib,∃o,(K w.params).lookup Of=ca o/\o.cls=.type "dict")
  (F:∀(w:ib) mg L (h:Va),(K w.params).In h->h.Ns Ud mg->mg d.name=ca (.ref L)->
   ∃fd ,(∀(s:Da) u ,Jd s fd ⟨[u],[]⟩ [(x,u)])/\
    ∀base ,(K w.params).In base->base.Ns Ud mg->BmAt mg base->FnOk l.prog w (K w.params) mg base (CX w) k L fd [x] (sp w))
  (O:∀(w:ib) H (o:Obj) a (ns:List Int),ns.length<=n->Uu (tbs.map (·.2.2)) H->H a=ca (.frz o (.lst (ns.map V.int)))->sp w [.ref a] H (λv _=>v=.bl da) λ_ _ _=>False)
  (va:∀(w:ib) H (s:Da) (e:Ba) s' ,CX w [] H s (λ_ _ _=>False) e s'->False) :
  fL q loose XP YP l.row.toRowW d [] (λf vs=>lB f vs):=by
 refine Att.attach_call hn ya λw ka I mg mb L o pm cd zb a vs ns G Y ho hd xb ja J z y hg=>?_;have kx:=hY w _ Y;obtain⟨fd,hb,hF⟩:=F w mg L _ kx G.T.g ja;refine law_callT (tb:=tbs.map (·.2.2)) (xa w) (λb hb=>?_) ?_ kx (Z w) G.T.g G.T.b G.T.builtins G.T.nolimit hg J z (Jb y za) hr hF hb (λH o hO hS=>O w H o a ns y hO hS) λH e s'=>va w H I e s'
 ·obtain⟨t,ht,rfl⟩:=Fb.mp hb;obtain⟨⟨dr,h1⟩,h2,h3⟩:=R w t ht;obtain⟨c1,c2⟩:=tab_of G.T kx h1 h2;exact⟨c2,(c1.tab c2).isCodeTable,h3⟩
 ·obtain⟨bm,ob,b1,b2,b3,b4,b5,b6⟩:=G.T.bmain;exact⟨bm,ob,b1,b2,b3,b4,b5,b6⟩
end L2

namespace L2
open PySem PySem.Spec PyProof.Rows
open Sem (wp)
open AutoSeq1 (wpAny_loadPart')



end L2

namespace L2
open PySem PySem.Spec PyProof.Rows

def XU  : ic X (Ed .LtE) (λx y H Q=>∃i j,x=.str i/\y=.str j/\Q (.bl (!decide (j.cps.toList<i.cps.toList))) H):=by
 intro z s O H x y v u Q I J F h;obtain⟨i,j,rfl,rfl,q⟩:=h;obtain⟨t,rfl⟩:=J;obtain⟨L,rfl⟩:=F;exact PySem.P.le_str (Pd I q rfl)
def qW  : rf X (.type "int") (λxs H Q=>∃z n,xs=[.str z]/\PySem.intText? z=ca n/\z.length<=640/\Q (.int n) H):=by
 intro y s R H xs O Q I r h;obtain⟨z,n,rfl,J,F,q⟩:=h;obtain⟨u,rfl,L⟩:=gj r;obtain⟨t,rfl⟩:=L;exact PySem.W.KIN.call_text J F ⟨.int n,H,I.tok _,⟨_,rfl⟩,q⟩
end L2

namespace L2
open PySem PySem.Spec PyProof.Rows Builtin Builtin.Str

end L2

namespace L2
open PySem PySem.Spec PyProof.Rows
section
variable {prog:Ib}{w:ib}{K:Type}[DecidableEq K]{knd:KeyKind prog w K}{A:Kb}{E:Ba->Da->Prop}{s:Da}
end



end L2

namespace L2
open PySem PySem.Spec PyProof.Rows
open Sem (wp)


end L2

namespace L2
open PySem PySem.Spec PyProof.Rows PySem.W


end L2

namespace L2
open PySem PySem.Spec PyProof.Rows



end L2

namespace L2
open PySem PySem.Spec PyProof.Rows PySem.SeqAt PySem.MeetsSeq

def xW         b u (z:s.heap.get? l=ca o)(R:o.cls=.type "dict")(hd:o.data=.dict es n)(hu:A.units<Pb):RcAt A s (.str b u) (.ref l) ia:=λL w E Q h=>by
 obtain⟨Y,I,O,J⟩:=o;simp only at R hd;subst R hd;exact rc_eq_decline_or (k:=ia) (cn s b u) ⟨_,z,rfl⟩ (by decide) F.sub_dict_str F.slot_str_eq qK
  (λ_ y=>Ah F.slot_str_eq (cn s b u) F.entry_str_eq (F.args_str_eq_2 _ _) (iK b u l es n I J) ⟨z,y⟩)
  (λ_ y=>Ah qK ⟨_,z,rfl⟩ F.entry_dict_eq (F.args_dict_eq_2 _ _) (fK l es n I J b u) ⟨z,y⟩)
  (λ_ y=>Nl (rfl:isSame (.str b u) (.ref l)=pure ia) y) (.inr hu) h
def EqAt.str_dict         b u (I:s.heap.get? l=ca o)(F:o.cls=.type "dict")(hd:o.data=.dict es n)(hu:A.units<Pb):EqAt A s (.str b u) (.ref l) ia:=λz w E Q h=>by
 unfold eqBool;exact al (wpAny_ite_split (λq=>absurd (eq_of_beq q) nofun) λ_=>db (xW b u I F hd hu z w E _ (Si h)))
def rInS  (K:Hb)(z:Bool):R2:=λx y H Q=>∃(a p:Aa) (zs:List Str),x=.ref a/\((∃I,Pc K H a I\/Zc K H a I)\/∃F,H a=ca (.dK F))/\y=.ref p/\Pc K H p (zs.map V.str)/\Q (.bl z) H
theorem UF  : ∀{y:List Str} {us } {w },Vals (y.map V.str) us->w∈us->∃z t,w=.str z t
 |[],_,_,.nil,h=>nomatch h
 |_::_,_,_,.cons ⟨t,e⟩ q,h=>by
  rcases Oc.mp h with rfl|h
  ·exact⟨_,t,e⟩
  ·exact UF q h
def BE   {σ:St}{zs:List Str}(hu:A.units<Pb)(I:La X pins σ H s)(y:(∃xs,Pc X.K H a xs\/Zc X.K H a xs)\/∃kvs,H a=ca (.dK kvs))(r:Vals (zs.map V.str) us):∀w,w∈us->Zf A s w (.ref a) ia:=by
 intro w O;obtain⟨z,t,rfl⟩:=UF r O;rcases y with⟨xs,y|y⟩|⟨kvs,y⟩
 ·obtain⟨F,Y,J,_⟩:=I.tuple y;exact .str_tuple z t (show s.heap.IsTuple a F.toArray from J) hu
 ·obtain⟨F,Y,J,_⟩:=I.list y;exact .str_list z t J.isList hu
 ·obtain⟨_,_,L,_,o,es,ep,R,Z,hd,_⟩:kvs.length<=Wa/\(a==Of)=ia/\∃L,KV kvs L/\s.heap.DictOf (sf X.prog X.w) a L:=I.hok a _ y;exact EqAt.str_dict z t R Z.1 hd hu
def WO   (hr:Room k X.A):ic X (Ed .In) (rInS X.K ia):=by
 intro F s σ H x y v u Q I Z Y h;obtain⟨a,p,zs,rfl,J,rfl,R,q⟩:=h;cases Z;cases Y;obtain⟨z,r,L,_⟩:=I.tuple R;have O:=BE (A:=X.A.in1) (by have:=hr.un;simp only[Kb.in1]at *;lia) I J r
 refine iC (λ_=>ia) L (λw hw=>O w (by simp_all)) ⟨.bl _,H,I,rfl,?_⟩
 rw[show z.toArray.any (λ_=>ia)=ia by simp]
 exact q
def ZU   (hr:Room k X.A):ic X (Ed .NotIn) (rInS X.K da):=by
 intro F s σ H x y v u Q I Z Y h;obtain⟨a,p,zs,rfl,J,rfl,R,q⟩:=h;cases Z;cases Y;obtain⟨z,r,L,_⟩:=I.tuple R;have O:=BE (A:=X.A.in1) (by have:=hr.un;simp only[Kb.in1]at *;lia) I J r
 refine WB (λ_=>ia) L (λw hw=>O w (by simp_all)) ⟨.bl _,H,I,rfl,?_⟩
 rw[show z.toArray.any (λ_=>ia)=ia by simp]
 exact q
def JV   (hr:Room k X.A):ic X (Ed .NotEq) (λx y H Q=>∃a b xs,x=.ref a/\y=.ref b/\Zc X.K H a xs/\Zc X.K H b []/\Q (.bl (!xs.isEmpty)) H):=by
 intro R s σ H x y v u Q I rx ry h;obtain⟨a,b,xs,rfl,rfl,Z,Y,q⟩:=h;cases rx;cases ry;obtain⟨J,rv,pa,_⟩:=I.list Z;obtain⟨O,L,pb,_⟩:=I.list Y;cases L;have hu:X.A.units<Pb:=hr.units0;have z:s.heap.IsList a J.toArray:=pa.isList;have F:s.heap.IsList b ([]:List Ba).toArray:=pb.isList;cases rv with
 |nil=>
  refine Ax (SeqAt.RcNeAt.lists (e:=λ_=>da) z F rfl hu λj h1 _=>?_) ⟨.bl ia,H,I,rfl,q⟩;simp at h1
 |cons r rr=>
  exact Ax (SeqAt.RcNeAt.lists_lengths z F (by simp) hu) ⟨.bl da,H,I,rfl,q⟩
end L2
namespace L2
open PySem PySem.Spec PyProof.Rows

def rUpd  : V->List V->Hp->VK->Prop:=λx F H Q=>∃a o z y,x=.ref a/\F=[.ref o]/\a≠o/\H a=ca (.dK z)/\H o=ca (.dK y)/\z.length+y.length<=Wa/\Q .non (upd H a (.dK (Oj z y)))
def CO  : Ll X "dict.update" rUpd:=by
 intro xa s σ H x vs v0 us Q I rx rv h;obtain⟨a,o,L,y,rfl,rfl,ne,e,e2,l,q⟩:=h;cases(show v0=Ae a from rx);obtain⟨u,rfl,ru⟩:=rv.one;cases(show u=Ae o from ru);obtain⟨z,hd,ws,J,dd⟩:=Qu I.hok e;obtain⟨z2,Z,R,F,Y⟩:=Qu I.hok e2;refine oB nL dd.typeIs PySem.F.entry_dict_update (PySem.F.args_dict_update_2 _ _) (meets_dict_update (sf X.prog X.w) a o ne Z) ⟨ws,R,dd,Y,by rw[<- J.length,<- F.length];exact l,λh' O _ hs=>?_⟩
 have he:∃q,h'.get? a=ca q:=let ⟨q,_,_,hq,_⟩:=O;⟨q,hq⟩
 have hl:(Oj L y).length<=Wa:=Jb (vA y L) l;exact⟨.non,_,Dv (t':=s.toks) I (by rw[e];exact Ph) hs he (Ay hl hd (F.merge J) O),rfl,q⟩
end L2

namespace Z
open PySem L2
set_option genInjectivity true
inductive U where
 |non|bl (b:Bool)|int (i:Int)|str (x:Str)|tup (xs:List U)|loc (a:Aa)|fn (n:Nat)|ty (n:String)
 |exc (c:Nat) (fs:List U)|own (n:Nat)|clo (n:Nat) (cs:List U)
set_option genInjectivity false
set_option genInjectivity true
inductive MO where
 |lst (xs:List U)|fro (xs:List U)|dK (kvs:List (Vb×U))|dT (kvs:List (List Vb×U))|frd (o:Obj) (kvs:List (List Vb×U))|frk (o:Obj) (kvs:List (Vb×U))
set_option genInjectivity false
abbrev Gp:=Aa->Option MO
noncomputable def Td  (G:Gp)(a:Aa)(o:MO):Gp:=λb=>if b=a then ca o else G b
structure Wh (G:Gp)(p:Aa)(o:MO)(G':Gp):Prop where
 no:G p=la
 eq:G'=Td G p o
structure Dh (G:Gp)(a:Aa)(o:MO)(G':Gp):Prop where
 eq:G'=Td G a o
structure XV where
 c:Nat
 fs:List U
abbrev Sg:=List (Option U)
abbrev K1:=U->Gp->Prop
abbrev KX:=XV->Gp->Prop
def newO  (G:Gp)(o:MO)(Q:K1):Prop:=∀p y,Wh G p o y->Q (.loc p) y
def putO  (G:Gp)(a:Aa)(o:MO)(Q:Gp->Prop):Prop:=∀y,Dh G a o y->Q y
def newO.at     (h:newO G o Q):∀p,G p=la->Q (.loc p) (Td G p o):=λp z=>h p _ ⟨z,rfl⟩
def putO.at      (h:putO G a o Q):Q (Td G a o):=h _ ⟨rfl⟩
structure En where
 nx:Sg->Gp->Prop
 rt:K1
 ex:XV->Sg->Gp->Prop
noncomputable def Ad  (G:Gp)(a:Aa):Option (List U):=match G a with
 |some (.lst xs)=>ca xs
 |some (.fro xs)=>ca xs
 |_=>la
noncomputable def kU  : U->Option Vb
 |.int i=>ca (.inl i)
 |.str x=>ca (.inr x)
 |_=>la
noncomputable def Dm  : List U->Option (List Vb)
 |[]=>ca []
 |u::r=>match kU u,Dm r with
  |some k,ca ks=>ca (k::ks)
  |_,_=>la
noncomputable def Ku  : Vb->U
 |.inl i=>.int i
 |.inr x=>.str x
section
variable {κ α:Type}[DecidableEq κ]
noncomputable def dGet (kvs:List (κ×α))(k:κ):Option α:=(kvs.find? λy=>decide (y.1=k)).map (·.2)
noncomputable def dPut (kvs:List (κ×α))(k:κ)(v:α):List (κ×α):=
 if (kvs.any λy=>decide (y.1=k))=da then kvs.map (λy=>if y.1=k then (y.1,v) else y) else kvs++[(k,v)]
def Rj (y:List (κ×α)):List (κ×α):=y.foldl (λz F=>dPut z F.1 F.2) []
end
def cut  {z:Type}(xs:List z)(y F:Option Int):List z:=(xs.drop (HT.sIx xs.length 0 y)).take (HT.sIx xs.length xs.length F-HT.sIx xs.length 0 y)
mutual
inductive DU (G:Gp):U->Ma->Prop
 |non:DU G .non .none
 |bl (b:Bool):DU G (.bl b) (.bool b)
 |int (i:Int):DU G (.int i) (.int i)
 |str (x:Str):DU G (.str x) (.str x)
 |tup {us:List U} {ds:List Ma}:Og G us ds->DU G (.tup us) (.tuple ds)
 |lst {a:Aa} {us:List U} {ds:List Ma}:Ad G a=ca us->Og G us ds->DU G (.loc a) (.list ds)
 |dic {a:Aa}:G a=ca (.dK [])->DU G (.loc a) (.dict [])
inductive Og (G:Gp):List U->List Ma->Prop
 |nil:Og G [] []
 |cons {u:U} {d:Ma} {us:List U} {ds:List Ma}:DU G u d->Og G us ds->Og G (u::us) (d::ds)
end
def addU  : U->U->Gp->K1->Prop
 |.int i,.int j,G,Q=>Q (.int (i+j)) G
 |.str x,.str y,G,Q=>x.length+y.length<=Wa/\Q (.str (x++y)) G
 |.tup z,.tup F,G,Q=>z.length+F.length<=Wa/\Q (.tup (z++F)) G
 |.loc a,.loc b,G,Q=>∃z F,G a=ca (.lst z)/\G b=ca (.lst F)/\z.length+F.length<=Wa/\newO G (.lst (z++F)) Q
 |.bl b,.int j,G,Q=>Q (.int ((if b=da then (1:Int) else 0)+j)) G
 |_,_,_,_=>False
def subU  : U->U->Gp->K1->Prop
 |.int i,.int j,G,Q=>Q (.int (i-j)) G
 |.bl b,.int j,G,Q=>Q (.int ((if b=da then (1:Int) else 0)-j)) G
 |.int i,.bl b,G,Q=>Q (.int (i-if b=da then (1:Int) else 0)) G
 |_,_,_,_=>False
def mulU  : U->U->Gp->K1->Prop
 |.int i,.int j,G,Q=>CMul i j/\Q (.int (i*j)) G
 |.loc a,.int k,G,Q=>∃y,G a=ca (.lst y)/\-(2 ^ 63)<=k/\k<2 ^ 63/\y.length*k.toNat<=Wa/\newO G (.lst (Ab k.toNat y).flatten) Q
 |.tup y,.int k,G,Q=>y≠[]/\0<=k/\k<2 ^ 62/\y.length*k.toNat<=Wa/\Q (.tup (Ab k.toNat y).flatten) G
 |.str z,.int k,G,Q=>0<=k/\k<1000/\z.length<=1000/\Q (.str (repS z k.toNat)) G
 |_,_,_,_=>False
def qD  : U->U->Gp->K1->Prop
 |.int i,.int j,G,Q=>0<j/\j<1073741824/\Q (.int (i/j)) G
 |_,_,_,_=>False
def modU  : U->U->Gp->K1->Prop
 |.int i,.int j,G,Q=>0<j/\Q (.int (i%j)) G
 |_,_,_,_=>False
def powU  : U->U->Gp->K1->Prop
 |.int i,.int j,G,Q=>CPow i j/\Q (.int (i ^ j.toNat)) G
 |_,_,_,_=>False
def binU  : Vj->U->U->Gp->K1->Prop
 |.Add=>addU
 |.Sub=>subU
 |.Mult=>mulU
 |.FloorDiv=>qD
 |.Mod=>modU
 |.Pow=>powU
 |_=>λ_ _ _ _=>False
def fj  : Vj->U->U->Gp->K1->Prop
 |.Add,.int i,.int j,G,Q=>Q (.int (i+j)) G
 |.Add,.str x,.str y,G,Q=>x.length+y.length<=Wa/\Q (.str (x++y)) G
 |.Sub,.int i,.int j,G,Q=>Q (.int (i-j)) G
 |.Mult,.int i,.int j,G,Q=>CMul i j/\Q (.int (i*j)) G
 |_,_,_,_,_=>False
def negU  : U->Gp->K1->Prop
 |.int i,G,Q=>Q (.int (-i)) G
 |_,_,_=>False
def Small  (d:Ma):Prop:=d.canLay0=da/\d.depth<=100
noncomputable def eqU  : U->U->Gp->(Bool->Prop)->Prop
 |.non,.non,_,k=>k da
 |.non,.bl _,_,k=>k ia
 |.non,.int _,_,k=>k ia
 |.non,.str _,_,k=>k ia
 |.bl _,.non,_,k=>k ia
 |.bl a,.bl b,_,k=>k (decide (a=b))
 |.bl _,.str _,_,k=>k ia
 |.int _,.non,_,k=>k ia
 |.int i,.int j,_,k=>k (decide (i=j))
 |.int _,.str _,_,k=>k ia
 |.str _,.non,_,k=>k ia
 |.str _,.bl _,_,k=>k ia
 |.str _,.int _,_,k=>k ia
 |.str x,.str y,_,k=>k (decide (x=y))
 |x,y,G,k=>∃d e,DU G x d/\DU G y e/\Small d/\Small e/\k (Ce d e)
def uw  : U->U->Gp->(Bool->Prop)->Prop
 |.loc a,.str y,G,k=>(∃F,G a=ca (.dK F)/\k ia)\/(∃z,G a=ca (.lst z)/\k ia)\/eqU (.loc a) (.str y) G k
 |.tup z,.tup [],_,k=>k z.isEmpty
 |.tup _,.str _,_,k=>k ia
 |x,y,G,k=>eqU x y G k
def fD  : U->U->Gp->(Bool->Prop)->Prop
 |.tup xs,.tup [],_,k=>k xs.isEmpty
 |.loc a,.loc b,G,k=>(∃z,G a=ca (.lst z)/\G b=ca (.lst [])/\k z.isEmpty)\/eqU (.loc a) (.loc b) G k
 |x,y,G,k=>eqU x y G k
def lj  : U->U->(Bool->Prop)->Prop
 |.non,.non,k=>k da
 |.bl a,.bl b,k=>k (decide (a=b))
 |.non,.bl _,k|.non,.int _,k|.non,.str _,k|.non,.tup _,k|.non,.loc _,k=>k ia
 |.bl _,.non,k|.int _,.non,k|.str _,.non,k|.tup _,.non,k|.loc _,.non,k=>k ia
 |.int _,.bl _,k|.str _,.bl _,k|.tup _,.bl _,k|.loc _,.bl _,k=>k ia
 |_,_,_=>False
noncomputable def flat  : U->Bool
 |.non|.bl _|.int _|.str _=>da
 |_=>ia
noncomputable def Xg  : U->U->Bool
 |.non,.non=>da
 |.bl a,.bl b=>a==b
 |.bl a,.int b=>(if a then 1 else 0)==b
 |.int a,.bl b=>a==(if b then 1 else 0)
 |.int a,.int b=>a==b
 |.str a,.str b=>a==b
 |_,_=>ia
noncomputable def Io  : List U->Option (List Str)
 |[]=>ca []
 |.str x::r=>(match Io r with|some l=>ca (x::l)|none=>la)
 |_=>la
def Wg  : U->U->Gp->(Bool->Prop)->Prop
 |.str x,.str y,_,k=>k (!(ux y x 0 y.length 1).isEmpty)
 |.tup I,.tup ys,G,k=>((Io ys).isSome=da/\k ia)\/∃d F,DU G (.tup I) d/\Og G ys F/\Small d/\(∀e∈F,Small e)/\k (F.any λe=>Ce e d)
 |.loc a,.tup ys,G,k=>(Io ys).isSome=da/\((∃I,G a=ca (.lst I))\/∃z,G a=ca (.dK z))/\k ia
 |x,.tup ys,_,k=>flat x=da/\ys.all flat=da/\k (ys.any λy=>Xg y x)
 |x,.loc a,G,k=>match G a with
  |some (.lst ys)=>(flat x=da/\ys.all flat=da/\k (ys.any λy=>Xg y x))\/
    ∃d F,DU G x d/\Og G ys F/\Small d/\(∀e∈F,Small e)/\k (F.any λe=>Ce e d)
  |some (.fro ys)=>flat x=da/\ys.all flat=da/\k (ys.any λy=>Xg y x)
  |some (.dK z)=>match kU x with
   |some y=>k (dGet z y).isSome
   |none=>False
  |some (.dT z)=>match x with
   |.tup I=>match Dm I with
    |some y=>k (dGet z y).isSome
    |none=>False
   |_=>False
  |some (.frk _ z)=>match kU x with
   |some y=>k (dGet z y).isSome
   |none=>False
  |_=>False
 |_,_,_,_=>False
def ordU  : Pt->U->U->(Bool->Prop)->Prop
 |.Lt,.int i,.int j,k=>k (decide (i<j))
 |.LtE,.int i,.int j,k=>k (decide (i<=j))
 |.LtE,.str x,.str y,k=>k (!decide (y.cps.toList<x.cps.toList))
 |.Gt,.int i,.int j,k=>k (decide (j<i))
 |.GtE,.int i,.int j,k=>k (decide (j<=i))
 |_,_,_,_=>False
def cmpU  : Pt->U->U->Gp->(Bool->Prop)->Prop
 |.Eq,x,y,G,k=>uw x y G k
 |.NotEq,x,y,G,k=>fD x y G λb=>k (!b)
 |.Is,x,y,_,k=>lj x y k
 |.IsNot,x,y,_,k=>lj x y λb=>k (!b)
 |.In,x,y,G,k=>Wg x y G k
 |.NotIn,x,y,G,k=>Wg x y G λb=>k (!b)
 |o,x,y,_,k=>ordU o x y k
def truU  : U->Gp->(Bool->Prop)->Prop
 |.non,_,k=>k ia
 |.bl b,_,k=>k b
 |.int i,_,k=>k (i != 0)
 |.str x,_,k=>x.length<=Wa/\k ((x.length:Int) != 0)
 |.tup xs,_,k=>k (!xs.isEmpty)
 |.loc a,G,k=>match G a with
  |some (.lst xs)=>k (!xs.isEmpty)
  |some (.fro xs)=>k (!xs.isEmpty)
  |some (.dK kvs)=>k (!kvs.isEmpty)
  |_=>False
 |_,_,_=>False
def tf  : U->U->Gp->K1->Prop
 |.tup xs,.int i,G,Q=>match atI xs i with
  |some u=>Q u G
  |none=>False
 |.str x,.int i,G,Q=>x.length<=Wa/\match atI x.cps.toList i with
  |some c=>Q (.str ⟨#[c]⟩) G
  |none=>False
 |.loc a,y,G,Q=>match G a with
  |some (.lst xs)=>(match y with|.int i=>(match atI xs i with|some u=>Q u G|none=>False)|_=>False)
  |some (.fro xs)=>(match y with|.int i=>(match atI xs i with|some u=>Q u G|none=>False)|_=>False)
  |some (.dK kvs)=>(match kU y with|some k=>(match dGet kvs k with|some u=>Q u G|none=>False)|none=>False)
  |some (.dT kvs)=>(match y with|.tup ys=>(match Dm ys with|some k=>(match dGet kvs k with|some u=>Q u G|none=>False)|none=>False)|_=>False)
  |some (.frk _ kvs)=>(match kU y with|some k=>(match dGet kvs k with|some u=>Q u G|none=>False)|none=>False)
  |_=>False
 |_,_,_,_=>False
def Wi  : U->Option Int->Option Int->Gp->K1->Prop
 |.tup y,lo,hi,G,Q=>Q (.tup (cut y lo hi)) G
 |.str x,lo,hi,G,Q=>x.length<=Wa/\Q (.str (Aw x lo hi)) G
 |.loc a,lo,hi,G,Q=>match Ad G a with
  |some y=>newO G (.lst (cut y lo hi)) Q
  |none=>False
 |_,_,_,_,_=>False
def revU  : U->U->Gp->K1->Prop
 |.tup y,.int i,G,Q=>i=-1/\Q (.tup y.reverse) G
 |.loc a,.int i,G,Q=>match Ad G a with
  |some y=>(i=1\/i=-1)/\newO G (.lst (if i=1 then y else y.reverse)) Q
  |none=>False
 |_,_,_,_=>False
def Mo  : U->U->Gp->K1->Prop
 |.loc a,.int i,G,Q=>(match G a with
  |some (.lst xs)=>0<=i/\(match xs[i.toNat]? with|some u=>Q u G|none=>False)
  |_=>False)
 |_,_,_,_=>False
def setU  : U->U->U->Gp->(Gp->Prop)->Prop
 |.loc a,y,v,G,Q=>match G a with
  |some (.lst xs)=>(match y with|.int i=>(match Mh xs.length i with|some j=>putO G a (.lst (xs.set j v)) Q|none=>False)|_=>False)
  |some (.dK kvs)=>(match kU y with|some k=>kvs.length<Wa/\putO G a (.dK (dPut kvs k v)) Q|none=>False)
  |some (.dT kvs)=>(match y with|.tup ys=>(match Dm ys with|some k=>kvs.length<Wa/\putO G a (.dT (dPut kvs k v)) Q|none=>False)|_=>False)
  |_=>False
 |_,_,_,_,_=>False
inductive Blt|len|repr|min|max|sum|all|any|sorted|int|str|isi
 deriving DecidableEq
inductive Mth|append|extend|insert|pop|reverse|index|join|get|split|setd|clear|count|upper|update
 deriving DecidableEq
noncomputable def Mk  : List U->Option (List Int)
 |[]=>ca []
 |.int i::r=>(match Mk r with|some l=>ca (i::l)|none=>la)
 |_=>la
noncomputable def Om  : List U->Option (List Bool)
 |[]=>ca []
 |.bl x::r=>(match Om r with|some l=>ca (x::l)|none=>la)
 |_=>la
noncomputable def Rl  : U->Gp->Option String
 |.non,_=>ca "NoneType"
 |.bl _,_=>ca "bool"
 |.int _,_=>ca "int"
 |.str _,_=>ca "str"
 |.tup _,_=>ca "tuple"
 |.loc a,G=>match G a with
  |some (.lst _)=>ca "list"
  |some (.dK _)=>ca "dict"
  |some (.dT _)=>ca "dict"
  |_=>la
 |_,_=>la
def isiU  (x:U)(G:Gp)(t:String):Option Bool:=match Rl x G with
 |some n=>if t∈["bool", "int", "str", "list", "tuple", "dict"] then ca (n==t||(n == "bool" && t == "int")) else la
 |none=>la
def lenU  : List U->Gp->K1->Prop
 |[.tup xs],G,Q=>Q (.int xs.length) G
 |[.str x],G,Q=>x.length<=Wa/\Q (.int x.length) G
 |[.loc a],G,Q=>(match G a with
  |some (.lst xs)=>Q (.int xs.length) G
  |some (.fro xs)=>Q (.int xs.length) G
  |some (.dK kvs)=>Q (.int kvs.length) G
  |_=>False)
 |_,_,_=>False
def Ho  : List U->Gp->K1->Prop
 |[u],G,Q=>∃d,DU G u d/\Fits 16000000 60 d/\Q (.str d.shown) G
 |_,_,_=>False
def minU  : List U->Gp->K1->Prop
 |[.int i,.int j],G,Q=>Q (.int (if j<i then j else i)) G
 |_,_,_=>False
def oD  (xs:List U)(G:Gp)(Q:K1):Prop:=match Mk xs with
 |some F=>F≠[]/\∀z∈F,(∀y∈F,y<=z)->Q (.int z) G
 |none=>False
def maxU  : List U->Gp->K1->Prop
 |[.int i,.int j],G,Q=>Q (.int (if j>i then j else i)) G
 |[.loc a],G,Q=>(match G a with
  |some (.lst xs)=>oD xs G Q
  |_=>False)
 |[.tup xs],G,Q=>oD xs G Q
 |_,_,_=>False
def sumU  : List U->Gp->K1->Prop
 |[.loc a],G,Q=>(match G a with
  |some (.lst xs)=>(match Mk xs with|some ns=>Q (.int ns.sum) G|none=>False)
  |_=>False)
 |_,_,_=>False
def allU  : List U->Gp->K1->Prop
 |[.loc a],G,Q=>(match G a with
  |some (.lst xs)=>(match Om xs with|some bs=>Q (.bl (bs.all id)) G|none=>False)
  |_=>False)
 |_,_,_=>False
def intU  : List U->Gp->K1->Prop
 |[.int i],G,Q=>Q (.int i) G
 |[.bl b],G,Q=>Q (.int (if b then 1 else 0)) G
 |[.str z],G,Q=>∃n,PySem.intText? z=ca n/\z.length<=640/\Q (.int n) G
 |_,_,_=>False
def Lo  : List U->Gp->K1->Prop
 |[x,.ty t],G,Q=>(match isiU x G t with|some b=>Q (.bl b) G|none=>False)
 |_,_,_=>False
def bltU  : Blt->List U->Gp->K1->Prop
 |.len=>lenU
 |.repr=>Ho
 |.min=>minU
 |.max=>λ_ _ _=>False
 |.sum=>sumU
 |.all=>allU
 |.any=>λ_ _ _=>False
 |.sorted=>λ_ _ _=>False
 |.int=>intU
 |.str=>λ_ _ _=>False
 |.isi=>Lo
def dz  : U->List U->Gp->K1->Prop
 |.loc a,[v],G,Q=>(match G a with
  |some (.lst xs)=>xs.length<Wa/\putO G a (.lst (xs++[v])) (Q .non)
  |_=>False)
 |_,_,_,_=>False
def Ev  : U->List U->Gp->K1->Prop
 |.loc a,[.loc b],G,Q=>(match G a,G b with
  |some (.lst xs),ca (.lst ys)=>xs.length+ys.length<=Wa/\putO G a (.lst (xs++ys)) (Q .non)
  |_,_=>False)
 |_,_,_,_=>False
def popU  : U->List U->Gp->K1->Prop
 |.loc a,[],G,Q=>(match G a with
  |some (.lst xs)=>(match xs[xs.length-1]? with|some v=>putO G a (.lst xs.dropLast) (Q v)|none=>False)
  |_=>False)
 |.loc a,[.int i],G,Q=>(match G a with
  |some (.lst xs)=>-(2 ^ 63)<=i/\i<2 ^ 63/\(match Cw i xs.length with
   |some k=>(match xs[k]? with|some v=>putO G a (.lst (xs.eraseIdx k)) (Q v)|none=>False)
   |none=>False)
  |_=>False)
 |_,_,_,_=>False
def updU  : U->List U->Gp->K1->Prop
 |.loc a,[.loc b],G,Q=>(match G a,G b with
  |some (.dK kvs),ca (.dK more)=>a≠b/\kvs.length+more.length<=Wa/\putO G a (.dK (more.foldl (λy z=>dPut y z.1 z.2) kvs)) (Q .non)
  |_,_=>False)
 |_,_,_,_=>False
def getU  : U->List U->Gp->K1->Prop
 |.loc a,[y,d],G,Q=>(match G a with
  |some (.dK kvs)=>(match kU y with
   |some k=>Q ((dGet kvs k).getD d) G
   |none=>False)
  |some (.dT kvs)=>∃k:List Vb,y=.tup (k.map Ku)/\Q ((dGet kvs k).getD d) G
  |_=>False)
 |_,_,_,_=>False
def Yd  : Mth->U->List U->Gp->K1->Prop
 |.append=>dz
 |.extend=>Ev
 |.insert=>λ_ _ _ _=>False
 |.pop=>popU
 |.reverse=>λ_ _ _ _=>False
 |.index=>λ_ _ _ _=>False
 |.join=>λ_ _ _ _=>False
 |.get=>getU
 |.split=>λ_ _ _ _=>False
 |.setd=>λ_ _ _ _=>False
 |.update=>updU
 |.clear=>λ_ _ _ _=>False
 |.count=>λ_ _ _ _=>False
 |.upper=>λ_ _ _ _=>False
noncomputable def Oe  : Mth->U->Gp->Option (String×String)
 |.append,x,G=>(match x with|.loc a=>(match G a with|some (.lst _)=>ca ("list", "list.append")|_=>la)|_=>la)
 |.extend,x,G=>(match x with|.loc a=>(match G a with|some (.lst _)=>ca ("list", "list.extend")|_=>la)|_=>la)
 |.insert,_,_=>la
 |.pop,x,G=>(match x with|.loc a=>(match G a with|some (.lst _)=>ca ("list", "list.pop")|_=>la)|_=>la)
 |.reverse,_,_=>la
 |.index,_,_=>la
 |.join,_,_=>la
 |.get,x,G=>(match x with|.loc a=>(match G a with|some (.dK _)=>ca ("dict", "dict.get")|some (.dT _)=>ca ("dict", "dict.get")|_=>la)|_=>la)
 |.split,_,_=>la
 |.update,x,G=>(match x with|.loc a=>(match G a with|some (.dK _)=>ca ("dict", "dict.update")|_=>la)|_=>la)
 |.setd,_,_=>la
 |.clear,_,_=>la
 |.count,_,_=>la
 |.upper,_,_=>la
noncomputable def clsA  : List (Str×List Str):=[("PlanError",[]),("NoPaper",["word", "at"]),("TooMany",["word"]),("NoRing",["word"]),("NoText",["row", "word"]),("NoRow",["row"])]
def clsN  (c:Nat):Str:=(clsA.getD c ("",[])).1
def clsF  (c:Nat):List Str:=(clsA.getD c ("",[])).2
inductive HL where
 |is1 (c:Nat)|isi (cs:List Nat)|isiV|v (i:Nat)
inductive HA where
 |str (x:Str)|att (f:Str)
inductive HV where
 |cond (k:Bool) (a:Bool×HL) (as:List (Bool×HL))|one (a:HA)|bl (b:Bool)|tup (as:List HA)|lst (as:List HA)
inductive HS where
 |asg (i:Nat) (e:HV)|ifa (k:Bool) (a:Bool×HL) (as:List (Bool×HL)) (i:Nat) (e:HV)
section
variable (x:XV)
noncomputable def litH (z:Sg):HL->Option Bool
 |.is1 c=>ca (decide (x.c=c))
 |.isi y=>ca (y.contains x.c)
 |.isiV=>ca da
 |.v i=>match z[i]? with
  |some (ca (.bl b))=>ca b
  |_=>la
def lit1 (y:Sg)(p:Bool×HL):Option Bool:=match litH x y p.2 with
 |some b=>ca (if p.1=da then !b else b)
 |none=>la
noncomputable def Qg (y:Sg)(k:Bool):Bool×HL->List (Bool×HL)->Option Bool
 |a,[]=>lit1 x y a
 |a,b::r=>match lit1 x y a with
  |some t=>if t=k then Qg y k b r else ca t
  |none=>la
def Vk:HA->Option U
 |.str y=>ca (.str y)
 |.att f=>((clsF x.c).zip x.fs).lookup f
noncomputable def atsH:List HA->Option (List U)
 |[]=>ca []
 |a::r=>match Vk x a,atsH r with
  |some u,ca us=>ca (u::us)
  |_,_=>la
def yp (z:Sg):HV->Gp->K1->Prop
 |.cond k a as,G,Q=>match Qg x z k a as with
  |some b=>Q (.bl b) G
  |none=>False
 |.one a,G,Q=>match Vk x a with
  |some u=>Q u G
  |none=>False
 |.bl b,G,Q=>Q (.bl b) G
 |.tup as,G,Q=>match atsH x as with
  |some y=>Q (.tup y) G
  |none=>False
 |.lst as,G,Q=>match atsH x as with
  |some y=>newO G (.lst y) Q
  |none=>False
def rh:List HS->Sg->Gp->(Sg->Gp->Prop)->Prop
 |[],ς,G,k=>k ς G
 |.asg i e::r,ς,G,k=>yp x ς e G λu y=>rh r (ς.set i (ca u)) y k
 |.ifa q a as i e::r,ς,G,k=>match Qg x ς q a as with
  |some da=>yp x ς e G λu y=>rh r (ς.set i (ca u)) y k
  |some ia=>rh r ς G k
  |none=>False
end
mutual
inductive Tg where
 |n (i:Nat)|t (ts:Uh)
inductive Uh where
 |nil|cons (t:Tg) (ts:Uh)
end
mutual
inductive E where
 |v (i:Nat)|non|bl (b:Bool)|int (i:Int)|str (x:Str)|g (n:Nat)|bin (o:Vj) (a b:E)|neg (a:E)|not (a:E)|bop (k:Bool) (a:E) (es:Es)|cmp (o:Pt) (a b:E)|cmp2 (o p:Pt) (a b c:E)|ife (c a b:E)|tup (es:Es)|lst (es:Es)|dic (es:Es)|ix (a b:E)|sl (a:E) (lo hi:Eo)|rev (a st:E)|call (n:Nat) (es:Es)|app (i:Nat) (es:Es)|blt (b:Blt) (es:Es)|meth (m:Mth) (o:E) (es:Es)|ty (n:String)|lc (pick:List (Option Nat)) (t:Tg) (it:It) (ifs:Es) (e:E)|mkL (e:E)|mkT (e:E)|rngL (a:E)
inductive Eo where
 |no|so (e:E)
inductive Es where
 |nil|cons (e:E) (es:Es)
inductive It where
 |e (e:E)|r1 (e:E)
end
mutual
inductive S where
 |expr (e:E)|asg (t:Tg) (e:E)|asgC (i:Nat) (e:E)|setS (o i e:E)|par (is:List Nat) (es:Es)|aug (i:Nat) (o:Vj) (e:E)|augS (o i:E) (p:Vj) (e:E)|ite (c:E) (a b:Ss)|fr (t:Tg) (it:It) (b:Ss)|wh (c:E) (b:Ss)|ret (e:E)|raise (c:Nat) (es:Es)|tr (b:Ss) (c:Nat) (n:Nat) (h:List HS)
inductive Ss where
 |nil|cons (s:S) (ss:Ss)
end
mutual
noncomputable def Qc:Tg->U->Sg->(Sg->Prop)->Prop
 |.n i,u,ς,k=>k (ς.set i (ca u))
 |.t ts,u,ς,k=>match u with
  |.tup y=>tgsU ts y ς k
  |_=>False
noncomputable def tgsU:Uh->List U->Sg->(Sg->Prop)->Prop
 |.nil,us,ς,k=>us=[]/\k ς
 |.cons t ts,us,ς,k=>match us with
  |[]=>False
  |u::r=>Qc t u ς λy=>tgsU ts r y k
end
abbrev Cl:=Nat->List U->Gp->K1->KX->Prop
def slot  (y:Sg)(i:Nat)(k:U->Prop):Prop:=match y[i]? with
 |some (ca u)=>k u
 |_=>False
noncomputable def Ih  (pick:List (Option Nat))(y:Sg):Sg:=pick.map λo=>o.bind λj=>(y[j]?).join
def Kk  (ok:Gp->Prop)(b:U->Gp->(Option U->Gp->Prop)->Prop):List U->List U->Gp->(List U->Gp->Prop)->Prop
 |[],acc,G,k=>ok G/\k acc G
 |x::xs,acc,G,k=>ok G/\b x G λo y=>Kk ok b xs (match o with|some u=>acc++[u]|none=>acc) y k
def forL  (ok:Gp->Prop)(b:U->Sg->Gp->(Sg->Gp->Prop)->Prop):List U->Sg->Gp->(Sg->Gp->Prop)->Prop
 |[],ς,G,k=>ok G/\k ς G
 |x::xs,ς,G,k=>ok G/\b x ς G λy z=>forL ok b xs y z k
noncomputable def rngU  (i:Int)(n:Nat):List U:=(Be n).map λk:Nat=>.int (i+k)
def rg  : U->Gp->(List U->(Gp->Prop)->Prop)->Prop
 |.tup y,_,k=>k y λ_=>True
 |.loc a,G,k=>match Ad G a with
  |some y=>k y λz=>Ad z a=ca y
  |none=>False
 |_,_,_=>False
def pK  : U->(Str->Prop)->Prop
 |.str z,k=>z.length<=10000/\k z
 |.int i,k=>i.natAbs.log2<1920/\k (toString i:String)
 |_,_=>False
def Xm  (gs:List U)(n:Nat)(k:U->Prop):Prop:=match gs[n]? with
 |some u=>k u
 |none=>False
abbrev UE:=Sg->Gp->K1->KX->Prop
abbrev UT:=Sg->Gp->(Bool->Gp->Prop)->KX->Prop
abbrev UA:=Sg->Gp->(List U->Gp->Prop)->KX->Prop
def truT  (t:UE):UT:=λz G Q X=>t z G (λx y=>truU x y λb=>Q b y) X
noncomputable abbrev tp  (t:UE):UE×UT:=(t,truT t)
noncomputable def comb  : Bool->UE×UT->UE×UT->UE×UT
 |true,p,q=>(λz G Q X=>p.1 z G (λx y=>truU x y λc=>if c=da then q.1 z y Q X else Q x y) X,λz G Q X=>p.2 z G (λc y=>if c=da then q.2 z y Q X else Q ia y) X)
 |false,p,q=>(λz G Q X=>p.1 z G (λx y=>truU x y λc=>if c=da then Q x y else q.1 z y Q X) X,λz G Q X=>p.2 z G (λc y=>if c=da then Q da y else q.2 z y Q X) X)
section
variable (gs:List U)(Δ:Cl)
mutual
noncomputable def Ra:E->UE×UT
 |.v i=>tp λF G Q _=>slot F i λu=>Q u G
 |.non=>tp λ_ G Q _=>Q .non G
 |.bl b=>tp λ_ G Q _=>Q (.bl b) G
 |.int i=>tp λ_ G Q _=>Q (.int i) G
 |.str x=>tp λ_ G Q _=>Q (.str x) G
 |.g n=>tp λ_ G Q _=>Xm gs n λu=>Q u G
 |.bin o a b=>tp λF G Q X=>(Ra a).1 F G (λx I=>(Ra b).1 F I (λy J=>binU o x y J Q) X) X
 |.neg a=>tp λF G Q X=>(Ra a).1 F G (λx I=>negU x I Q) X
 |.not a=>(λF G Q X=>(Ra a).1 F G (λx I=>truU x I λb=>Q (.bl (!b)) I) X,
   λF G Q X=>(Ra a).2 F G (λb I=>Q (!b) I) X)
 |.bop k a O=>denB k (Ra a) O
 |.cmp o a b=>tp λF G Q X=>(Ra a).1 F G (λx I=>(Ra b).1 F I (λy J=>cmpU o x y J λc=>Q (.bl c) J) X) X
 |.cmp2 o p a b c=>tp λF G Q X=>(Ra a).1 F G (λx I=>(Ra b).1 F I (λy J=>cmpU o x y J λt=>if t=da then (Ra c).1 F J (λz R=>cmpU p y z R λt'=>Q (.bl t') R) X else Q (.bl ia) J) X) X
 |.ife c a b=>(λF G Q X=>(Ra c).2 F G (λt I=>if t=da then (Ra a).1 F I Q X else (Ra b).1 F I Q X) X,
   λF G Q X=>(Ra c).2 F G (λt I=>if t=da then (Ra a).2 F I Q X else (Ra b).2 F I Q X) X)
 |.tup O=>tp λF G Q X=>Cd O F G (λL I=>L.length<=Wa/\Q (.tup L) I) X
 |.lst O=>tp λF G Q X=>Cd O F G (λL I=>L.length<=Wa/\newO I (.lst L) Q) X
 |.dic O=>tp λF G Q X=>denD O F G (λZ I=>Z.length<=15/\newO I (.dK (Rj Z)) Q) X
 |.ix a b=>tp λF G Q X=>(Ra a).1 F G (λx I=>(Ra b).1 F I (λy J=>tf x y J Q) X) X
 |.sl a lo hi=>tp λF G Q X=>(Ra a).1 F G (λx I=>denO lo F I (λl J=>denO hi F J (λh R=>Wi x l h R Q) X) X) X
 |.rev a b=>tp λF G Q X=>(Ra a).1 F G (λx I=>(Ra b).1 F I (λy J=>revU x y J Q) X) X
 |.call n O=>tp λF G Q X=>Cd O F G (λL I=>Δ n L I Q X) X
 |.app _ _=>tp λ_ _ _ _=>False
 |.blt b O=>tp λF G Q X=>Cd O F G (λL I=>bltU b L I Q) X
 |.meth m o O=>tp λF G Q X=>(Ra o).1 F G (λx I=>match Oe m x I with
   |some _=>Cd O F I (λL J=>Yd m x L J Q) X
   |none=>False) X
 |.ty n=>tp λ_ G Q _=>Q (.ty n) G
 |.lc pick t it xa e=>tp λF G Q X=>denI it F G (λY ok I=>Y.length<=Wa/\Kk ok (λx J k=>Qc t x (Ih pick F) λτ=>denC xa τ J (λb R=>if b=da then (Ra e).1 τ R (λu G4=>k (ca u) G4) (λ_ _=>False) else k la R)) Y [] I
   λL G5=>newO G5 (.lst L) Q) X
 |.mkL e=>tp λF G Q X=>(Ra e).1 F G (λx I=>rg x I λY _=>newO I (.lst Y) Q) X
 |.mkT e=>tp λF G Q X=>(Ra e).1 F G (λx I=>rg x I λY _=>Q (.tup Y) I) X
 |.rngL e=>tp λF G Q X=>(Ra e).1 F G (λx I=>match x with
   |.int j=>0<=j/\j<=1000000/\newO I (.lst (rngU 0 j.toNat)) Q
   |_=>False) X
noncomputable def denB (k:Bool)(p:UE×UT):Es->UE×UT
 |.nil=>p
 |.cons e y=>comb k p (denB k (Ra e) y)
noncomputable def denC:Es->Sg->Gp->(Bool->Gp->Prop)->Prop
 |.nil,_,G,Q=>Q da G
 |.cons e es,ς,G,Q=>(Ra e).2 ς G (λb y=>if b=da then denC es ς y Q else Q ia y) (λ_ _=>False)
noncomputable def denO:Eo->Sg->Gp->(Option Int->Gp->Prop)->KX->Prop
 |.no,_,G,Q,_=>Q la G
 |.so e,ς,G,Q,X=>(Ra e).1 ς G (λx y=>match x with|.int i=>Q (ca i) y|_=>False) X
noncomputable def Cd:Es->Sg->Gp->(List U->Gp->Prop)->KX->Prop
 |.nil,_,G,Q,_=>Q [] G
 |.cons e es,ς,G,Q,X=>(Ra e).1 ς G (λx y=>Cd es ς y (λz F=>Q (x::z) F) X) X
noncomputable def denF:Es->Sg->Gp->(List Str->Gp->Prop)->KX->Prop
 |.nil,_,G,Q,_=>Q [] G
 |.cons e es,ς,G,Q,X=>(Ra e).1 ς G (λx y=>pK x λz=>denF es ς y (λI F=>Q (z::I) F) X) X
noncomputable def denD:Es->Sg->Gp->(List (Vb×U)->Gp->Prop)->KX->Prop
 |.nil,_,G,Q,_=>Q [] G
 |.cons e (.cons f es),ς,G,Q,X=>(Ra e).1 ς G (λx F=>(Ra f).1 ς F (λy I=>match kU x with
   |some k=>denD es ς I (λz J=>Q ((k,y)::z) J) X
   |none=>False) X) X
 |.cons _ .nil,_,_,_,_=>False
noncomputable def denI:It->Sg->Gp->(List U->(Gp->Prop)->Gp->Prop)->KX->Prop
 |.e e,ς,G,Q,X=>(Ra e).1 ς G (λx y=>rg x y λz ok=>Q z ok y) X
 |.r1 e,ς,G,Q,X=>(Ra e).1 ς G (λx y=>match x with
   |.int j=>-(2 ^ 62)<=j/\j<2 ^ 62/\Q (rngU 0 j.toNat) (λ_=>True) y
   |_=>False) X
end
def denE (e:E):UE:=(Ra gs Δ e).1
def denT (e:E):UT:=(Ra gs Δ e).2
mutual
noncomputable def denS:S->En->Sg->Gp->Prop
 |.expr e,D,ς,G=>denE gs Δ e ς G (λ_ F=>D.nx ς F) λx F=>D.ex x ς F
 |.asg t e,D,ς,G=>denE gs Δ e ς G (λu F=>Qc t u ς λO=>D.nx O F) λx F=>D.ex x ς F
 |.asgC i e,D,ς,G=>denE gs Δ e ς G (λu F=>D.nx (ς.set i (ca u)) F) λx F=>D.ex x ς F
 |.setS o i e,D,ς,G=>denE gs Δ e ς G (λv F=>denE gs Δ o ς F (λx J=>denE gs Δ i ς J (λy Z=>setU x y v Z λY=>D.nx ς Y) λx F=>D.ex x ς F) λx F=>D.ex x ς F) λx F=>D.ex x ς F
 |.par is es,D,ς,G=>Cd gs Δ es ς G (λR F=>R.length=is.length/\D.nx ((is.zip R).foldl (λs p=>s.set p.1 (ca p.2)) ς) F) λx F=>D.ex x ς F
 |.aug i o e,D,ς,G=>slot ς i λx=>denE gs Δ e ς G (λy F=>fj o x y F λz J=>D.nx (ς.set i (ca z)) J) λx F=>D.ex x ς F
 |.augS o i p e,D,ς,G=>denE gs Δ o ς G (λx F=>denE gs Δ i ς F (λy J=>Mo x y J λa Z=>denE gs Δ e ς Z (λb Y=>fj p a b Y λz G5=>setU x y z G5 λG6=>D.nx ς G6) λx F=>D.ex x ς F) λx F=>D.ex x ς F) λx F=>D.ex x ς F
 |.ite c a b,D,ς,G=>denT gs Δ c ς G (λt F=>if t=da then Dc a D ς F else Dc b D ς F) λx F=>D.ex x ς F
 |.fr t it b,D,ς,G=>denI gs Δ it ς G (λxs ok F=>forL ok (λx I J k=>Qc t x I λL=>Dc b { D with nx:=k } L J) xs ς F D.nx) λx F=>D.ex x ς F
 |.wh c b,D,ς,G=>∃W:Nat->Sg->Gp->Prop,(∃m,W m ς G)/\∀m I F,W m I F->
   denT gs Δ c I F (λt J=>if t=da then Dc b { D with nx:=λO G'=>∃m',m'<m/\W m' O G' } I J else D.nx I J) λx F=>D.ex x I F
 |.ret e,D,ς,G=>denE gs Δ e ς G D.rt λx F=>D.ex x ς F
 |.raise c es,D,ς,G=>Cd gs Δ es ς G (λR F=>R.length=(clsF c).length/\D.ex ⟨c,R⟩ ς F) λx F=>D.ex x ς F
 |.tr b c n h,D,ς,G=>Dc b { D with ex:=λx I F=>(c=0\/x.c=c)/\rh x h (I.set n la) F λL J=>D.nx (L.set n la) J } ς G
noncomputable def Dc:Ss->En->Sg->Gp->Prop
 |.nil,D,ς,G=>D.nx ς G
 |.cons s ss,D,ς,G=>denS s { D with nx:=λy z=>Dc ss D y z } ς G
end
end
structure Fun where
 name:Str
 ps:List Str
 N:List Str
 body:Ss
structure KC where
 P:Aa
 ff:Nat
 vi:Nat
 fi:Nat
 si:Nat
 caps:List Nat
 fni:Nat
 fn:Str
 as':List Str
 sn:Str
 e1:E
 e2:E
structure Vd where
 funs:List Fun
 gs:List U
 gn:List Str:=[]
 cs:List Nat:=[]
 vf:List Fun:=[]
 ns:List (Nat×KC):=[]
noncomputable def Qb  (n:Nat)(us:List U):Sg:=us.map ca++Ab (n-us.length) la
def Ta  (T:Vd):Nat->Cl
 |0,_,_,_,_,_=>False
 |k+1,n,us,G,Q,X=>match (T.funs++T.vf)[n]? with
  |some d=>us.length=d.ps.length/\Dc T.gs (Ta T k) d.body ⟨λ_ y=>Q .non y,Q,λx _ y=>X x y⟩ (Qb d.N.length us) G
  |none=>False
mutual
noncomputable def RU (K:Hb)(H:Hp):U->V->Prop
 |.non,v=>v=.non
 |.bl b,v=>v=.bl b
 |.int i,v=>v=.int i
 |.str x,v=>v=.str x
 |.tup xs,v=>∃a y,v=.ref a/\H a=ca (.tup y)/\Eb K H xs y
 |.loc a,v=>v=.ref a
 |.fn _,_=>False
 |.ty n,v=>v=.ty n
 |.exc _ _,_=>False
 |.own _,_=>False
 |.clo _ _,_=>False
noncomputable def Eb (K:Hb)(H:Hp):List U->List V->Prop
 |[],vs=>vs=[]
 |u::us,vs=>∃v y,vs=v::y/\RU K H u v/\Eb K H us y
end
def Zd  {y:Type}(K:Hb)(H:Hp):List (y×U)->List (y×V)->Prop
 |[],l=>l=[]
 |(k,u)::r,l=>∃v z,l=(k,v)::z/\RU K H u v/\Zd K H r z
def pk  (K:Hb)(H:Hp)(a:Aa):MO->Prop
 |.lst F=>∃z,H a=ca (.lst z)/\Eb K H F z
 |.fro F=>∃o z,H a=ca (.frz o (.lst z))/\Eb K H F z
 |.dK y=>∃l,H a=ca (.dK l)/\Zd K H y l
 |.dT y=>∃l,H a=ca (.dT l)/\Zd K H y l
 |.frd o y=>∃l,H a=ca (.frz o (.dT l))/\Zd K H y l
 |.frk o y=>∃l,H a=ca (.frz o (.dK l))/\Zd K H y l
noncomputable def tabs  : List (Aa×Pos×Str):=[(294,⟨155,4,158,62⟩,("lets_waits" : Str) ++ ".<locals>." ++ "fault_of")]
def Qk  (H:Hp):Prop:=∀t∈tabs,PD H t.1 t.2.1 t.2.2
structure HR (K:Hb)(H:Hp)(G:Gp):Prop where
 mo:∀a o,G a=ca o->pk K H a o
 tab:Qk H
instance {K:Hb} {H:Hp} {G:Gp}:CoeFun (HR K H G) λ_=>∀a o,G a=ca o->pk K H a o:=⟨HR.mo⟩
noncomputable def noTb  : HO->Bool
 |.tbl _=>ia
 |_=>da
structure Fr (H:Hp)(G:Gp)(H':Hp)(G':Gp):Prop where
 go:∀a o,H a=ca o->G a=la->(nt:noTb o=da:=by rfl)->H' a=ca o/\G' a=la
instance {H H':Hp} {G G':Gp}:CoeFun (Fr H G H' G') λ_=>∀a o,H a=ca o->G a=la->(nt:noTb o=da:=by rfl)->H' a=ca o/\G' a=la:=⟨@Fr.go H G H' G'⟩
def SR  (K:Hb)(H:Hp)(z:Sg)(y:St):Prop:=z.length=y.length/\∀(i:Nat) (u:U),z[i]?=ca (ca u)->∃v,y[i]?=ca (ca v)/\RU K H u v
section
variable {K:Hb}{H H' H1 H2:Hp}{G G' G1 G2:Gp}
def Fr.refl   H G:Fr H G H G:=⟨λ_ _ h g _=>⟨h,g⟩⟩
def Fr.trans  (a:Fr H G H1 G1)(b:Fr H1 G1 H2 G2):Fr H G H2 G2:=⟨λc o h g z=>let ⟨I,F⟩:=a c o h g z;b c o I F z⟩
structure TS (H H':Hp):Prop where
 tup:∀a xs,H a=ca (.tup xs)->H' a=ca (.tup xs)
 cod:∀a o,H a=ca (frzC o)->H' a=ca (frzC o)
instance:CoeFun (TS H H') λ_=>∀a xs,H a=ca (.tup xs)->H' a=ca (.tup xs):=⟨TS.tup⟩
def TS.trans  (a:TS H H1)(b:TS H1 H2):TS H H2:=⟨λc z h=>b.tup c z (a.tup c z h),λc o h=>b.cod c o (a.cod c o h)⟩
mutual
theorem RU.ts (t:TS H H'):∀{u:U} {v:V},RU K H u v->RU K H' u v
 |.non,_,h=>h
 |.bl _,_,h=>h
 |.int _,_,h=>h
 |.str _,_,h=>h
 |.tup xs,_,h=>by
  obtain⟨a,z,e,q,r⟩:=h
  exact⟨a,z,e,t _ _ q,Eb.ts t r⟩
 |.loc _,_,h=>h
 |.fn _,_,h=>h
 |.ty _,_,h=>h
 |.exc _ _,_,h=>h
 |.own _,_,h=>h
 |.clo _ _,_,h=>h
theorem Eb.ts (t:TS H H'):∀{us:List U} {vs:List V},Eb K H us vs->Eb K H' us vs
 |[],_,h=>h
 |_::_,_,h=>by
  obtain⟨v,F,e,r,z⟩:=h
  exact⟨v,F,e,RU.ts t r,Eb.ts t z⟩
end
theorem Zd.ts   (t:TS H H'):∀{kvs:List (κ×U)} {l },Zd K H kvs l->Zd K H' kvs l
 |[],_,h=>h
 |(_,_)::_,_,h=>by
  obtain⟨v,F,e,r,z⟩:=h;exact⟨v,F,e,r.ts t,Zd.ts t z⟩
def SR.ts    (t:TS H H')(h:SR K H z σ):SR K H' z σ:=⟨h.1,λi u e=>let ⟨v,F,r⟩:=h.2 i u e;⟨v,F,r.ts t⟩⟩
def HR.tupNone  (h:HR K H G)(e:H a=ca (.tup xs)):G a=la:=by
 cases q:G a with
 |none=>rfl
 |some o=>
  have m:=h a o q;cases o with
  |lst z=>obtain⟨_,F,_⟩:=m;lia
  |fro z=>obtain⟨_,_,F,_⟩:=m;lia
  |dK z=>obtain⟨_,F,_⟩:=m;lia
  |dT z=>obtain⟨_,F,_⟩:=m;lia
  |frd _ z=>obtain⟨_,F,_⟩:=m;lia
  |frk _ z=>obtain⟨_,F,_⟩:=m;lia
def HR.codNone  (h:HR K H G)(e:H a=ca (frzC I)):G a=la:=by
 cases q:G a with
 |none=>rfl
 |some o=>
  have m:=h a o q;cases o with
  |lst z=>obtain⟨_,F,_⟩:=m;lia
  |fro z=>obtain⟨_,_,F,_⟩:=m;lia
  |dK z=>obtain⟨_,F,_⟩:=m;lia
  |dT z=>obtain⟨_,F,_⟩:=m;lia
  |frd _ z=>obtain⟨_,F,_⟩:=m;lia
  |frk _ z=>obtain⟨_,F,_⟩:=m;lia
def HR.tblNone  (h:HR K H G)(e:H a=ca (.tbl ps)):G a=la:=by
 cases q:G a with
 |none=>rfl
 |some o=>
  have m:=h a o q;cases o with
  |lst z=>obtain⟨_,F,_⟩:=m;lia
  |fro z=>obtain⟨_,_,F,_⟩:=m;lia
  |dK z=>obtain⟨_,F,_⟩:=m;lia
  |dT z=>obtain⟨_,F,_⟩:=m;lia
  |frd _ z=>obtain⟨_,F,_⟩:=m;lia
  |frk _ z=>obtain⟨_,F,_⟩:=m;lia
def Fr.ts  (f:Fr H G H' G')(h:HR K H G):TS H H':=⟨λa z e=>(f a _ e (h.tupNone e)).1,λa o e=>(f a _ e (h.codNone e)).1⟩
def Qk.upd  (h:Qk H)(F:∀ps,H p≠ca (.tbl ps))(I:∀L,H p≠ca (frzC L)):Qk (L2.upd H p o):=λt J=>by
 rcases h t J with e|⟨c,oc,e1,e2,q⟩
 ·exact .inl (by rw[Ac (λz=>F _ (z ▸ e))];exact e)
 ·exact .inr ⟨c,oc,by rw[Ac (λz=>F _ (z ▸ e1))];exact e1,by rw[Ac (λz=>I _ (z ▸ e2))];exact e2,q⟩
def Qk.new  (h:Qk H)(e:H p=la):Qk (L2.upd H p o):=h.upd (λF z=>by lia) λI z=>by lia
def HR.tabW  (h:HR K H G){mo:MO}(g:G p=ca mo):Qk (L2.upd H p o):=h.tab.upd (λF z=>by rw[h.tblNone z]at g;cases g) λI z=>by rw[h.codNone z]at g;cases g
def pk.there    (m:pk K H a o):∃z,H a=ca z:=by
 cases o with
 |lst _=>obtain⟨_,e,_⟩:=m;simp_all
 |fro _=>obtain⟨_,_,e,_⟩:=m;simp_all
 |dK _=>obtain⟨_,e,_⟩:=m;simp_all
 |dT _=>obtain⟨_,e,_⟩:=m;simp_all
 |frd _ _=>obtain⟨_,e,_⟩:=m;simp_all
 |frk _ _=>obtain⟨_,e,_⟩:=m;simp_all
def pk.keep    (m:pk K H a o)(e:H' a=H a)(t:TS H H'):pk K H' a o:=by
 cases o with
 |lst _=>obtain⟨z,q,r⟩:=m;exact⟨z,e.trans q,r.ts t⟩
 |fro _=>obtain⟨F,z,q,r⟩:=m;exact⟨F,z,e.trans q,r.ts t⟩
 |dK _=>obtain⟨l,q,r⟩:=m;exact⟨l,e.trans q,r.ts t⟩
 |dT _=>obtain⟨l,q,r⟩:=m;exact⟨l,e.trans q,r.ts t⟩
 |frd _ _=>obtain⟨l,q,r⟩:=m;exact⟨l,e.trans q,r.ts t⟩
 |frk _ _=>obtain⟨l,q,r⟩:=m;exact⟨l,e.trans q,r.ts t⟩
def HR.nope  (h:HR K H G)(e:H a=la):G a=la:=by
 cases q:G a with
 |none=>rfl
 |some o=>
  obtain⟨_,z⟩:=(h a o q).there
  lia
def Lh    : Td G a o a=ca o:=by unfold Td;lia
def Ii    (h:b≠a):Td G a o b=G b:=by unfold Td;lia
def TS.new    (e:H p=la):TS H (upd H p o):=⟨λa z h=>by rw[Ac (Kg h e)];exact h,λa F h=>by rw[Ac (Kg h e)];exact h⟩
def HR.newT  (h:HR K H G)(e:H p=la):HR K (upd H p (.tup xs)) G:=⟨λa o q=>by
 have m:=h a o q;obtain⟨F,z⟩:=m.there;exact m.keep (Ac (Kg z e)) (TS.new e),h.tab.new e⟩
def Fr.new    (e:H p=la):Fr H G (upd H p o) G:=⟨λa z h g _=>⟨by rw[Ac (Kg h e)];exact h,g⟩⟩
def HR.newO  (h:HR K H G){mo:MO}(e:H p=la)(m:pk K (upd H p o) p mo):HR K (upd H p o) (Td G p mo):=⟨λa F q=>by
 by_cases z:a=p
 ·subst z;rw[Lh]at q
  lia
 ·rw[Ii z]at q;exact(h a F q).keep (Ac z) (TS.new e),h.tab.new e⟩
def Fr.newO     (e:H p=la):Fr H G (upd H p o) (Td G p mo):=⟨λa F h g _=>by
 have z:a≠p:=Kg h e;exact⟨by rw[Ac z];exact h,by rw[Ii z];exact g⟩⟩
def TS.write  (h:HR K H G)(g:G p=ca mo):TS H (upd H p o):=⟨λa F e=>by
 have z:a≠p:=λz=>by subst z;rw[h.tupNone e]at g;cases g
 rw[Ac z];exact e,λa I e=>by
 have z:a≠p:=λz=>by subst z;rw[h.codNone e]at g;cases g
 rw[Ac z];exact e⟩
def HR.write  (h:HR K H G){mo mo':MO}(g:G p=ca mo)(m:pk K (upd H p o) p mo'):HR K (upd H p o) (Td G p mo'):=⟨λa F q=>by
 by_cases z:a=p
 ·subst z;rw[Lh]at q
  lia
 ·rw[Ii z]at q;exact(h a F q).keep (Ac z) (TS.write h g),h.tabW g⟩
def Fr.write     (g:G p=ca mo):Fr H G (upd H p o) (Td G p mo'):=⟨λa F h n _=>by
 have z:a≠p:=λz=>by lia
 exact⟨by rw[Ac z];exact h,by rw[Ii z];exact n⟩⟩
theorem Eb.length  : ∀{us } {vs },Eb K H us vs->us.length=vs.length
 |[],_,h=>by cases h;rfl
 |_::_,_,h=>by
  obtain⟨v,F,rfl,_,z⟩:=h;simp[z.length]
theorem Eb.append  : ∀{us ws } {vs xs },Eb K H us vs->Eb K H ws xs->Eb K H (us++ws) (vs++xs)
 |[],_,_,_,h,h'=>by cases h;exact h'
 |_::_,_,_,_,h,h'=>by
  obtain⟨v,F,rfl,r,z⟩:=h;exact⟨v,F++_,rfl,r,z.append h'⟩
theorem Eb.get  : ∀{us } {vs } {i:Nat} {u },Eb K H us vs->us[i]?=ca u->∃v,vs[i]?=ca v/\RU K H u v
 |[],_,_,_,_,e=>by simp at e
 |_::_,_,0,_,h,e=>by
  obtain⟨v,F,rfl,r,_⟩:=h
  simp_all
 |_::_,_,i+1,_,h,e=>by
  obtain⟨v,F,rfl,_,z⟩:=h;obtain⟨w,J,I⟩:=z.get (i:=i) (by simpa using e)
  simp_all
theorem Eb.take  : ∀{us } {vs } n ,Eb K H us vs->Eb K H (us.take n) (vs.take n)
 |_,_,0,_=>rfl
 |[],_,_+1,h=>by cases h;rfl
 |_::_,_,n+1,h=>by
  obtain⟨v,F,rfl,r,z⟩:=h;exact⟨v,F.take n,rfl,r,z.take n⟩
theorem Eb.drop  : ∀{us } {vs } n ,Eb K H us vs->Eb K H (us.drop n) (vs.drop n)
 |_,_,0,h=>h
 |[],_,_+1,h=>by cases h;rfl
 |_::_,_,n+1,h=>by
  obtain⟨v,F,rfl,_,z⟩:=h;exact z.drop n
theorem Eb.set    (r:RU K H u v):∀{us } {vs } i ,Eb K H us vs->Eb K H (us.set i u) (vs.set i v)
 |[],_,_,h=>by cases h;rfl
 |_::_,_,0,h=>by
  obtain⟨w,F,rfl,_,z⟩:=h;exact⟨v,F,rfl,r,z⟩
 |_::_,_,i+1,h=>by
  obtain⟨w,F,rfl,q,z⟩:=h;exact⟨w,F.set i v,rfl,q,z.set r i⟩
theorem Eb.reverse  : ∀{us } {vs },Eb K H us vs->Eb K H us.reverse vs.reverse
 |[],_,h=>by cases h;rfl
 |_::_,_,h=>by
  obtain⟨v,F,rfl,r,z⟩:=h;rw[Jx,Jx];exact z.reverse.append ⟨v,[],rfl,r,rfl⟩
theorem Eb.rep    (h:Eb K H us vs):∀k ,Eb K H (Ab k us).flatten (Ab k vs).flatten
 |0=>rfl
 |k+1=>by
  rw[ck,ck,Wp,Wp];exact h.append (h.rep k)
theorem Eb.erase  : ∀{us } {vs } i ,Eb K H us vs->Eb K H (us.eraseIdx i) (vs.eraseIdx i)
 |[],_,_,h=>by cases h;rfl
 |_::_,_,0,h=>by
  obtain⟨v,F,rfl,_,z⟩:=h;exact z
 |_::_,_,i+1,h=>by
  obtain⟨v,F,rfl,r,z⟩:=h;exact⟨v,_,rfl,r,z.erase i⟩
def Eb.dropLast    (h:Eb K H us vs):Eb K H us.dropLast vs.dropLast:=by
 rw[EL,EL,h.length];exact h.take _
theorem Eb.atI {us:List U}{vs:List V}{i:Int}{u:U}(h:Eb K H us vs)(e:atI us i=ca u):∃v,L2.atI vs i=ca v/\RU K H u v:=by
 unfold L2.atI at e ⊢;rw[h.length]at e;cases q:Mh vs.length i with
 |none=>simp_all
 |some j=>
  rw[q]at e;exact h.get e
def Eb.cut    (h:Eb K H us vs) lo hi:Eb K H (Z.cut us lo hi) (cutV vs lo hi):=by
 unfold Z.cut cutV;rw[h.length];exact(h.drop _).take _
theorem Eb.isEmpty    (h:Eb K H us vs):us.isEmpty=vs.isEmpty:=by
 cases us with
 |nil=>cases h;rfl
 |cons u us=>obtain⟨v,z,rfl,_⟩:=h;rfl
theorem Eb.ints  : ∀{us } {vs } {ns },Eb K H us vs->Mk us=ca ns->vs=ns.map V.int
 |[],_,_,h,e=>by cases h;cases e;rfl
 |u::us,_,ns,h,e=>by
  obtain⟨v,F,rfl,r,z⟩:=h;cases u with
  |int i=>
   cases r;rw[Mk]at e;cases q:Mk us with
   |none=>lia
   |some l=>rw[q]at e;cases e;rw[z.ints q];rfl
  |_=>cases e
theorem Eb.strs  : ∀{us } {vs } {ns },Eb K H us vs->Io us=ca ns->vs=ns.map V.str
 |[],_,_,h,e=>by cases h;cases e;rfl
 |u::us,_,ns,h,e=>by
  obtain⟨v,F,rfl,r,z⟩:=h;cases u with
  |str i=>
   cases r;rw[Io]at e;cases q:Io us with
   |none=>lia
   |some l=>rw[q]at e;cases e;rw[z.strs q];rfl
  |_=>cases e
theorem Eb.bools  : ∀{us } {vs } {ns },Eb K H us vs->Om us=ca ns->vs=ns.map V.bl
 |[],_,_,h,e=>by cases h;cases e;rfl
 |u::us,_,ns,h,e=>by
  obtain⟨v,F,rfl,r,z⟩:=h;cases u with
  |bl i=>
   cases r;rw[Om]at e;cases q:Om us with
   |none=>lia
   |some l=>rw[q]at e;cases e;rw[z.bools q];rfl
  |_=>cases e
def HR.lst  (h:HR K H G)(e:G a=ca (.lst us)):∃vs,H a=ca (.lst vs)/\Eb K H us vs:=h a _ e
def HR.ls  (h:HR K H G)(e:Ad G a=ca us):∃vs,Zc K H a vs/\Eb K H us vs:=by
 unfold Ad at e;split at e
 ·rename_i z q;cases e;obtain⟨vs,q2,r⟩:=h a _ q;exact⟨vs,.inl (.inl q2),r⟩
 ·rename_i z q;cases e;obtain⟨o,vs,q2,r⟩:=h a _ q;exact⟨vs,.inl (.inr ⟨o,q2⟩),r⟩
 lia
def HR.rd  (h:HR K H G)(e:Ad G a=ca us):∃vs,Rd H a (.lst vs)/\Eb K H us vs:=by
 unfold Ad at e;split at e
 ·rename_i z q;cases e;obtain⟨vs,q2,r⟩:=h a _ q;exact⟨vs,.inl q2,r⟩
 ·rename_i z q;cases e;obtain⟨o,vs,q2,r⟩:=h a _ q;exact⟨vs,.inr ⟨o,q2⟩,r⟩
 lia
end
mutual
theorem DU.dv {K:Hb}{H:Hp}{G:Gp}(h:HR K H G):∀{u:U} {d:Ma} {v:V},DU G u d->RU K H u v->DV K H v d
 |_,_,_,.non,r=>by cases r;exact .non
 |_,_,_,.bl b,r=>by cases r;exact .bl b
 |_,_,_,.int i,r=>by cases r;exact .int i
 |_,_,_,.str x,r=>by cases r;exact .str x
 |_,_,_,.tup q,r=>by
  obtain⟨a,F,rfl,s,z⟩:=r
  exact .tup (.of s) (Og.dv h q z)
 |_,_,_,.lst e q,r=>by
  cases r
  obtain⟨F,s,z⟩:=h.rd e
  exact .lst s (Og.dv h q z)
 |_,_,_,.dic e,r=>by
  cases r
  obtain⟨l,q,z⟩:=h _ _ e
  cases z
  exact .dic q
theorem Og.dv {K:Hb}{H:Hp}{G:Gp}(h:HR K H G):∀{us:List U} {ds:List Ma} {vs:List V},Og G us ds->Eb K H us vs->fg K H vs ds
 |_,_,_,.nil,r=>by cases r;exact .nil
 |_,_,_,.cons a b,r=>by
  obtain⟨v,F,rfl,r1,z⟩:=r
  exact .cons (DU.dv h a r1) (Og.dv h b z)
end
end Z

namespace L2
open PySem
def PE.imp     (h:PE X e t)(i:∀z H Q,t' z H Q->t z H Q):PE X e t':=λF s z H Q I q=>h F s z H Q I (i z H Q q)
def PT.imp     (h:PT X e t)(i:∀z H Q,t' z H Q->t z H Q):PT X e t':=λF s z H Q I q=>h F s z H Q I (i z H Q q)
def PW.imp     (h:PW X e t)(i:∀z H Q,t' z H Q->t z H Q):PW X e t':=λw F s z H Q I q=>h w F s z H Q I (i z H Q q)
def PA.imp     (h:PA X e t)(i:∀z H Q,t' z H Q->t z H Q):PA X e t':=λpos F s z H Q I q=>h pos F s z H Q I (i z H Q q)
def PO.imp     (h:PO X e t)(i:∀z H Q,t' z H Q->t z H Q):PO X e t':=λF s z H Q I q=>h F s z H Q I (i z H Q q)
def PS.imp     (h:PS X e t)(i:∀D z H,t' D z H->t D z H):PS X e t':=λF s z H D I q=>h F s z H D I (i D z H q)
def Fd.imp     (h:Fd X e t)(i:∀D z H,t' D z H->t D z H):Fd X e t':=λF s z H D I q=>h F s z H D I (i D z H q)
end L2
namespace Z
open PySem L2
noncomputable def gK  (K:Hb):Str->Option Ba:=λx=>(yh K Ud x).join
def XD  (K:Hb)(H:Hp)(C y:Aa)(x:XV):Prop:=1<=x.c/\x.c<6/\XCls K (gK K) (clsN x.c) (clsF x.c) C/\∃l,H y=ca (.xd l)/\l.map (·.1)=clsF x.c/\Eb K H x.fs (l.map (·.2))
def GC  (X:Cx)(H:Hp)(s:Da)(e:Ba)(x:XV):Prop:=∃y C z,e=.ref y/\Lies X.s₀.heap.objs.size X.pn H s.heap y (.ref C) (ca z)/\XD X.K H C z x
section
variable (X:Cx)
def LX (z:St)(H:Hp)(G:Gp)(E:KX):Prop:=∀(y:List (Aa×Obj)) (e:Ba) (s':Da) (x:XV) (G':Gp) (H':Hp),La X y z H' s'->GC X H' s' e x->HR X.K H' G'->Fr H G H' G'->E x G'->X.xe e s'
def LV (H:Hp)(G:Gp)(Q:K1)(F:VK):Prop:=∀w v z y,RU X.K y w v->HR X.K y z->Fr H G y z->Q w z->F v y
def lE (t:UE):TE:=λy H F=>∃z G Q E,SR X.K H z y/\HR X.K H G/\t z G Q E/\LV X H G Q F/\LX X y H G E
def lT (t:UT):TT:=λI H J=>∃F G Q E,SR X.K H F I/\HR X.K H G/\t F G Q E/\(∀b y z,HR X.K z y->Fr H G z y->Q b y->J b z)/\LX X I H G E
def lA (t:UA):TA:=λF H O=>∃I G Q E,SR X.K H I F/\HR X.K H G/\t I G Q E/\(∀L J z y,Eb X.K y L J->HR X.K y z->Fr H G y z->Q L z->O J y)/\LX X F H G E
def lO (t:Sg->Gp->(Option Int->Gp->Prop)->KX->Prop):TO:=λI H J=>∃F G Q E,SR X.K H F I/\HR X.K H G/\t F G Q E/\(∀o y z,HR X.K z y->Fr H G z y->Q o y->J o z)/\LX X I H G E
end
section
variable {X:Cx}{σ:St}{H H1 H2:Hp}{G G1 G2:Gp}
def LX.fr  {E:KX}(h:LX X σ H G E)(f:Fr H G H1 G1):LX X σ H1 G1 E:=λz e R x L O I a F J q=>h z e R x L O I a F (f.trans J) q
def LV.fr    (h:LV X H G Q Q0)(f:Fr H G H1 G1):LV X H1 G1 Q Q0:=λw v z F r I J q=>h w v z F r I (f.trans J) q
def LV.here    (h:LV X H G Q Q0)(r:RU X.K H w v)(hr:HR X.K H G)(q:Q w G):Q0 v H:=h w v G H r hr (Fr.refl _ _) q
def LV.bl    (h:LV X H G Q Q0)(hr:HR X.K H G)(q:Q (.bl b) G):Q0 (.bl b) H:=h.here (w:=.bl b) rfl hr q
def LV.int    (h:LV X H G Q Q0)(hr:HR X.K H G)(q:Q (.int b) G):Q0 (.int b) H:=h.here (w:=.int b) rfl hr q
def LV.str    (h:LV X H G Q Q0)(hr:HR X.K H G)(q:Q (.str b) G):Q0 (.str b) H:=h.here (w:=.str b) rfl hr q
def LV.tup    (h:LV X H G Q Q0)(e:H p=la)(r:Eb X.K H us vs)(hr:HR X.K H G)(q:Q (.tup us) G):Q0 (.ref p) (upd H p (.tup vs)):=
 h (.tup us) (.ref p) G _ ⟨p,vs,rfl,Xe,r.ts (TS.new e)⟩ (hr.newT e) (Fr.new e) q
def LV.lst    (h:LV X H G Q Q0)(e:H p=la)(r:Eb X.K H us vs)(hr:HR X.K H G)(q:newO G (.lst us) Q):Q0 (.ref p) (upd H p (.lst vs)):=
 h (.loc p) (.ref p) _ _ rfl (hr.newO (mo:=.lst us) e ⟨vs,Xe,r.ts (TS.new e)⟩) (Fr.newO e) (q.at p (hr.nope e))
def LV.wl    (h:LV X H G Q Q0)(g:G p=ca mo)(r:Eb X.K H us vs)(hr:HR X.K H G)(z:RU X.K H w v)(q:putO G p (.lst us) (Q w)):Q0 v (upd H p (.lst vs)):=
 h w v _ _ (z.ts (TS.write hr g)) (hr.write (mo':=.lst us) g ⟨vs,Xe,r.ts (TS.write hr g)⟩) (Fr.write g) q.at
end

def lE.two  {R:V->V->Hp->Prop}{k:U->U->Gp->K1->Prop}(h:lE X (λI G Q E=>ta I G (λx L=>tb I L (λy O=>k x y O Q) E) E) σ H Q0)
  (f:∀x y v z G H' Q,RU X.K H' x v->RU X.K H' y z->HR X.K H' G->k x y G Q->LV X H' G Q Q0->R v z H'):lE X ta σ H λv H1=>lE X tb σ H1 λz Y=>R v z Y:=by
 obtain⟨I,G,Q,E,F,hG,h,lv,lx⟩:=h;refine⟨I,G,_,E,F,hG,h,λx v L H1 rx J f1 h1=>?_,lx⟩;refine⟨I,L,_,E,F.ts (f1.ts hG),J,h1,λy z O Y ry Z f2 h2=>?_,lx.fr f1⟩;exact f x y v z O Y Q (rx.ts (f2.ts J)) ry Z h2 (lv.fr (f1.trans f2))
def lE.one  {R:V->Hp->Prop}{k:U->Gp->K1->Prop}(h:lE X (λI G Q E=>ta I G (λx z=>k x z Q) E) σ H Q0)
  (f:∀x v G H' Q,RU X.K H' x v->HR X.K H' G->k x G Q->LV X H' G Q Q0->R v H'):lE X ta σ H R:=by
 obtain⟨I,G,Q,E,F,Y,h,O,lx⟩:=h;exact⟨I,G,_,E,F,Y,h,λx v z Z rx J f1 L=>f x v z Z Q rx J L (O.fr f1),lx⟩
def lE.many    {k:List U->Gp->K1->Prop}(h:lE X (λI G Q E=>ta I G (λx z=>k x z Q) E) σ H Q0)
  (f:∀x v G H' Q,Eb X.K H' x v->HR X.K H' G->k x G Q->LV X H' G Q Q0->R v H'):lA X ta σ H R:=by
 obtain⟨I,G,Q,E,F,Y,h,O,lx⟩:=h;exact⟨I,G,_,E,F,Y,h,λx v z Z rx J f1 L=>f x v z Z Q rx J L (O.fr f1),lx⟩

def tN    (I:X.N[i]?=ca x)(O:Ai X.env.scope x)(hd:(x==("__debug__" : Str))=ia)(y:(x==("__classdict__" : Str))=ia):PE X (.Name x pos) (lE X λF G Q _=>slot F i λu=>Q u G):=by
 refine(Ji I O hd y).imp λY H Z h=>?_;obtain⟨F,G,Q,E,z,L,h,J,_⟩:=h;unfold slot at h;split at h
 ·rename_i u e;obtain⟨v,R,r⟩:=z.2 i u e;exact⟨v,R,J.here r L h⟩
 lia
def pp     (h:PE X e (tC v))(r:∀H,RU X.K H u v):PE X e (lE X λ_ G Q _=>Q u G):=
 h.imp λ_ _ _ ⟨_,_,_,_,_,z,q,y,_⟩=>y.here (r _) z q
def Jl  (X:Cx)(f:Ba->Ba->Sem Ba)(b:U->U->Gp->K1->Prop):Prop:=
 ∃r:R2,ic X f r/\∀x y v z G H Q F,RU X.K H x v->RU X.K H y z->HR X.K H G->b x y G Q->LV X H G Q F->r v z H F

def iO    (L:Jl X (Se o) k)(J:PE X a (lE X ta))(I:PE X b (lE X tb)) :
  PE X (.BinOp a o b pos) (lE X λz G Q E=>ta z G (λx F=>tb z F (λy O=>k x y O Q) E) E):=by
 obtain⟨r,Z,R⟩:=L;exact(uO Z J I).imp λσ H Q0 h=>lE.two h λx y v Y G H' Q rx ry hG q lv=>R x y v Y G H' Q Q0 rx ry hG q lv
def DQ  : Jl X (Se .Add) addU:=by
 refine⟨_,QO.or (GV.or ((iR (X:=X)).or (RO.or gR))),?_⟩;intro x y v v' G H Q Q0 L J F h I;cases x<;>try exact h.elim
 ·cases y<;>try exact h.elim
  cases L;cases J;exact .inr (.inr (.inr (.inr ⟨_,_,rfl,rfl,I.int F h⟩)))
 ·cases y<;>try exact h.elim
  cases L;cases J;exact .inl ⟨_,_,rfl,rfl,I.int F h⟩
 ·cases y<;>try exact h.elim
  cases L;cases J;exact .inr (.inl ⟨_,_,rfl,rfl,h.1,I.str F h.2⟩)
 ·cases y<;>try exact h.elim
  rename_i Y ys;obtain⟨a,R,rfl,s1,r1⟩:=L;obtain⟨b,O,rfl,s2,r2⟩:=J;obtain⟨Z,q⟩:=h;refine .inr (.inr (.inl ⟨a,b,R,O,rfl,rfl,.of s1,.of s2,by rw[<- r1.length,<- r2.length];exact Z,λz=>?_,λ_ z=>?_,λ_ _ p hp=>?_⟩))
  ·have:Y=[]:=by have:=r1.length;simp_all
   subst this;exact I.here (w:=.tup ys) ⟨b,O,rfl,s2,r2⟩ F q
  ·have:ys=[]:=by have:=r2.length;simp_all
   subst this;rw[Li]at q;exact I.here (w:=.tup Y) ⟨a,R,rfl,s1,r1⟩ F q
  ·exact I.tup hp (r1.append r2) F q
 ·cases y<;>try exact h.elim
  cases L;cases J;obtain⟨Y,ys,g1,g2,Z,q⟩:=h;obtain⟨R,e1,r1⟩:=F.lst g1;obtain⟨O,e2,r2⟩:=F.lst g2;exact .inr (.inr (.inr (.inl ⟨_,_,R,O,rfl,rfl,e1,e2,by rw[<- r1.length,<- r2.length];exact Z,λp hp=>I.lst hp (r1.append r2) F q⟩)))
def IQ  : Jl X (Se .Sub) subU:=by
 refine⟨_,CQ.or (LS (X:=X)),?_⟩;intro x y v L G H Q O J I F h z;cases x<;>try exact h.elim
 all_goals cases y<;>try exact h.elim
 all_goals cases J;cases I
 ·exact .inr (.inl ⟨_,_,rfl,rfl,z.int F h⟩)
 ·exact .inr (.inr ⟨_,_,rfl,rfl,z.int F h⟩)
 ·exact .inl ⟨_,_,rfl,rfl,z.int F h⟩
def GQ  : Jl X (Se .Mult) mulU:=by
 refine⟨_,ZO.or (cP.or ((KS (X:=X)).or JS)),?_⟩;intro x y v v' G H Q Q0 R O F h I;cases x<;>try exact h.elim
 all_goals cases y<;>try exact h.elim
 ·cases R;cases O;exact .inl ⟨_,_,rfl,rfl,h.1,I.int F h.2⟩
 ·cases R;cases O;exact .inr (.inr (.inr ⟨_,_,rfl,rfl,h.1,h.2.1,h.2.2.1,I.str F h.2.2.2⟩))
 ·rename_i J k;obtain⟨a,L,rfl,s1,r1⟩:=R;cases O;obtain⟨h0,h1,Z,Y,q⟩:=h;refine .inr (.inr (.inl ⟨a,k,L,rfl,rfl,.of s1,?_,h1,Z,by rw[<- r1.length];exact Y,λz=>?_,λ_ p hp=>I.tup hp (r1.rep _) F q⟩))
  ·intro z;subst z;exact h0 (by have:=r1.length;simp_all)
  ·subst z;have e:(Ab (Js 1) J).flatten=J:=by simp
   rw[e]at q;exact I.here (w:=.tup J) ⟨a,L,rfl,s1,r1⟩ F q
 ·cases R;cases O;obtain⟨J,g1,h1,Z,Y,q⟩:=h;obtain⟨L,e1,r1⟩:=F.lst g1;exact .inr (.inl ⟨_,_,L,rfl,rfl,e1,h1,Z,by rw[<- r1.length];exact Y,λp hp=>I.lst hp (r1.rep _) F q⟩)
def MS  : Jl X (Se .FloorDiv) qD:=by
 refine⟨_,kR,?_⟩;intro x y v L G H Q O J I F h z;cases x<;>try exact h.elim
 cases y<;>try exact h.elim
 ·cases J;cases I;exact⟨_,_,rfl,rfl,⟨h.1,h.2.1⟩,z.int F h.2.2⟩
def FQ  : Jl X (Se .Mod) modU:=by
 refine⟨_,YO,?_⟩;intro x y v L G H Q O J I F h z;cases x<;>try exact h.elim
 cases y<;>try exact h.elim
 ·cases J;cases I;exact⟨_,_,rfl,rfl,h.1,z.int F h.2⟩
def HQ  : Jl X (Se .Pow) powU:=by
 refine⟨_,bP,?_⟩;intro x y v L G H Q O J I F h z;cases x<;>try exact h.elim
 cases y<;>try exact h.elim
 ·cases J;cases I;exact⟨_,_,rfl,rfl,h.1,z.int F h.2⟩
def EQ   o:Jl X (Se o) (binU o):=by
 cases o with
 |Add=>exact DQ
 |Sub=>exact IQ
 |Mult=>exact GQ
 |FloorDiv=>exact MS
 |Mod=>exact FQ
 |Pow=>exact HQ
 |_=>exact⟨λ_ _ _ _=>False,λ_ _ _ _ _ _ _ _ _ _ _ _ h=>h.elim,λ_ _ _ _ _ _ _ _ _ _ _ h _=>h⟩
def lN  (z:PE X a (lE X ta)):PE X (.UnaryOp .USub a pos) (lE X λJ G Q E=>ta J G (λx y=>negU x y Q) E):=by
 refine(wO eQ z).imp λR H O h=>lE.one h λx v G Y Q L I q F=>?_;cases x<;>try exact q.elim
 cases L;exact⟨_,rfl,F.int I q⟩
def Tn  (X:Cx)(o:Pt):Prop:=
 ∃r:R2,ic X (Ed o) r/\∀x y v v' G H (k:Bool->Prop) (Q0:VK),RU X.K H x v->RU X.K H y v'->HR X.K H G->cmpU o x y G k->(∀c,k c->Q0 (.bl c) H)->r v v' H Q0

def PC  (z:Bool):R2:=λx y H Q=>((x=.non\/∃b,x=.bl b)\/(y=.non\/∃b,y=.bl b))/\Q (.bl (if z then !decide (x=y) else decide (x=y))) H
def NF    (F:RelV x v)(z:RelV y u)(h:(x=.non\/∃b,x=.bl b)\/(y=.non\/∃b,y=.bl b)):plainIs v u=da/\(v==u)=decide (x=y):=by
 rcases h with(rfl|⟨b,rfl⟩)|(rfl|⟨b,rfl⟩)
 ·cases F;cases y with
  |non=>cases z;exact⟨rfl,by simp⟩
  |bl c=>cases z;exact⟨rfl,by simp⟩
  |int _=>obtain⟨t,rfl⟩:=z;exact⟨rfl,by simp⟩
  |str _=>obtain⟨t,rfl⟩:=z;exact⟨rfl,by simp⟩
  |byt _=>obtain⟨t,rfl⟩:=z;exact⟨rfl,by simp⟩
  |flt _=>obtain⟨t,rfl⟩:=z;exact⟨rfl,by simp⟩
  |ref _=>cases z;exact⟨rfl,by simp⟩
  |ty _=>cases z;exact⟨rfl,by simp⟩
 ·cases F;cases y with
  |non=>cases z;exact⟨rfl,by simp⟩
  |bl c=>cases z;exact⟨rfl,by lia⟩
  |int _=>obtain⟨t,rfl⟩:=z;exact⟨rfl,by simp⟩
  |str _=>obtain⟨t,rfl⟩:=z;exact⟨rfl,by simp⟩
  |byt _=>obtain⟨t,rfl⟩:=z;exact⟨rfl,by simp⟩
  |flt _=>obtain⟨t,rfl⟩:=z;exact⟨rfl,by simp⟩
  |ref _=>cases z;exact⟨rfl,by simp⟩
  |ty _=>cases z;exact⟨rfl,by simp⟩
 ·cases z;cases x with
  |non=>cases F;exact⟨rfl,by simp⟩
  |bl c=>cases F;exact⟨rfl,by simp⟩
  |int _=>obtain⟨t,rfl⟩:=F;exact⟨rfl,by simp⟩
  |str _=>obtain⟨t,rfl⟩:=F;exact⟨rfl,by simp⟩
  |byt _=>obtain⟨t,rfl⟩:=F;exact⟨rfl,by simp⟩
  |flt _=>obtain⟨t,rfl⟩:=F;exact⟨rfl,by simp⟩
  |ref _=>cases F;exact⟨rfl,by simp⟩
  |ty _=>cases F;exact⟨rfl,by simp⟩
 ·cases z;cases x with
  |non=>cases F;exact⟨rfl,by simp⟩
  |bl c=>cases F;exact⟨rfl,by lia⟩
  |int _=>obtain⟨t,rfl⟩:=F;exact⟨rfl,by simp⟩
  |str _=>obtain⟨t,rfl⟩:=F;exact⟨rfl,by simp⟩
  |byt _=>obtain⟨t,rfl⟩:=F;exact⟨rfl,by simp⟩
  |flt _=>obtain⟨t,rfl⟩:=F;exact⟨rfl,by simp⟩
  |ref _=>cases F;exact⟨rfl,by simp⟩
  |ty _=>cases F;exact⟨rfl,by simp⟩
def XO  : ic X (Ed .Is) (PC ia):=by
 intro z s R H x y v u Q I O L h;obtain⟨c,q⟩:=h;obtain⟨J,F⟩:=NF O L c;refine wpAny_is_plain J ⟨.bl _,H,I,?_,q⟩;rw[F];rfl
def WU  : ic X (Ed .IsNot) (PC da):=by
 intro z s R H x y v u Q I O L h;obtain⟨c,q⟩:=h;obtain⟨J,F⟩:=NF O L c;refine wpAny_isNot_plain J ⟨.bl _,H,I,?_,q⟩;rw[F];rfl
def FE       (I:RU K H x v)(F:RU K H y J)(h:lj x y k):((v=.non\/∃b,v=.bl b)\/(J=.non\/∃b,J=.bl b))/\k (decide (v=J)):=by
 have e:∀{a b:V},a≠b->k ia->k (decide (a=b)):=λn q=>by lia
 cases x<;>try exact h.elim
 ·cases y
  case non=>have O:k da:=h;cases I;cases F;lia
  all_goals first
   |exact h.elim
   |(cases I;obtain⟨a,L,rfl,_⟩:=F;exact⟨.inl (.inl rfl),e (λz=>nomatch z) h⟩)
   |(cases I;cases F;exact⟨.inl (.inl rfl),e (λz=>nomatch z) h⟩)
 ·cases y<;>first
   |exact h.elim
   |(cases I;cases F;exact⟨.inr (.inl rfl),e (λz=>nomatch z) h⟩)
   |(cases I;cases F;rename_i b c;exact⟨.inl (.inr ⟨_,rfl⟩),by rw[decide_eq_decide.mpr (⟨λz=>V.bl.inj z,λz=>z ▸ rfl⟩:V.bl b=.bl c↔b=c)];exact h⟩)
 ·cases y<;>first
   |exact h.elim
   |(cases I;cases F;exact⟨.inr (.inl rfl),e (λz=>nomatch z) h⟩)
   |(cases I;cases F;exact⟨.inr (.inr ⟨_,rfl⟩),e (λz=>nomatch z) h⟩)
 ·cases y<;>first
   |exact h.elim
   |(cases I;cases F;exact⟨.inr (.inl rfl),e (λz=>nomatch z) h⟩)
   |(cases I;cases F;exact⟨.inr (.inr ⟨_,rfl⟩),e (λz=>nomatch z) h⟩)
 ·cases y<;>first
   |exact h.elim
   |(cases F;obtain⟨a,L,rfl,_⟩:=I;exact⟨.inr (.inl rfl),e (λz=>nomatch z) h⟩)
   |(cases F;obtain⟨a,L,rfl,_⟩:=I;exact⟨.inr (.inr ⟨_,rfl⟩),e (λz=>nomatch z) h⟩)
 ·cases y<;>first
   |exact h.elim
   |(cases I;cases F;exact⟨.inr (.inl rfl),e (λz=>nomatch z) h⟩)
   |(cases I;cases F;exact⟨.inr (.inr ⟨_,rfl⟩),e (λz=>nomatch z) h⟩)
def YD  {X: Cx}(J:RU X.K H x v)(I:RU X.K H y F)(L:HR X.K H G)(h:eqU x y G k) :
  (scal v F=da/\k (decide (v=F)))\/∃d e,DV X.K H v d/\DV X.K H F e/\d.canLay0=da/\e.canLay0=da/\d.depth<=100/\k (Ce d e):=by
 have g:(∃d e,DU G x d/\DU G y e/\Small d/\Small e/\k (Ce d e))->(scal v F=da/\k (decide (v=F)))\/∃d e,DV X.K H v d/\DV X.K H F e/\d.canLay0=da/\e.canLay0=da/\d.depth<=100/\k (Ce d e):=
  λ⟨d,e,R,O,⟨s1,s2⟩,⟨Y,_⟩,q⟩=>.inr ⟨d,e,R.dv L J,O.dv L I,s1,Y,s2,q⟩
 have e:∀{p:Prop} [Decidable p],¬p->k ia->k (decide p):=λn q=>by lia
 cases x<;>try exact g h
 all_goals
  cases y<;>first
   |exact g h
   |(cases J;cases I;exact .inl ⟨rfl,e (λz=>V.noConfusion z) h⟩)
   |(cases J;cases I;exact .inl ⟨rfl,by simp only[V.bl.injEq,V.int.injEq,V.str.injEq];exact h⟩)
def Rz      (r:Eb K H us vs):vs.isEmpty=us.isEmpty:=by
 have:=r.length;cases us<;>cases vs<;>simp_all
def oR  {X: Cx}(J:RU X.K H x v)(I:RU X.K H y L)(O:HR X.K H G)(h:uw x y G k):eqU x y G k\/(∃a z kvs,v=.ref a/\L=.str z/\H a=ca (.dK kvs)/\k ia)\/(∃a b xs,v=.ref a/\L=.ref b/\Pc X.K H a xs/\Pc X.K H b []/\k xs.isEmpty)\/∃a z xs,v=.ref a/\L=.str z/\(Pc X.K H a xs\/Zc X.K H a xs)/\k ia:=by
 cases x<;>try exact .inl h
 all_goals cases y<;>try exact .inl h
 ·obtain⟨a,F,rfl,s1,r1⟩:=J;cases I;exact .inr (.inr (.inr ⟨a,_,F,rfl,rfl,.inl (.of s1),h⟩))
 ·rename_i R;cases R<;>try exact .inl h
  obtain⟨a,F,rfl,s1,r1⟩:=J;obtain⟨b,Z,rfl,s2,r2⟩:=I;cases r2;refine .inr (.inr (.inl ⟨a,b,F,rfl,rfl,.of s1,.of s2,?_⟩));rw[Rz r1];exact h
 ·rcases h with⟨kvs,g,q⟩|⟨xs,g,q⟩|h
  ·cases J;cases I;obtain⟨l,e,Y⟩:=O _ _ g;exact .inr (.inl ⟨_,_,l,rfl,rfl,e,q⟩)
  ·cases J;cases I;obtain⟨F,e,Y⟩:=O.lst g;exact .inr (.inr (.inr ⟨_,_,F,rfl,rfl,.inr (.of e),q⟩))
  ·exact .inl h
def SQ  {X: Cx}(L:RU X.K H x v)(J:RU X.K H y F)(I:HR X.K H G)(h:fD x y G k):eqU x y G k\/(∃a b xs,v=.ref a/\F=.ref b/\Pc X.K H a xs/\Pc X.K H b []/\k xs.isEmpty)\/∃a b xs,v=.ref a/\F=.ref b/\Zc X.K H a xs/\Zc X.K H b []/\k xs.isEmpty:=by
 cases x<;>try exact .inl h
 case loc a=>
  cases y<;>try exact .inl h
  rcases h with⟨us,O,R,q⟩|h
  ·obtain⟨z,Z,r1⟩:=I.lst O;obtain⟨ws,e2,r2⟩:=I.lst R;cases r2;cases L;cases J;refine .inr (.inr ⟨_,_,z,rfl,rfl,.of Z,.of e2,?_⟩);rw[Rz r1];exact q
  ·exact .inl h
 cases y<;>try exact .inl h
 rename_i Y;cases Y<;>try exact .inl h
 obtain⟨a,z,rfl,s1,r1⟩:=L;obtain⟨b,ws,rfl,s2,r2⟩:=J;cases r2;refine .inr (.inl ⟨a,b,z,rfl,rfl,.of s1,.of s2,?_⟩);rw[Rz r1];exact h
def Nk       (r:RU K H x v)(e:kU x=ca k):v=kV k:=by
 cases x with
 |int i=>cases r;cases e;rfl
 |str i=>cases r;cases e;rfl
 |_=>cases e
theorem mv    : ∀{xs } {vs } {y },Eb K H xs vs->Dm xs=ca y->vs=y.map kV
 |[],_,_,r,e=>by cases r;cases e;rfl
 |x::xs,_,y,r,e=>by
  obtain⟨v,J,rfl,r1,I⟩:=r;rw[Dm]at e;cases F:kU x with
  |none=>lia
  |some k=>
   cases z:Dm xs with
   |none=>lia
   |some l=>
    rw[F,z]at e;cases e;rw[Nk r1 F,mv I z];rfl
def Fv      (r:RU K H x v)(e:flat x=da):gi v=da:=by
 cases x<;>first|(cases r;rfl)|exact absurd (show ia=da from e) (by decide)
theorem Nv    : ∀{xs } {vs },Eb K H xs vs->xs.all flat=da->vs.all gi=da
 |[],_,r,_=>by cases r;rfl
 |x::xs,_,r,e=>by
  obtain⟨v,z,rfl,r1,y⟩:=r;rw[Bh,Lc]at e;rw[Bh,Fv r1 e.1,Nv y e.2];rfl
def GP      (r:RU K H x v)(z:RU K H y I)(e:flat x=da)(F:flat y=da):Uj v I=Xg x y:=by
 cases x<;>first|(exact absurd (show ia=da from e) (by decide))|(cases y<;>first|(exact absurd (show ia=da from F) (by decide))|(cases r;cases z;rfl))
theorem Zu      (r:RU K H x v)(e:flat x=da):∀{xs } {vs },Eb K H xs vs->xs.all flat=da->Bs v vs=xs.any λy=>Xg y x
 |[],_,z,_=>by cases z;rfl
 |y::xs,_,z,e'=>by
  obtain⟨J,I,rfl,r1,z⟩:=z;rw[Bh,Lc]at e';have F:=Zu r e z e'.2;unfold Bs at F ⊢;rw[tj,tj,GP r1 r e'.1 e,F]
theorem qp {y:Type}[DecidableEq y]{K:Hb}{H:Hp}(k:y):∀{kvs:List (y×U)} {l:List (y×V)},Zd K H kvs l->match dGet kvs k with|some u=>∃v,valV l k=ca v/\RU K H u v|none=>valV l k=la
 |[],_,r=>by cases r;exact rfl
 |(k',u)::kvs,_,r=>by
  obtain⟨v,F,rfl,r1,z⟩:=r;by_cases e:k'=k
  ·subst e;have:dGet ((k',u)::kvs) k'=ca u:=by simp[dGet,Mi]
   rw[this];exact⟨v,Sv rfl,r1⟩
  ·have:dGet ((k',u)::kvs) k=dGet kvs k:=by simp[dGet,Mi,e]
   rw[this,Rv (p:=(k',v)) e];exact qp k z
def Jz   [DecidableEq κ](k:κ)(r:Zd K H kvs l):(valV l k).isSome=(dGet kvs k).isSome:=by
 have:=qp k r
 grind
def rDIn  (z:Bool):R2:=λx y H Q=>∃a o,y=.ref a/\DGet H a x o/\Q (.bl (if z then !o.isSome else o.isSome)) H
def SO  (hu:X.A.units+1<Pb):ic X (Ed .In) (rDIn ia):=by
 intro z s R H x y v u Q I L J h;obtain⟨a,o,rfl,g,q⟩:=h;cases J;exact d_in hu I g L λO F=>⟨.bl o.isSome,H,F,rfl,q⟩
def TU  (hu:X.A.units+1<Pb):ic X (Ed .NotIn) (rDIn da):=by
 intro z s R H x y v u Q I L J h;obtain⟨a,o,rfl,g,q⟩:=h;cases J;exact mR hu I g L λO F=>⟨.bl (!o.isSome),H,F,rfl,q⟩
def DE  {X: Cx}(F:RU X.K H x v)(R:RU X.K H y Y)(I:HR X.K H G)(h:Wg x y G k) :
  (∃i j,v=.str i/\Y=.str j/\k (!(ux j i 0 j.length 1).isEmpty))\/(∃p xs,Y=.ref p/\(Zc X.K H p xs\/Pc X.K H p xs)/\gi v=da/\xs.all gi=da/\k (Bs v xs))\/
   (∃a o,Y=.ref a/\DGet H a v o/\k o.isSome)\/(∃(p:Aa) (vs:List V) (d:Ma) (ds:List Ma),Y=.ref p/\(Zc X.K H p vs\/Pc X.K H p vs)/\DV X.K H v d/\fg X.K H vs ds/\d.canLay0=da/\d.depth<=100/\(∀e∈ds,e.canLay0=da)/\k (ds.any λe=>Ce e d))\/∃(a p:Aa) (Z:List Str),v=.ref a/\((∃xs,Pc X.K H a xs\/Zc X.K H a xs)\/∃kvs,H a=ca (.dK kvs))/\Y=.ref p/\Pc X.K H p (Z.map V.str)/\k ia:=by
 unfold Wg at h;split at h
 ·cases F;cases R;exact .inl ⟨_,_,rfl,rfl,h⟩
 ·obtain⟨a,vs,rfl,e,z⟩:=R;rcases h with⟨O,q⟩|⟨d,ds,hd,hds,sd,sds,q⟩
  ·obtain⟨Z,O⟩:=Lb.mp O;obtain⟨b,ws,rfl,e2,_⟩:=F;exact .inr (.inr (.inr (.inr ⟨b,a,Z,rfl,.inl ⟨ws,.inl (.of e2)⟩,rfl,z.strs O ▸ .of e,q⟩)))
  ·exact .inr (.inr (.inr (.inl ⟨a,vs,d,ds,rfl,.inr (.of e),hd.dv I F,hds.dv I z,sd.1,sd.2,λe he=>(sds e he).1,q⟩)))
 ·obtain⟨a,vs,rfl,e,z⟩:=R;obtain⟨O,hl,q⟩:=h;obtain⟨Z,O⟩:=Lb.mp O;cases F;refine .inr (.inr (.inr (.inr ⟨_,a,Z,rfl,?_,rfl,z.strs O ▸ .of e,q⟩)));rcases hl with⟨xs,g⟩|⟨kvs,g⟩
  ·obtain⟨ws,e2,_⟩:=I.lst g;exact .inl ⟨ws,.inr (.of e2)⟩
  ·obtain⟨l,e2,_⟩:=I _ _ g;exact .inr ⟨l,e2⟩
 ·obtain⟨a,vs,rfl,e,z⟩:=R;obtain⟨L,J,q⟩:=h;exact .inr (.inl ⟨a,vs,rfl,.inr (.of e),Fv F L,Nv z J,by rw[Zu F L z J];exact q⟩)
 ·cases R;rename_i a;split at h
  ·rename_i ys g;obtain⟨vs,e,z⟩:=I.lst g;rcases h with⟨L,J,q⟩|⟨d,ds,hd,hds,sd,sds,q⟩
   ·exact .inr (.inl ⟨a,vs,rfl,.inl (.of e),Fv F L,Nv z J,by rw[Zu F L z J];exact q⟩)
   ·exact .inr (.inr (.inr (.inl ⟨a,vs,d,ds,rfl,.inl (.of e),hd.dv I F,hds.dv I z,sd.1,sd.2,λe he=>(sds e he).1,q⟩)))
  ·rename_i ys g;obtain⟨ob,vs,e,z⟩:=I a _ g;obtain⟨L,J,q⟩:=h;exact .inr (.inl ⟨a,vs,rfl,.inl (.inl (.inr ⟨ob,e⟩)),Fv F L,Nv z J,by rw[Zu F L z J];exact q⟩)
  ·rename_i kvs g;obtain⟨l,e,z⟩:=I a _ g;split at h
   ·rename_i y ek;have:=Nk F ek;subst this;exact .inr (.inr (.inl ⟨a,_,rfl,DGet.k e,by rw[Jz y z];exact h⟩))
   lia
  ·rename_i kvs g;obtain⟨l,e,z⟩:=I a _ g;split at h
   ·rename_i xs;obtain⟨b,vs,rfl,eb,rb⟩:=F;split at h
    ·rename_i y ek;have:=mv rb ek;subst this;exact .inr (.inr (.inl ⟨a,_,rfl,DGet.t e eb,by rw[Jz y z];exact h⟩))
    lia
   lia
  ·rename_i o kvs g;obtain⟨l,e,z⟩:=I a _ g;split at h
   ·rename_i y ek;have:=Nk F ek;subst this;exact .inr (.inr (.inl ⟨a,_,rfl,.inl ⟨l,y,.inr ⟨o,e⟩,rfl,rfl⟩,by rw[Jz y z];exact h⟩))
   lia
  lia
 lia
def Gv     (h:ordU o x y k):(∃i j,x=.int i/\y=.int j)\/(o=.LtE/\∃i j,x=.str i/\y=.str j):=by
 cases o<;>try exact h.elim
 all_goals cases x<;>try exact h.elim
 all_goals cases y<;>try exact h.elim
 all_goals lia
def bp   (hr:Room k X.A) o:Tn X o:=by
 have hu:X.A.units+1<Pb:=by have:=hr.un;lia
 cases o with
 |Eq=>
  refine⟨_,ZM.or ((UO hr).or ((CW hr).or ((IV hr).or (jW hr)))),λx y v Y G H k Z O L R h q=>?_⟩;rcases oR O L R h with h|⟨a,z,kvs,I,F,J,h4⟩|⟨a,b,xs,I,F,J,h4,h5⟩|⟨a,z,xs,I,F,J,h4⟩
  ·rcases YD O L R h with⟨I,F⟩|⟨d,e,I,F,J,h4,h5,h6⟩
   ·exact .inl ⟨I,q _ F⟩
   ·exact .inr (.inl ⟨d,e,I,F,J,h4,h5,q _ h6⟩)
  ·exact .inr (.inr (.inl ⟨a,z,kvs,I,F,J,q _ h4⟩))
  ·exact .inr (.inr (.inr (.inl ⟨a,b,xs,I,F,J,h4,q _ h5⟩)))
  ·exact .inr (.inr (.inr (.inr ⟨a,z,xs,I,F,J,q _ h4⟩)))
 |NotEq=>
  refine⟨_,oO.or ((aP hr).or ((MV hr).or (JV hr))),λx y v Y G H k Z O L R h q=>?_⟩;rcases SQ O L R h with h|⟨a,b,xs,I,F,J,h4,h5⟩|⟨a,b,xs,I,F,J,h4,h5⟩
  ·rcases YD O L R h with⟨I,F⟩|⟨d,e,I,F,J,h4,h5,h6⟩
   ·exact .inl ⟨I,q _ F⟩
   ·exact .inr (.inl ⟨d,e,I,F,J,h4,h5,q _ h6⟩)
  ·exact .inr (.inr (.inl ⟨a,b,xs,I,F,J,h4,q _ h5⟩))
  ·exact .inr (.inr (.inr ⟨a,b,xs,I,F,J,h4,q _ h5⟩))
 |Is=>
  refine⟨_,XO,λx y v Y G H k Z O L R h q=>?_⟩;obtain⟨I,F⟩:=FE O L h;exact⟨I,q _ F⟩
 |IsNot=>
  refine⟨_,WU,λx y v Y G H k Z O L R h q=>?_⟩;obtain⟨I,F⟩:=FE O L h;exact⟨I,q _ F⟩
 |In=>
  refine⟨_,VU.or ((UU (X:=X)).or ((SO hu).or ((VO hr).or (WO hr)))),λx y v Y G H k Z O L R h q=>?_⟩;rcases DE O L R h with⟨i,j,I,F,J⟩|⟨p,xs,I,F,J,h4,h5⟩|⟨a,o,I,F,J⟩|⟨p,vs,d,ds,I,F,J,h4,h5,h6,h7,h8⟩|⟨a,p,zs,I,F,J,h4,h5⟩
  ·grind
  ·exact .inr (.inl ⟨p,xs,I,F,J,h4,q _ h5⟩)
  ·exact .inr (.inr (.inl ⟨a,o,I,F,q _ J⟩))
  ·exact .inr (.inr (.inr (.inl ⟨p,vs,d,ds,I,F,J,h4,h5,h6,h7,q _ h8⟩)))
  ·exact .inr (.inr (.inr (.inr ⟨a,p,zs,I,F,J,h4,q _ h5⟩)))
 |NotIn=>
  refine⟨_,lW.or ((kW (X:=X)).or ((TU hu).or ((YU hr).or (ZU hr)))),λx y v Y G H k Z O L R h q=>?_⟩;rcases DE O L R h with⟨i,j,I,F,J⟩|⟨p,xs,I,F,J,h4,h5⟩|⟨a,o,I,F,J⟩|⟨p,vs,d,ds,I,F,J,h4,h5,h6,h7,h8⟩|⟨a,p,zs,I,F,J,h4,h5⟩
  ·grind
  ·exact .inr (.inl ⟨p,xs,I,F,J,h4,q _ h5⟩)
  ·exact .inr (.inr (.inl ⟨a,o,I,F,q _ J⟩))
  ·exact .inr (.inr (.inr (.inl ⟨p,vs,d,ds,I,F,J,h4,h5,h6,h7,q _ h8⟩)))
  ·exact .inr (.inr (.inr (.inr ⟨a,p,zs,I,F,J,h4,q _ h5⟩)))
 |Lt=>
  refine⟨_,mO,λx y v Y G H k Z O L R h q=>?_⟩;obtain⟨i,j,rfl,rfl⟩|⟨z,_⟩:=Gv h
  rotate_left
  ·cases z
  cases O;cases L;exact⟨_,_,rfl,rfl,q _ h⟩
 |LtE=>
  refine⟨_,dN.or XU,λx y v Y G H k Z O L R h q=>?_⟩;obtain⟨i,j,rfl,rfl⟩|⟨_,i,j,rfl,rfl⟩:=Gv h
  ·cases O;cases L;exact .inl ⟨_,_,rfl,rfl,q _ h⟩
  ·cases O;cases L;exact .inr ⟨_,_,rfl,rfl,q _ h⟩
 |Gt=>
  refine⟨_,cN,λx y v Y G H k Z O L R h q=>?_⟩;obtain⟨i,j,rfl,rfl⟩|⟨z,_⟩:=Gv h
  rotate_left
  ·cases z
  cases O;cases L;exact⟨_,_,rfl,rfl,q _ h⟩
 |GtE=>
  refine⟨_,aN,λx y v Y G H k Z O L R h q=>?_⟩;obtain⟨i,j,rfl,rfl⟩|⟨z,_⟩:=Gv h
  rotate_left
  ·cases z
  cases O;cases L;exact⟨_,_,rfl,rfl,q _ h⟩

def eN   (R:Tn X o)(O:PE X a (lE X ta))(L:PE X b (lE X tb))(hm:Xw o b=ia) :
  PE X (.Compare a [o] [b] pos) (lE X λI G Q E=>ta I G (λx J=>tb I J (λy z=>cmpU o x y z λc=>Q (.bl c) z) E) E):=by
 obtain⟨r,h1,Y⟩:=R;exact(OS h1 O L hm).imp λσ H Q0 h=>lE.two h λx y v Z G H' Q rx ry F q lv=>Y x y v Z G H' _ Q0 rx ry F q λc q=>lv.bl F q
def WP   (ho:Tn X o)(ja:Tn X o')(ha:PE X a (lE X ta))(hb:PE X b (lE X tb))(hc:PE X c (lE X tc))(hm:Dw [o,o'] [b,c]=ia) :
  PE X (.Compare a [o,o'] [b,c] pos) (lE X λJ G Q E=>ta J G (λx G1=>tb J G1 (λy O=>cmpU o x y O λt=>if t=da then tc J O (λz G3=>cmpU o' y z G3 λt'=>Q (.bl t') G3) E else Q (.bl ia) O) E) E):=by
 obtain⟨r,h1,h2⟩:=ho;obtain⟨r',za,xa⟩:=ja;refine(uU h1 za ha hb hc hm).imp λσ H Q0 h=>?_;obtain⟨J,G,Q,E,I,hG,h,lv,lx⟩:=h;refine⟨J,G,_,E,I,hG,h,λx v G1 H1 rx L R h1=>?_,lx⟩;refine⟨J,G1,_,E,I.ts (R.ts hG),L,h1,λy v' O H2 ry F Z h3=>?_,lx.fr R⟩;refine h2 x y v v' O H2 _ _ (rx.ts (Z.ts L)) ry F h3 λt q=>⟨t,rfl,?_⟩;cases t with
 |false=>
  rw[if_neg Dd]at q ⊢;exact(lv.fr (R.trans Z)).bl F q
 |true=>
  rw[if_pos rfl]at q ⊢;refine⟨J,O,_,E,(I.ts (R.ts hG)).ts (Z.ts L),F,q,λz v3 G3 H3 rz Y f3 h4=>?_,lx.fr (R.trans Z)⟩;exact xa y z v' v3 G3 H3 _ Q0 (ry.ts (f3.ts F)) rz Y h4 λc q=>(lv.fr ((R.trans Z).trans f3)).bl Y q
def Kv  {X: Cx}(z:RU X.K H x v)(J:HR X.K H G)(h:truU x G k):∃b,TruV X.K v H b/\k b:=by
 cases x<;>try exact h.elim
 ·cases z;exact⟨_,rfl,h⟩
 ·cases z;exact⟨_,rfl,h⟩
 ·cases z;exact⟨_,rfl,h⟩
 ·cases z;exact⟨_,⟨h.1,rfl⟩,h.2⟩
 ·obtain⟨a,F,rfl,e,y⟩:=z;exact⟨_,.inr (.inl ⟨F,.of e,rfl⟩),by rw[<- y.isEmpty];exact h⟩
 ·cases z;unfold truU at h;dsimp only at h;split at h
  ·rename_i g;obtain⟨F,e,y⟩:=J.lst g;exact⟨_,.inl ⟨F,.of e,rfl⟩,by rw[<- y.isEmpty];exact h⟩
  ·rename_i g;obtain⟨L,F,e,y⟩:=J _ _ g;exact⟨_,.inl ⟨F,.inl (.inr ⟨L,e⟩),rfl⟩,by rw[<- y.isEmpty];exact h⟩
  ·rename_i I g;obtain⟨l,e,y⟩:=J _ _ g;refine⟨_,.inr (.inr ⟨l,e,rfl⟩),?_⟩;cases I with
   |nil=>cases y;exact h
   |cons p r=>obtain⟨v,O,rfl,_⟩:=y;exact h
  lia
def pN  (L:PE X a (lE X ta))(O:∀y,ce a X.env y=(do let v <- y;be a.pos;Wb [v] (Bj v))):PT X a (lT X λI G Q E=>ta I G (λx z=>truU x z λb=>Q b z) E):=by
 refine(WT L O).imp λσ H Q0 h=>?_;obtain⟨I,G,Q,E,F,Y,h,lv,lx⟩:=h;refine⟨I,G,_,E,F,Y,h,λx v z H1 Z J f1 R=>?_,lx⟩;obtain⟨b,h2,h3⟩:=Kv Z J R
 grind
def ZP   (ho:Tn X o)(ha:PE X a (lE X ta))(hb:PE X b (lE X tb))(hm:Xw o b=ia) :
  PT X (.Compare a [o] [b] pos) (lT X λJ G Q E=>ta J G (λx Y=>tb J Y (λy z=>cmpU o x y z λc=>truU (.bl c) z λc=>Q c z) E) E):=by
 obtain⟨r,O,h2⟩:=ho;refine(tS O ha hb hm).imp λσ H Q0 h=>?_;obtain⟨J,G,Q,E,F,hG,h,lv,lx⟩:=h;refine⟨J,G,_,E,F,hG,h,λx v Y H1 rx L R O=>?_,lx⟩;refine⟨J,Y,_,E,F.ts (R.ts hG),L,O,λy v' z H2 ry I Z h3=>?_,lx.fr R⟩;exact h2 x y v v' z H2 _ _ (rx.ts (Z.ts L)) ry I h3 λt q=>⟨t,rfl,lv t z H2 I (R.trans Z) q⟩
def XR   (ho:Tn X o)(ja:Tn X o')(ha:PE X a (lE X ta))(hb:PE X b (lE X tb))(hc:PE X c (lE X tc))(hm:Dw [o,o'] [b,c]=ia) :
  PT X (.Compare a [o,o'] [b,c] pos) (lT X λL G Q E=>ta L G (λx G1=>tb L G1 (λy I=>cmpU o x y I λt=>if t=da then tc L I (λz Y=>cmpU o' y z Y λt'=>truU (.bl t') Y λc=>Q c Y) E else truU (.bl ia) I λc=>Q c I) E) E):=by
 obtain⟨r,h1,h2⟩:=ho;obtain⟨r',za,xa⟩:=ja;refine(VT h1 za ha hb hc hm).imp λσ H Q0 h=>?_;obtain⟨L,G,Q,E,J,hG,h,lv,lx⟩:=h;refine⟨L,G,_,E,J,hG,h,λx v G1 H1 rx O R h1=>?_,lx⟩;refine⟨L,G1,_,E,J.ts (R.ts hG),O,h1,λy v' I H2 ry F f2 h3=>?_,lx.fr R⟩;refine h2 x y v v' I H2 _ _ (rx.ts (f2.ts O)) ry F h3 λt q=>⟨t,rfl,?_⟩;cases t with
 |false=>
  rw[if_neg Dd]at q ⊢;exact⟨ia,rfl,lv ia I H2 F (R.trans f2) q⟩
 |true=>
  rw[if_pos rfl]at q ⊢;refine⟨L,I,_,E,(J.ts (R.ts hG)).ts (f2.ts O),F,q,λz v3 Y H3 rz Z f3 h4=>?_,lx.fr (R.trans f2)⟩;exact xa y z v' v3 Y H3 _ _ (ry.ts (f3.ts F)) rz Z h4 λc q=>⟨c,rfl,lv c Y H3 Z ((R.trans f2).trans f3) q⟩
def NS  {rest:List Ia}(R:PE X a sa)(O:PE X (.BoolOp .And (b::rest) pos) sb):PE X (.BoolOp .And (a::b::rest) pos) (λz H Q=>sa z H λx F=>∃k,TruV X.K x F k/\if k=da then sb z F Q else Q x F):=by
 intro y s z H Q I h;refine PyProof.Rows.BoolOp_and (Db (R y s z H _ I h) λv s1 ⟨x,F,Y,r1,k,hk,q1⟩=>?_);refine Db (sv y s1 z F x v (λc J=>c=k/\J=F) Y r1 ⟨k,hk,rfl,rfl⟩) λc s2 ⟨J,L,Z,e2⟩=>?_;subst Z e2;cases c with
 |true=>exact O y s2 z J Q L q1
 |false=>exact⟨x,J,L,r1,q1⟩
def mQ  {rest:List Ia}(R:PE X a sa)(O:PE X (.BoolOp .Or (b::rest) pos) sb):PE X (.BoolOp .Or (a::b::rest) pos) (λz H Q=>sa z H λx F=>∃k,TruV X.K x F k/\if k=da then Q x F else sb z F Q):=by
 intro y s z H Q I h;refine PyProof.Rows.BoolOp_or (Db (R y s z H _ I h) λv s1 ⟨x,F,Y,r1,k,hk,q1⟩=>?_);refine Db (sv y s1 z F x v (λc J=>c=k/\J=F) Y r1 ⟨k,hk,rfl,rfl⟩) λc s2 ⟨J,L,Z,e2⟩=>?_;subst Z e2;cases c with
 |true=>exact⟨x,J,L,r1,q1⟩
 |false=>exact O y s2 z J Q L q1
def bO  {rest:List Ia}(ha:PE X a (lE X ta))(Z:PE X (.BoolOp .And (b::rest) pos) (lE X tb)):PE X (.BoolOp .And (a::b::rest) pos) (lE X λI G Q E=>ta I G (λx z=>truU x z λc=>if c=da then tb I z Q E else Q x z) E):=by
 refine(NS ha Z).imp λσ H Q0 h=>?_;obtain⟨I,G,Q,E,F,R,h,O,lx⟩:=h;refine⟨I,G,_,E,F,R,h,λx v z H1 Y y L h1=>?_,lx⟩;obtain⟨k,h2,J⟩:=Kv Y y h1;refine⟨k,h2,?_⟩;cases k with
 |true=>rw[if_pos rfl]at J ⊢;exact⟨I,z,Q,E,F.ts (L.ts R),y,J,O.fr L,lx.fr L⟩
 |false=>rw[if_neg Dd]at J ⊢;exact(O.fr L).here Y y J
def u_or  {rest:List Ia}(ha:PE X a (lE X ta))(Z:PE X (.BoolOp .Or (b::rest) pos) (lE X tb)):PE X (.BoolOp .Or (a::b::rest) pos) (lE X λI G Q E=>ta I G (λx z=>truU x z λc=>if c=da then Q x z else tb I z Q E) E):=by
 refine(mQ ha Z).imp λσ H Q0 h=>?_;obtain⟨I,G,Q,E,F,R,h,O,lx⟩:=h;refine⟨I,G,_,E,F,R,h,λx v z H1 Y y L h1=>?_,lx⟩;obtain⟨k,h2,J⟩:=Kv Y y h1;refine⟨k,h2,?_⟩;cases k with
 |true=>rw[if_pos rfl]at J ⊢;exact(O.fr L).here Y y J
 |false=>rw[if_neg Dd]at J ⊢;exact⟨I,z,Q,E,F.ts (L.ts R),y,J,O.fr L,lx.fr L⟩
def nN  (ha:PE X a (lE X ta)):PE X (.UnaryOp .Not a pos) (lE X λL G Q E=>ta L G (λx O=>truU x O λb=>Q (.bl (!b)) O) E):=by
 intro y s Y H Q0 I h;obtain⟨L,G,Q,E,J,hG,h,lv,lx⟩:=h;refine PyProof.Rows.UnaryOp_ (Db (ha y s Y H (λv z=>∃k,TruV X.K v z k/\Q0 (.bl (!k)) z) I ⟨L,G,_,E,J,hG,h,λx v O z rx F f1 h1=>?_,lx⟩) λv s1 ⟨x,z,I1,r1,k,hk,q1⟩=>?_)
 ·obtain⟨k,h2,Z⟩:=Kv rx F h1;exact⟨k,h2,(lv.fr f1).bl F Z⟩
 ·refine PyProof.Rows.not_of (Db (sv y s1 Y z x v (λc R=>c=k/\R=z) I1 r1 ⟨k,hk,rfl,rfl⟩) λc s2 ⟨R,I2,e1,e2⟩=>?_);subst e1 e2;exact⟨.bl (!c),R,I2,rfl,q1⟩
def bQ  {tB: UT}(hc:PT X c (lT X tA)){tC:UT}(ha:PT X a (lT X tB))(hb:PT X b (lT X tC)):PT X (.IfExp c a b pos) (lT X λF G Q E=>tA F G (λt y=>if t=da then tB F y Q E else tC F y Q E) E):=by
 intro z s σ H Q0 I h;obtain⟨F,G,Q,E,O,hG,h,lv,lx⟩:=h;show wpAny _ _ (do if <- ce c X.env (lb c X.env) then ce a X.env (lb a X.env) else ce b X.env (lb b X.env)) _ _ s
 refine db (Db (hc z s σ H (λt Y=>∃y,HR X.K Y y/\Fr H G Y y/\if t=da then tB F y Q E else tC F y Q E) I ⟨F,G,_,E,O,hG,h,λt y Y J L Z=>⟨y,J,L,Z⟩,lx⟩) λt s1 ⟨Y,I1,y,J,L,Z⟩=>?_)
 cases t with
 |true=>exact ha z s1 σ Y Q0 I1 ⟨F,y,Q,E,O.ts (L.ts hG),J,Z,λb G2 H2 R f2 h2=>lv b G2 H2 R (L.trans f2) h2,lx.fr L⟩
 |false=>exact hb z s1 σ Y Q0 I1 ⟨F,y,Q,E,O.ts (L.ts hG),J,Z,λb G2 H2 R f2 h2=>lv b G2 H2 R (L.trans f2) h2,lx.fr L⟩
def cQ  (L:PT X a (lT X J)):PT X (.UnaryOp .Not a pos) (lT X λF G Q E=>J F G (λb y=>Q (!b) y) E):=by
 refine(oE L).imp λσ H Q0 h=>?_;obtain⟨F,G,Q,E,z,Y,h,R,lx⟩:=h;exact⟨F,G,_,E,z,Y,h,λb y Z I f1 O=>R (!b) y Z I f1 O,lx⟩
def UP  {tB: UT}{rest:List Ia}(Z:PT X a (lT X tA))(hb:PW X (.BoolOp .And (b::rest) pos) (lT X tB)):PW X (.BoolOp .And (a::b::rest) pos) (lT X λz G Q E=>tA z G (λc F=>if c=da then tB z F Q E else Q ia F) E):=by
 refine(pw_and Z hb).imp λσ H Q0 h=>?_;obtain⟨z,G,Q,E,y,R,h,lv,lx⟩:=h;refine⟨z,G,_,E,y,R,h,λc F H1 L J O=>?_,lx⟩;cases c with
 |false=>grind
 |true=>rw[if_pos rfl]at O ⊢;exact⟨z,F,Q,E,y.ts (J.ts R),L,O,λb Y H2 I f2 h2=>lv b Y H2 I (J.trans f2) h2,lx.fr J⟩
def oN  {tB: UT}{rest:List Ia}(Z:PT X a (lT X tA))(hb:PW X (.BoolOp .Or (b::rest) pos) (lT X tB)):PW X (.BoolOp .Or (a::b::rest) pos) (lT X λz G Q E=>tA z G (λc F=>if c=da then Q da F else tB z F Q E) E):=by
 refine(pw_or Z hb).imp λσ H Q0 h=>?_;obtain⟨z,G,Q,E,y,R,h,lv,lx⟩:=h;refine⟨z,G,_,E,y,R,h,λc F H1 L J O=>?_,lx⟩;cases c with
 |true=>grind
 |false=>rw[if_neg Dd]at O ⊢;exact⟨z,F,Q,E,y.ts (J.ts R),L,O,λb Y H2 I f2 h2=>lv b Y H2 I (J.trans f2) h2,lx.fr J⟩
def gN  (hc:PT X c (lT X Y))(ha:PE X a (lE X ta))(Z:PE X b (lE X tb)):PE X (.IfExp c a b pos) (lE X λz G Q E=>Y z G (λt I=>if t=da then ta z I Q E else tb z I Q E) E):=by
 refine(wU hc ha Z).imp λσ H Q0 h=>?_;obtain⟨z,G,Q,E,y,O,h,R,lx⟩:=h;refine⟨z,G,_,E,y,O,h,λc I H1 J F L=>?_,lx⟩;cases c with
 |true=>rw[if_pos rfl]at L ⊢;exact⟨z,I,Q,E,y.ts (F.ts O),J,L,R.fr F,lx.fr F⟩
 |false=>rw[if_neg Dd]at L ⊢;exact⟨z,I,Q,E,y.ts (F.ts O),J,L,R.fr F,lx.fr F⟩
end Z

namespace L2
open PySem PySem.Spec PyProof.Rows

def ZN  (K:Hb)(L I:TE):TE:=λJ H Q=>L J H λx O=>I J O λy z=>(∃a F,x=.ref a/\Zc K z a F/\
 ((y=.int 1/\∀p,z p=la->Q (.ref p) (upd z p (.lst F)))\/(y=.int (-1)/\∀p,z p=la->Q (.ref p) (upd z p (.lst F.reverse)))))\/
 ∃a F,x=.ref a/\Pc K z a F/\y=.int (-1)/\∀p,z p=la->Q (.ref p) (upd z p (.tup F.reverse))
def RS  {st: Ia}(he:PE X e te)(hs:PE X st xa):PE X (.Subscript e (.Slice la la (ca st) p2) pos) (ZN X.K te xa):=by
 intro z s R H Q I h;refine lq (Db (he z s R H _ I h) λv s1 ⟨x,H1,I1,r1,q1⟩=>?_);refine wpAny_Slice ?_;rw[XA,evalPart_some];refine Zb (Zb ?_);refine Db (hs z s1 R H1 _ I1 q1) λu F ⟨y,H3,I3,r3,q3⟩=>?_;have J:La X z R H3 { F with heap:=F.heap.push { cls:=.type "slice",data:=.fields #[.none,.none,u] } }:=I3.kept (t':=F.toks) λb ob q=>Uc _ q
 rcases q3 with⟨a,Y,rfl,hx,q3⟩|⟨a,Y,rfl,hx,rfl,q⟩
 ·cases r1;obtain⟨Z,r,L,hz⟩:=J.list hx;have O:=r.length;show wpAny (Fa X.prog X.w) X.A (Yw e (.Slice la la (ca st) p2) (.ref a) (.ref F.heap.objs.size)) (EP X z R Q) X.xe { F with heap:=F.heap.push { cls:=.type "slice",data:=.fields #[.none,.none,u] } }
  refine Ol (ops:=[.ref a,.ref F.heap.objs.size]) L.isList.typeIs Qf.lookup ?_ (by with_unfolding_all rfl)
  rcases q3 with⟨rfl,q⟩|⟨rfl,q⟩
  ·obtain⟨t,rfl⟩:=r3;refine BC L.isList (Wd.new ..) .none .none (.int 1 t) (by decide) ?_ (by simp_all)
   rw[zT];refine⟨.ref _,_,J.laid (t':=F.toks) (o:=.lst Y) (λb ob q=>Uc _ q) (ub _) ?_,rfl,q _ (J.hok.fresh (ub _))⟩;exact⟨hz,_,0,r,Zg _ rfl⟩
  ·obtain⟨t,rfl⟩:=r3;refine BC L.isList (Wd.new ..) .none .none (.int (-1) t) (by decide) ?_ (by simp_all)
   rw[ZT];refine⟨.ref _,_,J.laid (t':=F.toks) (o:=.lst Y.reverse) (λb ob q=>Uc _ q) (ub _) ?_,rfl,q _ (J.hok.fresh (ub _))⟩;exact⟨by simp_all,_,0,r.rev,Zg _ rfl⟩
 ·cases r1;obtain⟨t,rfl⟩:=r3;obtain⟨Z,r,L,hz⟩:=J.tuple hx;have O:=r.length;show wpAny (Fa X.prog X.w) X.A (Yw e (.Slice la la (ca st) p2) (.ref a) (.ref F.heap.objs.size)) (EP X z R Q) X.xe { F with heap:=F.heap.push { cls:=.type "slice",data:=.fields #[.none,.none,.int (-1) t] } }
  refine Ol (ops:=[.ref a,.ref F.heap.objs.size]) L.typeIs ik.lookup ?_ (by with_unfolding_all rfl)
  refine HT.getItem_tuple_rev L (Wd.new ..) ?_ (by lia)
  refine⟨.ref _,_,J.laid (t':=F.toks) (o:=.tup Y.reverse) (λb ob q=>Uc _ q) (ub _) ?_,rfl,q _ (J.hok.fresh (ub _))⟩;exact⟨by simp_all,_,r.rev,TupD.new _ _⟩
end L2
namespace Z
open PySem L2
section
variable {X:Cx}{pos:Pos}{a b e:Ia}{es:List Ia}{ta tb te:UE}{ts:UA}
def Jo  : PA X [] (lA X λ_ G Q _=>Q [] G):=by
 refine Mm.imp λJ H L h=>?_;obtain⟨I,G,Q,E,z,F,h,y,lx⟩:=h;exact y [] [] G H rfl F (Fr.refl _ _) h
def Zo  (ha:PE X e (lE X te))(hr:PA X es (lA X ts))(hs:uc (e::es) X.env=(ia,lb e X.env)::uc es X.env):PA X (e::es) (lA X λz G Q E=>te z G (λx R=>ts z R (λxs I=>Q (x::xs) I) E) E):=by
 refine(Jh ha hr hs).imp λσ H Q0 h=>?_;obtain⟨z,G,Q,E,y,Z,h,lv,lx⟩:=h;refine⟨z,G,_,E,y,Z,h,λx v R H1 rx F L h1=>?_,lx⟩;refine⟨z,R,_,E,y.ts (L.ts Z),F,h1,λxs vs I H2 O J Y h2=>?_,lx.fr L⟩;exact lv (x::xs) (v::vs) I H2 ⟨v,vs,rfl,rx.ts (Y.ts F),O⟩ J (L.trans Y) h2
def sN   (h:PA X es (lA X ts)):PE X (.Tuple es k pos) (lE X λJ G Q E=>ts J G (λus y=>us.length<=Wa/\Q (.tup us) y) E):=
 (My h).imp λO H Y h=>lE.many h λus L G R Q r I q z=>⟨by rw[<- r.length];exact q.1,λp F=>z.tup F r I q.2⟩
def iN  (h:PA X es (lA X ts)):PE X (.List es pos) (lE X λJ G Q E=>ts J G (λus y=>us.length<=Wa/\newO y (.lst us) Q) E):=
 (kE h).imp λO H Y h=>lE.many h λus L G R Q r I q z=>⟨by rw[<- r.length];exact q.1,λp F=>z.lst F r I q.2⟩
def rDix  : R2:=λx y H Q=>∃a v,x=.ref a/\DGet H a y (ca v)/\Q v H
def ER  (hu:X.A.units+1<Pb):Aj X rDix:=by
 intro F J L s σ H x y v u Q I Z Y h R;obtain⟨a,w,rfl,g,q⟩:=h;cases Z;exact PyProof.Rows.tail_any (YV I g) PySem.F.slot_dict_getitem.lookup (JT hu I g Y λw' s3 O z=>⟨w,H,O,z,q⟩) R
def GE {H:Hp}{G:Gp}{y:U}{z:V}{Q:K1}{F:VK}{a:Aa}{xs:List U}{vs:List V}(h:match y with|.int i=>(match atI xs i with|some u=>Q u G|none=>False)|_=>False)
  (R:RU X.K H y z) (J:HR X.K H G) (I:LV X H G Q F) (sq:Zc X.K H a vs) (O:Eb X.K H xs vs):Wx X.K (.ref a) z H F:=by
 cases y with
 |int i=>
  cases R;dsimp only at h;split at h
  ·rename_i u e;obtain⟨w,L,r⟩:=O.atI e;exact .inl ⟨_,vs,_,w,rfl,rfl,sq,L,I.here r J h⟩
  lia
 |_=>lia
def kP        (rx:RU X.K H x v)(I:RU X.K H y v')(z:HR X.K H G)(h:tf x y G Q)(J:LV X H G Q Q0):Wx X.K v v' H Q0\/rDix v v' H Q0:=by
 cases x<;>try exact h.elim
 ·cases y<;>try exact h.elim
  cases rx;cases I;obtain⟨h1,h⟩:=h;split at h
  ·rename_i c Z;exact .inl (.inr (.inr ⟨_,_,c,rfl,rfl,h1,Z,J.str z h⟩))
  lia
 ·cases y<;>try exact h.elim
  obtain⟨a,vs,rfl,e,F⟩:=rx;cases I;unfold tf at h;dsimp only at h;split at h
  ·rename_i u Z;obtain⟨w,L,r⟩:=F.atI Z;exact .inl (.inr (.inl ⟨a,vs,_,w,rfl,rfl,.of e,L,J.here r z h⟩))
  lia
 ·cases rx;unfold tf at h;dsimp only at h;split at h
  ·rename_i g;obtain⟨vs,e,F⟩:=z.lst g;exact .inl (GE h I z J (.of e) F)
  ·rename_i g;obtain⟨ob,vs,e,F⟩:=z _ _ g;exact .inl (GE h I z J (.inl (.inr ⟨ob,e⟩)) F)
  ·rename_i R g;obtain⟨l,e,F⟩:=z _ _ g;split at h
   ·rename_i k Y;have:=Nk I Y;subst this;split at h
    ·rename_i u O;have:=qp k F;rw[O]at this;obtain⟨w,L,r⟩:=this;exact .inr ⟨_,w,rfl,by rw[<- L];exact DGet.k e,J.here r z h⟩
    lia
   lia
  ·rename_i R g;obtain⟨l,e,F⟩:=z _ _ g;split at h
   ·rename_i ys;obtain⟨b,bs,rfl,eb,rb⟩:=I;split at h
    ·rename_i k Y;have:=mv rb Y;subst this;split at h
     ·rename_i u O;have:=qp k F;rw[O]at this;obtain⟨w,L,r⟩:=this;exact .inr ⟨_,w,rfl,by rw[<- L];exact DGet.t e eb,J.here r z h⟩
     lia
    lia
   lia
  ·rename_i o R g;obtain⟨l,e,F⟩:=z _ _ g;split at h
   ·rename_i k Y;have:=Nk I Y;subst this;split at h
    ·rename_i u O;have:=qp k F;rw[O]at this;obtain⟨w,L,r⟩:=this;exact .inr ⟨_,w,rfl,by rw[<- L];exact .inl ⟨l,k,.inr ⟨o,e⟩,rfl,rfl⟩,J.here r z h⟩
    lia
   lia
  lia
def u_ix  (hu:X.A.units+1<Pb)(J:PE X a (lE X ta))(I:PE X b (lE X tb))(hs:cz b):PE X (.Subscript a b pos) (lE X λz G Q E=>ta z G (λx F=>tb z F (λy L=>tf x y L Q) E) E):=
 (pO ((lP (X:=X)).or (ER hu)) J I hs).imp λσ H Q0 h=>lE.two h λx y v v' G H' Q Z Y R q O=>kP Z Y R q O
def u_no  : PO X la (lO X λ_ G Q _=>Q la G):=kS.imp λJ H L h=>by
 obtain⟨I,G,Q,E,z,F,h,y,lx⟩:=h;exact y la G H F (Fr.refl _ _) h
def u_so (J:PE X e (lE X te)):PO X (ca e) (lO X λz G Q E=>te z G (λx F=>match x with|.int i=>Q (ca i) F|_=>False) E):=(mS J).imp λσ H Y h=>by
 obtain⟨z,G,Q,E,y,L,h,Z,lx⟩:=h;refine⟨z,G,_,E,y,L,h,λx v F H1 O R f1 I=>?_,lx⟩;dsimp only at I;split at I
 ·cases O
  grind
 lia
def u_sl     (ha:PE X e (lE X te))(hl:PO X lo (lO X tl))(hh:PO X hi (lO X th)) :
  PE X (.Subscript e (.Slice lo hi la p2) pos) (lE X λO G Q E=>te O G (λx G1=>tl O G1 (λl G2=>th O G2 (λh G3=>Wi x l h G3 Q) E) E) E):=by
 refine(xU (Vh.or (BS (X:=X)) (Vh.or AS KP)) ha hl hh).imp λσ H Q0 h=>?_;obtain⟨O,G,Q,E,L,hG,h,lv,lx⟩:=h;refine⟨O,G,_,E,L,hG,h,λx v G1 H1 rx Y f1 h1=>?_,lx⟩;refine⟨O,G1,_,E,L.ts (f1.ts hG),Y,h1,λl G2 H2 Z f2 h2=>?_,lx.fr f1⟩;refine⟨O,G2,_,E,(L.ts (f1.ts hG)).ts (f2.ts Y),Z,h2,λu G3 H3 y f3 J=>?_,lx.fr (f1.trans f2)⟩;have I:=lv.fr ((f1.trans f2).trans f3);have R:=rx.ts ((f2.ts Y).trans (f3.ts Z));cases x<;>try exact J.elim
 ·cases R;exact .inr (.inr ⟨_,rfl,J.1,I.str y J.2⟩)
 ·obtain⟨a,F,rfl,ea,rs⟩:=R;by_cases z:HT.sIx F.length 0 l=0/\HT.sIx F.length F.length u=F.length
  ·refine .inl (.inr ⟨a,F,rfl,.of ea,z,?_⟩);refine I.here (w:=.tup _) ⟨a,F,rfl,ea,?_⟩ y J;have e2:cutV F l u=F:=by unfold cutV;simp_all
   have:=rs.cut l u
   lia
  ·exact .inl (.inl ⟨a,F,rfl,.of ea,z,λp hp=>I.tup hp (rs.cut l u) y J⟩)
 ·cases R;unfold Wi at J;dsimp only at J;split at J
  ·rename_i us eu;obtain⟨F,sq,rs⟩:=y.ls eu;exact .inr (.inl ⟨_,F,rfl,sq,λp hp=>I.lst hp (rs.cut l u) y J⟩)
  lia
def ED    (ha:PE X a (lE X ta))(hb:PE X st (lE X tb)):PE X (.Subscript a (.Slice la la (ca st) p2) pos) (lE X λY G Q E=>ta Y G (λx G1=>tb Y G1 (λy Z=>revU x y Z Q) E) E):=by
 refine(RS ha hb).imp λσ H Q0 h=>lE.two h λx y v v' G H' Q O R I q L=>?_;cases x<;>try exact q.elim
 all_goals cases y<;>try exact q.elim
 ·obtain⟨a,J,rfl,ea,F⟩:=O;cases R;obtain⟨rfl,q⟩:=q;exact .inr ⟨a,J,rfl,.of ea,rfl,λp z=>L.tup z F.reverse I q⟩
 ·cases O;cases R;unfold revU at q;dsimp only at q;split at q
  ·rename_i us eu;obtain⟨J,sq,F⟩:=I.ls eu;obtain⟨hi,q⟩:=q;rcases hi with rfl|rfl
   ·exact .inl ⟨_,J,rfl,sq,.inl ⟨rfl,λp z=>L.lst z F I q⟩⟩
   ·exact .inl ⟨_,J,rfl,sq,.inr ⟨rfl,λp z=>L.lst z F.reverse I q⟩⟩
  lia
end
end Z

namespace L2
open PySem PySem.Spec PyProof.Rows
section
variable {X:Cx}
def CT  (F:X.calm=da):rf X (.builtin "all") (λxs H Q=>∃(p:Aa) (bs:List Bool),xs=[.ref p]/\Zc X.K H p (bs.map V.bl)/\Q (.bl (bs.all id)) H):=by
 rintro y s σ H xs us Q I r ⟨p,bs,rfl,hq,q⟩;obtain⟨u,rfl,Z⟩:=gj r;cases Z;obtain⟨z,Y,L,P,S,J,W,O,tr,R⟩:=QV F I hq da;exact call_all_walk (wpAny_pyIter_list J ⟨_,Y,L,_,P,S,_,rfl,W,O,tr,λh' tk hk=>⟨.bl _,H,I.kept (R h' hk),congrArg Gw (LSm.range_all bs),q⟩⟩)
end
end L2
namespace Z
open PySem L2
noncomputable def bltN  : Blt->Str
 |.len => "len" |.repr => "repr" |.min => "min" |.max => "max" |.sum => "sum" |.all => "all" |.any => "any" |.sorted => "sorted" |.int => "int" |.str => "str" |.isi => "isinstance"
noncomputable def bltV  : Blt->Ba
 |.len=>.builtin "len" |.repr=>.builtin "repr" |.min=>.builtin "min" |.max=>.builtin "max" |.sum=>.builtin "sum" |.all=>.builtin "all" |.any=>.builtin "any" |.sorted=>.builtin "sorted" |.int=>.type "int" |.str=>.type "str" |.isi=>.builtin "isinstance"

def Eb.one      (r:Eb K H [u] vs):∃v,vs=[v]/\RU K H u v:=by
 obtain⟨v,F,rfl,r1,z⟩:=r;cases z
 lia
def Eb.two      (r:Eb K H [u,w] vs):∃v z,vs=[v,z]/\RU K H u v/\RU K H w z:=by
 obtain⟨v,I,rfl,r1,F⟩:=r;obtain⟨z,rfl,r2⟩:=F.one
 lia
def LQ   K:∀t∈["NoneType", "bool", "int", "str", "list", "tuple", "dict"],∀c∈["bool", "int", "str", "list", "tuple", "dict"],Qw K (.type t) (.type c)=ca (t==c||(t == "bool" && c == "int")):=by
 simp only[List.forall_mem_cons,Je,false_implies,implies_true,and_true];refine⟨?_,?_,?_,?_,?_,?_,?_⟩<;>refine⟨?_,?_,?_,?_,?_,?_⟩<;>rfl
def VR     (h:Rl x G=ca n):n∈["NoneType", "bool", "int", "str", "list", "tuple", "dict"]:=by
 unfold Rl at h;split at h<;>first|(cases h;decide)|(split at h<;>first|(cases h;decide)|cases h)|cases h
def BR  {X: Cx}(r:RU X.K H x v)(y:HR X.K H G)(h:isiU x G t=ca b):∃F,TyOf X.K H v F/\Qw X.K F (.type t)=ca b:=by
 unfold isiU at h;split at h
 ·rename_i n en;split at h
  ·rename_i I;cases h;refine⟨.type n,?_,LQ X.K n (VR en) t I⟩;unfold Rl at en;split at en
   ·cases en;cases r;exact .non
   ·cases en;cases r;exact .bl _
   ·cases en;cases r;exact .int _
   ·cases en;cases r;exact .str _
   ·cases en;obtain⟨a,z,rfl,e,_⟩:=r;exact .tup e
   ·cases r;split at en
    ·rename_i g;cases en;obtain⟨z,e,_⟩:=y.lst g;exact .lst e
    ·rename_i g;cases en;obtain⟨z,e,_⟩:=y _ _ g;exact .dK e
    ·rename_i g;cases en;obtain⟨z,e,_⟩:=y _ _ g;exact .dT e
    lia
   lia
  lia
 lia
def WL  (X:Cx)(b:Blt):Prop:=∃r,rf X (bltV b) r/\∀y F G H Q z,Eb X.K H y F->HR X.K H G->bltU b y G Q->LV X H G Q z->r F H z
def DN   (hr:Room k X.A)(hc:X.calm=da) b:WL X b:=by
 cases b with
 |len=>
  refine⟨_,rf.or (DT (X:=X)) sU,λF Y G H Q R r z h I=>?_⟩
  change lenU F G Q at h
  obtain _|⟨x,t⟩:=F<;>try exact h.elim
  cases x<;>try exact h.elim
  all_goals obtain _|⟨_,_⟩:=t<;>try exact h.elim
  all_goals obtain⟨v,rfl,r1⟩:=r.one
  ·cases r1;exact .inl ⟨_,_,rfl,⟨h.1,rfl⟩,I.int z h.2⟩
  ·obtain⟨a,O,rfl,e,J⟩:=r1;exact .inl ⟨_,_,rfl,.inr ⟨O,.of e,rfl⟩,by rw[<- J.length];exact I.int z h⟩
  ·cases r1;unfold lenU at h;dsimp only at h;split at h
   ·rename_i g;obtain⟨O,e,J⟩:=z.lst g;exact .inl ⟨_,_,rfl,.inl ⟨O,.of e,rfl⟩,by rw[<- J.length];exact I.int z h⟩
   ·rename_i g;obtain⟨ob,O,e,J⟩:=z _ _ g;exact .inl ⟨_,_,rfl,.inl ⟨O,.inl (.inr ⟨ob,e⟩),rfl⟩,by rw[<- J.length];exact I.int z h⟩
   ·rename_i L g;obtain⟨l,e,J⟩:=z _ _ g;refine .inr ⟨_,l,rfl,e,?_⟩;have:∀{L:List (Vb×U)} {l:List (Vb×V)},Zd X.K H L l->L.length=l.length:=by
     intro L
     induction L with
     |nil=>intro l r;cases r;rfl
     |cons p q ih=>intro l r;obtain⟨v,l',rfl,_,J⟩:=r;simp[ih J]
    rw[<- this J];exact I.int z h
   ·exact h.elim
 |repr=>
  refine⟨_,RV hr,λF Y G H Q R r z h I=>?_⟩
  change Ho F G Q at h
  obtain _|⟨x,_|⟨_,_⟩⟩:=F<;>try exact h.elim
  obtain⟨v,rfl,r1⟩:=r.one;obtain⟨d,Z,h2,h3⟩:=h;exact⟨v,d,rfl,Z.dv z r1,h2,I.str z h3⟩
 |min=>
  refine⟨_,tU hc,λF Y G H Q R r z h I=>?_⟩
  change minU F G Q at h
  obtain _|⟨x,t⟩:=F<;>try exact h.elim
  cases x<;>try exact h.elim
  obtain _|⟨y,t⟩:=t<;>try exact h.elim
  cases y<;>try exact h.elim
  obtain _|⟨_,_⟩:=t<;>try exact h.elim
  obtain⟨v,v',rfl,r1,r2⟩:=r.two;cases r1;cases r2;exact⟨_,_,rfl,I.int z h⟩
 |max=>exact⟨λ_ _ _=>False,λ_ _ _ _ _ _ _ _ _ h=>h.elim,λ_ _ _ _ _ _ _ _ h _=>h.elim⟩
 |sum=>
  refine⟨_,ET hc,λF Y G H Q R r z h I=>?_⟩
  change sumU F G Q at h
  obtain _|⟨x,t⟩:=F<;>try exact h.elim
  cases x<;>try exact h.elim
  all_goals obtain _|⟨_,_⟩:=t<;>try exact h.elim
  obtain⟨v,rfl,r1⟩:=r.one;cases r1;unfold sumU at h;dsimp only at h;split at h
  ·rename_i g;obtain⟨O,e,J⟩:=z.lst g;split at h
   ·rename_i ns en;have:=J.ints en;subst this;exact⟨_,ns,rfl,.of e,I.int z h⟩
   ·exact h.elim
  ·exact h.elim
 |any=>exact⟨λ_ _ _=>False,λ_ _ _ _ _ _ _ _ _ h=>h.elim,λ_ _ _ _ _ _ _ _ h _=>h.elim⟩
 |all=>
  refine⟨_,CT hc,λF Y G H Q R r z h I=>?_⟩
  change allU F G Q at h
  obtain _|⟨x,t⟩:=F<;>try exact h.elim
  cases x<;>try exact h.elim
  all_goals obtain _|⟨_,_⟩:=t<;>try exact h.elim
  obtain⟨v,rfl,r1⟩:=r.one;cases r1;unfold allU at h;dsimp only at h;split at h
  ·rename_i g;obtain⟨O,e,J⟩:=z.lst g;split at h
   ·rename_i ns en;have:=J.bools en;subst this;exact⟨_,ns,rfl,.of e,I.bl z h⟩
   ·exact h.elim
  ·exact h.elim
 |sorted=>exact⟨λ_ _ _=>False,λ_ _ _ _ _ _ _ _ _ h=>h.elim,λ_ _ _ _ _ _ _ _ h _=>h.elim⟩
 |int=>
  refine⟨_,mU.or qW,λF Y G H Q R r z h I=>?_⟩
  change intU F G Q at h
  obtain _|⟨x,t⟩:=F<;>try exact h.elim
  cases x<;>try exact h.elim
  all_goals obtain _|⟨_,_⟩:=t<;>try exact h.elim
  all_goals obtain⟨v,rfl,r1⟩:=r.one
  all_goals cases r1
  ·exact .inl (.inr ⟨_,rfl,I.int z h⟩)
  ·exact .inl (.inl ⟨_,rfl,I.int z h⟩)
  ·obtain⟨n,Z,h2,h⟩:=h;exact .inr ⟨_,n,rfl,Z,h2,I.int z h⟩
 |str=>exact⟨λ_ _ _=>False,λ_ _ _ _ _ _ _ _ _ h=>h.elim,λ_ _ _ _ _ _ _ _ h _=>h.elim⟩
 |isi=>
  refine⟨_,WV,λF Y G H Q R r z h I=>?_⟩
  change Lo F G Q at h
  obtain _|⟨x,_|⟨y,t⟩⟩:=F<;>try exact h.elim
  cases y<;>try exact h.elim
  obtain _|⟨_,_⟩:=t<;>try exact h.elim
  rename_i t;obtain⟨v,v',rfl,r1,r2⟩:=r.two;cases r2;unfold Lo at h;dsimp only at h;split at h
  ·rename_i b eb;obtain⟨tv,Z,h2⟩:=BR r1 z eb;exact⟨v,t,tv,b,rfl,Z,h2,I.bl z h⟩
  ·exact h.elim
def AT   b:rj (bltN b)=ca (bltV b):=by
 cases b with
 |len=>exact PySem.boot_len
 |repr=>exact(by with_unfolding_all rfl)
 |min=>exact PyProof.Rows.boot_min
 |max=>exact PyProof.Rows.boot_max
 |sum=>exact PyProof.Rows.boot_sum
 |any=>exact PyProof.Rows.boot_any
 |all=>exact PyProof.Rows.boot_all
 |sorted=>exact PyProof.Rows.boot_sorted
 |int=>exact PyProof.Rows.boot_int
 |str=>exact PyProof.Rows.boot_str
 |isi=>exact ML
def CN   b:bltN b ≠ "__name__" /\ (bltN b==("__debug__" : Str))=ia:=by cases b<;>decide
def jO       (hb:WL X b)(hg:Gl X (bltN b))(Z:X.mg (bltN b)=la)(Y:PA X (e::es) (lA X ts))
  (he:uc (e::es) X.env=(ia,lb e X.env)::uc es X.env) (z:(Tb pos (uc es X.env)).any (·.1)=ia) :
  PE X (.Call (.Name (bltN b) p) (e::es) [] pos) (lE X λI G Q E=>ts I G (λus J=>bltU b us J Q) E):=by
 obtain⟨r,R,h2⟩:=hb;have y:∀L H F,lE X (λI G Q E=>ts I G (λus J=>bltU b us J Q) E) L H F->Ux r (lA X ts) L H F:=λL H F h=>lE.many h λus vs G H' Q rs hG q lv=>h2 us vs G H' Q F rs hG q lv;have hv:=AT b;obtain⟨O,n2⟩:=CN b;cases b
 all_goals first
  |exact(Pv R hg Z hv Y O n2 he z).imp y
  |exact(Pz R hg Z hv Y O n2 he z).imp y
noncomputable def mthN  : Mth->Str
 |.append => "append" |.extend => "extend" |.insert => "insert" |.pop => "pop" |.reverse => "reverse" |.index => "index" |.join => "join" |.get => "get" |.split => "split" |.setd => "setdefault" |.clear => "clear" |.count => "count" |.upper => "upper" |.update => "update"
section
variable {X:Cx}
def Eb.mk        (r:RU K H u v)(z:Eb K H us vs):Eb K H (u::us) (v::vs):=⟨v,vs,rfl,r,z⟩
structure XW (X:Cx)(m:Mth)(T id:String):Prop where
 pa:PlainAttrs T
 sl:Slot T (mthN m) id
 ty:typeOf (.builtin id)=pure (.type "method_descriptor")
def Kl  (X:Cx)(m:Mth):Prop:=∀x F T y,Oe m x F=ca (T,y)->XW X m T y/\(∀v z,RU X.K z x v->HR X.K z F->Sx X.K T v z)/\
 ∃r,Ll X y r/\∀I v J G H Q L,RU X.K H x v->Eb X.K H I J->HR X.K H G->Yd m x I G Q->LV X H G Q L->r v J H L
def Ky     (g:G a=ca (.lst us)):∀v y,RU X.K y (.loc a) v->HR X.K y G->Sx X.K "list" v y:=λv y r z=>by
 cases r;obtain⟨F,e,_⟩:=z.lst g;exact .inl ⟨rfl,F,.of e⟩
def jV  : Kl X .append:=by
 intro x Z T Y h;dsimp only[Oe]at h;cases x<;>try (cases h;done)
 dsimp only at h;split at h
 ·rename_i g;cases h;refine⟨⟨yC,PySem.F.slot_list_append,PySem.F.type_list_append⟩,Ky g,_,yG,λus v vs G H Q Q0 R L F h I=>?_⟩;cases R;dsimp only[Yd]at h;obtain _|⟨_,_|⟨_,_⟩⟩:=us<;>try exact h.elim
  unfold dz at h;dsimp only at h;split at h
  ·rename_i z;obtain⟨J,e,r⟩:=F.lst z;obtain⟨y,rfl,O⟩:=L.one;refine⟨_,J,y,rfl,rfl,e,by rw[<- r.length];exact h.1,?_⟩
   exact I.wl z (r.append (Eb.mk (us:=[]) (vs:=[]) O rfl)) F (w:=.non) rfl h.2
  ·exact h.elim
 ·cases h
def lV  : Kl X .extend:=by
 intro x G1 T id h;dsimp only[Oe]at h;cases x<;>try (cases h;done)
 dsimp only at h;split at h
 ·rename_i g;cases h;refine⟨⟨yC,PySem.F.slot_list_extend,PySem.F.type_list_extend⟩,Ky g,_,iV,λO v vs G H Q Q0 rx Z z h L=>?_⟩;cases rx;dsimp only[Yd]at h;obtain _|⟨y0,t⟩:=O<;>try exact h.elim
  cases y0<;>try exact h.elim
  obtain _|⟨_,_⟩:=t<;>try exact h.elim
  unfold Ev at h;dsimp only at h;split at h
  ·rename_i F g3;obtain⟨Y,e,r⟩:=z.lst F;obtain⟨R,J,I⟩:=z.lst g3;obtain⟨y,rfl,ry⟩:=Z.one;cases ry;refine⟨_,_,Y,R,rfl,rfl,e,J,by rw[<- r.length,<- I.length];exact h.1,?_⟩
   exact L.wl F (r.append I) z (w:=.non) rfl h.2
  ·exact h.elim
 ·cases h
def EO  : Kl X .pop:=by
 intro x G1 T id h;dsimp only[Oe]at h;cases x<;>try (cases h;done)
 dsimp only at h;split at h
 ·rename_i g;cases h;refine⟨⟨yC,PySem.F.slot_list_pop,PySem.F.type_list_pop⟩,Ky g,_,Ll.or (mt_pop (X:=X)) kT,λus v vs G H Q Q0 rx Y J h R=>?_⟩;cases rx;dsimp only[Yd]at h;obtain _|⟨y0,t⟩:=us
  ·unfold popU at h;dsimp only at h;split at h
   ·rename_i z;obtain⟨O,e,r⟩:=J.lst z;cases Y;split at h
    ·rename_i u L;obtain⟨y,I,F⟩:=r.get L;rw[r.length]at I;exact .inl ⟨_,O,y,rfl,rfl,e,I,R.wl z r.dropLast J F h⟩
    ·exact h.elim
   ·exact h.elim
  ·cases y0<;>try exact h.elim
   obtain _|⟨_,_⟩:=t<;>try exact h.elim
   unfold popU at h;dsimp only at h;split at h
   ·rename_i z;obtain⟨O,e,r⟩:=J.lst z;obtain⟨y,rfl,F⟩:=Y.one;cases F;obtain⟨h1,Z,h⟩:=h;split at h
    ·rename_i k ek;split at h
     ·rename_i u L;obtain⟨y,I,F⟩:=r.get L;exact .inr ⟨_,O,_,k,y,rfl,rfl,e,h1,Z,by rw[<- r.length];exact ek,I,R.wl z (r.erase k) J F h⟩
     ·exact h.elim
    ·exact h.elim
   ·exact h.elim
 ·cases h
def Zd.put   [DecidableEq κ](r:RU K H u v):∀{kvs } {l:List (κ×V)},Zd K H kvs l->Zd K H (dPut kvs k u) (putK l k v):=by
 intro kvs l h;have any:∀{kvs:List (κ×U)} {l:List (κ×V)},Zd K H kvs l->(kvs.any λz=>decide (z.1=k))=l.any λz=>decide (z.1=k):=by
  intro kvs
  induction kvs with
  |nil=>intro l h;cases h;rfl
  |cons p q I=>intro l h;obtain⟨w,R,rfl,_,J⟩:=h;grind
 have repl:∀{kvs:List (κ×U)} {l:List (κ×V)},Zd K H kvs l->Zd K H (kvs.map λz=>if z.1=k then (z.1,u) else z) (l.map λz=>if z.1=k then (z.1,v) else z):=by
  intro kvs
  induction kvs with
  |nil=>intro l h;cases h;rfl
  |cons p q I=>
   intro l h;obtain⟨L,Y⟩:=p;obtain⟨w,R,rfl,F,J⟩:=h;simp only[af];by_cases e:L=k
   ·rw[if_pos e,if_pos e];exact⟨v,_,rfl,r,I J⟩
   ·rw[if_neg e,if_neg e];exact⟨w,_,rfl,F,I J⟩
 have O:∀{kvs:List (κ×U)} {l:List (κ×V)},Zd K H kvs l->Zd K H (kvs++[(k,u)]) (l++[(k,v)]):=by
  intro kvs
  induction kvs with
  |nil=>intro l h;cases h;exact⟨v,[],rfl,r,rfl⟩
  |cons p q I=>intro l h;obtain⟨L,Y⟩:=p;obtain⟨w,R,rfl,F,J⟩:=h;exact⟨w,_,rfl,F,I J⟩
 unfold dPut putK
 grind
theorem Zd.length     : ∀{kvs:List (κ×U)} {l },Zd K H kvs l->kvs.length=l.length
 |[],_,h=>by cases h;rfl
 |(_,_)::_,_,h=>by obtain⟨v,F,rfl,_,z⟩:=h;simp[z.length]
theorem Vy    : ∀{k:List Vb} {bs },Eb K H (k.map Ku) bs->bs=k.map kV
 |[],_,h=>h
 |.inl z::k,_,h=>by
  obtain⟨v,F,rfl,r,y⟩:=h;rw[show v=.int z from r,Vy y];rfl
 |.inr x::k,_,h=>by
  obtain⟨v,F,rfl,r,y⟩:=h;rw[show v=.str x from r,Vy y];rfl
def rGet  : V->List V->Hp->VK->Prop:=λx z H Q=>∃a y d o,x=.ref a/\z=[y,d]/\DGet H a y o/\Q (o.getD d) H
def fE  (hu:X.A.units+1<Pb):Ll X "dict.get" rGet:=by
 intro z s σ H x vs R us Q I Y J h;obtain⟨a,y,d,o,rfl,rfl,g,q⟩:=h;cases(show R=Ae a from Y);obtain⟨u,r,rfl,F,rr⟩:=Vals.two J;exact CP hu I g F rr λw' Z O L=>⟨_,_,O,L,q⟩
def iF   [DecidableEq κ](k:κ)(z:Zd K H kvs l)(rd:RU K H d w):RU K H ((dGet kvs k).getD d) ((valV l k).getD w):=by
 have y:=qp k z;cases e:dGet kvs k with
 |none=>rw[e]at y;rw[show valV l k=la from y];exact rd
 |some u=>rw[e]at y;obtain⟨v,I,F⟩:=y;rw[I];exact F
def DO  (hu:X.A.units+1<Pb):Kl X .get:=by
 intro x G1 T id h;dsimp only[Oe]at h;split at h<;>first|contradiction|skip
 have R:∀(F:List U) (v:V) (J:List V) (G:Gp) (H:Hp) (Q:K1) (I:VK) (a:Aa),RU X.K H (.loc a) v->Eb X.K H F J->HR X.K H G->getU (.loc a) F G Q->LV X H G Q I->rGet v J H I:=λF v J G H Q I a Y O z h L=>by
  cases Y;obtain _|⟨y,_|⟨w,_|⟨_,_⟩⟩⟩:=F<;>try exact h.elim
  unfold getU at h;dsimp only at h;obtain⟨y',ja,rfl,ry,za⟩:=O;obtain⟨w',rfl,Z⟩:=za.one;split at h<;>first|exact h.elim|skip
  ·rename_i xa g2;split at h<;>first|exact h.elim|skip
   rename_i k ek;obtain⟨l,e,rk⟩:=z _ _ g2;have:=Nk ry ek;subst this;exact⟨_,_,_,_,rfl,rfl,.k e,L.here (iF k rk Z) z h⟩
  ·rename_i xa g2;obtain⟨k,rfl,h⟩:=h;obtain⟨l,e,rk⟩:=z _ _ g2;obtain⟨b,bs,rfl,eb,rb⟩:=ry;rw[Vy rb]at eb;exact⟨_,_,_,_,rfl,rfl,.t e eb,L.here (iF k rk Z) z h⟩
 split at h<;>first|contradiction|skip
 ·rename_i g;cases h;refine⟨⟨xC,jx,AL⟩,λv H1 r z=>?_,_,fE hu,λF v J G H Q I Y O z h L=>R F v J G H Q I _ Y O z h L⟩;cases r;obtain⟨l,e,_⟩:=z _ _ g;exact .inr (.inr (.inl ⟨rfl,.inl ⟨l,e⟩⟩))
 ·rename_i g;cases h;refine⟨⟨xC,jx,AL⟩,λv H1 r z=>?_,_,fE hu,λF v J G H Q I Y O z h L=>R F v J G H Q I _ Y O z h L⟩;cases r;obtain⟨l,e,_⟩:=z _ _ g;exact .inr (.inr (.inl ⟨rfl,.inr ⟨l,e⟩⟩))
theorem Zd.merge    : ∀{z } {m },Zd K H z m->∀{kvs } {l },Zd K H kvs l->Zd K H (z.foldl (λacc F=>dPut acc F.1 F.2) kvs) (Oj l m)
 |[],_,h,_,_,h'=>by cases h;exact h'
 |(k,u)::z,_,h,_,_,h'=>by
  obtain⟨v,J,rfl,r,I⟩:=h;exact Zd.merge I (h'.put r)
def lD  (X:Cx)(t:Sg->Gp->(List (Vb×U)->Gp->Prop)->KX->Prop)(y:List (TE×TE)):Prop:=
 ∀σ H ς G Q E (Q0:List (V×V)->Hp->Prop),SR X.K H ς σ->HR X.K H G->t ς G Q E->LX X σ H G E->
  (∀kvs (l:List (Vb×V)) G' H',Zd X.K H' kvs l->HR X.K H' G'->Fr H G H' G'->Q kvs G'->Q0 (l.map λz=>(kV z.1,z.2)) H')->qv y σ H Q0
def KU  : Kl X .update:=by
 intro x G1 T id h;dsimp only[Oe]at h;split at h<;>first|contradiction|skip
 split at h
 ·rename_i g;cases h;refine⟨⟨xC,nL,PySem.F.type_dict_update⟩,λv H1 r y=>?_,_,CO,λus v vs G H Q Q0 rx rs y h lv=>?_⟩
  ·cases r;obtain⟨l,e,_⟩:=y _ _ g;exact .inr (.inr (.inl ⟨rfl,.inl ⟨l,e⟩⟩))
  ·cases rx;dsimp only[Yd]at h;unfold updU at h;split at h<;>first|exact h.elim|skip
   rename_i b e2;cases e2;split at h<;>first|exact h.elim|skip
   rename_i L z I g3;obtain⟨ne,hl,h⟩:=h;obtain⟨l,e,R⟩:=y _ _ I;obtain⟨m,Z,F⟩:=y _ _ g3;obtain⟨w',rfl,O⟩:=rs.one;cases O;refine⟨_,_,l,m,rfl,rfl,ne,e,Z,by rw[<- R.length,<- F.length];exact hl,?_⟩
   exact lv .non .non _ _ rfl (y.write (mo':=.dK (z.foldl (λJ Y=>dPut J Y.1 Y.2) L)) I ⟨_,Xe,(F.merge R).ts (TS.write y I)⟩) (Fr.write I) h.at
 ·cases h
def Oy  (hu:X.A.units+1<Pb) m:Kl X m:=by
 cases m with
 |append=>exact jV
 |extend=>exact lV
 |insert=>intro x z T y h;cases h
 |pop=>exact EO
 |reverse=>intro x z T y h;cases h
 |index=>intro x z T y h;cases h
 |join=>intro x z T y h;cases h
 |split=>intro x z T y h;cases h
 |setd=>intro x z T y h;cases h
 |clear=>intro x z T y h;cases h
 |update=>exact KU
 |count=>intro x z T y h;cases h
 |upper=>intro x z T y h;cases h
 |get=>exact DO hu
variable {m:Mth}{o e:Ia}{es:List Ia}{to:UE}{ts:UA}{apos cpos:Pos}
def yE (hm:Kl X m)(ho:PE X o (lE X to))(ha:PA X (e::es) (lA X ts))(R:jn o (mthN m) X.env (lb o X.env)=lb o X.env)
  (za:((Tb cpos (uc (e::es) X.env)).all (λx=>!x.1)&&(backToKw cpos (keywordEach [] X.env)).all (λx=>x.1.isSome)
   && decide ((e::es).length+([]:List Ot).length+(if ([]:List Ot).isEmpty then 0 else 1)<30))=da)
  (Y:(apos.endLine==cpos.line)=da) (hs:uc (e::es) X.env=(ia,lb e X.env)::uc es X.env) (ja:(Tb cpos (uc es X.env)).any (·.1)=ia) :
  PE X (.Call (.Attribute o (mthN m) apos) (e::es) [] cpos) (lE X λς G Q E=>to ς G (λx y=>match Oe m x y with|some _=>ts ς y (λus z=>Yd m x us z Q) E|none=>False) E):=by
 intro F s σ H Q0 I h;obtain⟨ς,G,Q,E,xa,hG,h,lv,lx⟩:=h;refine PySem.wpAny_Call_method_late R za Y rfl (Db (ho F s σ H (λv L=>∃x y T id,RU X.K L x v/\HR X.K L y/\Fr H G L y/\Oe m x y=ca (T,id)/\ts ς y (λus z=>Yd m x us z Q) E) I
  ⟨ς,G,_,E,xa,hG,h,λx v y L rx J f1 h1=>?_,lx⟩) λv s1 ⟨xv,L,I1,r1,x,y,T,id,rx,J,f1,em,h1⟩=>?_)
 ·dsimp only at h1;split at h1
  ·rename_i p ep;exact⟨x,y,p.1,p.2,rx,J,f1,ep,h1⟩
  ·exact h1.elim
 ·obtain⟨k,va,r,ya,ka⟩:=hm x y T id em;obtain⟨t1,t2⟩:=xE I1 r1 (va xv L rx J);refine⟨T,id,k.pa,k.sl,k.ty,t1,t2,?_⟩;have hA:=ha cpos F s1 σ L (λvs Z=>∃us z,Eb X.K Z us vs/\HR X.K Z z/\Fr L y Z z/\Yd m x us z Q) I1 ⟨ς,y,_,E,xa.ts (f1.ts hG),J,h1,λus vs z Z rs O f2 h2=>⟨us,z,rs,O,f2,h2⟩,lx.fr f1⟩;rw[hs]at hA ⊢;refine vL (by simp_all) (Calls.evalArgs_plain ?_)
  exact Db hA λus s2 ⟨vs,Z,I2,r2,ws,z,rs,O,f2,h2⟩=>ya F s2 σ Z xv vs v us Q0 I2 r1 r2 (ka ws xv vs z Z Q Q0 (rx.ts (f2.ts J)) rs O h2 (lv.fr (f1.trans f2)))
def YR (hm:Kl X m)(ho:PE X o (lE X to))(L:jn o (mthN m) X.env (lb o X.env)=lb o X.env)(O:(apos.endLine==cpos.line)=da) :
  PE X (.Call (.Attribute o (mthN m) apos) [] [] cpos) (lE X λς G Q E=>to ς G (λx y=>match Oe m x y with|some _=>Yd m x [] y Q|none=>False) E):=by
 intro F s σ H Q0 I h;obtain⟨ς,G,Q,E,xa,hG,h,lv,lx⟩:=h;refine PySem.wpAny_Call_method0_late L O (Db (ho F s σ H (λv J=>∃x y T Z,RU X.K J x v/\HR X.K J y/\Fr H G J y/\Oe m x y=ca (T,Z)/\Yd m x [] y Q) I
  ⟨ς,G,_,E,xa,hG,h,λx v y J Y z f1 R=>?_,lx⟩) λv s1 ⟨xv,J,I1,r1,x,y,T,Z,Y,z,f1,em,R⟩=>?_)
 ·dsimp only at R;split at R
  ·rename_i p ep;exact⟨x,y,p.1,p.2,Y,z,f1,ep,R⟩
  ·exact R.elim
 ·obtain⟨k,za,r,ja,va⟩:=hm x y T Z em;obtain⟨t1,t2⟩:=xE I1 r1 (za xv J Y z);exact⟨T,Z,k.pa,k.sl,k.ty,t1,t2,vL rfl (PySem.evalArgs_none (ja F s1 σ J xv [] v [] Q0 I1 r1 .nil (va [] xv [] y J Q Q0 Y rfl z R (lv.fr f1))))⟩
end
end Z

namespace L2
open PySem PySem.Spec PyProof.Rows

def iSeq  (K:Hb)(F:TE):TI:=λI H R=>F I H λx y=>∃a,x=.ref a/\(((∃z,Zc K y a z)/\R (UL K a) y)\/((∃z,Pc K y a z)/\R (TL K a) y))
def pQ    (hl:PE X l tl):PI X tg l (iSeq X.K tl):=by
 intro F s σ H R I h;refine Db (hl F s σ H _ I h) λv s1 ⟨x,L,y,r1,q1⟩=>?_;obtain⟨a,e,⟨⟨Y,J⟩,q⟩|⟨⟨Y,J⟩,q⟩⟩:=q1
 ·subst e;cases r1;obtain⟨z,Z,p,hz⟩:=y.list J;refine wpAny_pyIter_list p.isList ?_;refine⟨s1.heap.objs.size,[s1.heap.objs.size],_,_,L,rfl,y.kept (t':=s1.toks) λb o e=>Uc _ e,JU a _,⟨_,Zg _ rfl,rfl,rfl⟩,λb O=>?_,q⟩;have e:b=s1.heap.objs.size:=by simp_all
  subst e;exact y.fpOk (ub _) (y.hok.fresh (ub _))
 ·subst e;cases r1;obtain⟨z,Z,p,hz⟩:=y.tuple J;refine wpAny_pyIter_tuple (show s1.heap.IsTuple a z.toArray from p) ?_;refine⟨s1.heap.objs.size,[s1.heap.objs.size],_,_,L,rfl,y.kept (t':=s1.toks) λb o e=>Uc _ e,qV a _,⟨_,Zg _ rfl,rfl,rfl⟩,λb O=>?_,q⟩;have e:b=s1.heap.objs.size:=by simp_all
  subst e;exact y.fpOk (ub _) (y.hok.fresh (ub _))
def PI.imp    (h:PI X tg iter t)(i:∀z H R,t' z H R->t z H R):PI X tg iter t':=λF s z H R I q=>h F s z H R I (i z H R q)
def PG.imp    (h:PG X z t)(i:∀v F H Q,t' v F H Q->t v F H Q):PG X z t':=λJ s F H v u Q I r q=>h J s F H v u Q I r (i v F H Q q)
def Ci.imp    (h:Ci X ts t)(i:∀v z H Q,t' v z H Q->t v z H Q):Ci X ts t':=λF s z H v u Q I r q=>h F s z H v u Q I r (i v z H Q q)
def PIfs.imp    (h:PIfs X ifs t)(i:∀z H Q,t' z H Q->t z H Q):PIfs X ifs t':=λF s z H Q I q=>h F s z H Q I (i z H Q q)
end L2
namespace Z
open PySem L2
abbrev UI:=Sg->Gp->(List U->(Gp->Prop)->Gp->Prop)->KX->Prop
def Qo  (K:Hb)(J:L2.It)(H:Hp)(G:Gp)(xs:List U)(ok:Gp->Prop):Prop:=∀i z F,TS H z->HR K z F->ok F->
 (∀u,xs[i]?=ca u->J.go i z/\∀v y,J.yld i z v y->RU K y u v/\HR K y F/\Fr z F y F)/\(i=xs.length->J.stop i z)
def Qo.mono        (h:Qo K J H G xs ok)(t:TS H H2):Qo K J H2 G2 xs ok:=λi I F z=>h i I F (t.trans z)
section
variable (X:Cx)
def lI (t:UI):TI:=λL H R=>∃I G Q E,SR X.K H I L/\HR X.K H G/\t I G Q E/\(∀F ok y z J,HR X.K z y->Fr H G z y->Qo X.K J z y F ok->Q F ok y->R J z)/\LX X L H G E
def lG  (K:Hb)(t:U->Sg->(Sg->Prop)->Prop):TG:=λv I H J=>∃u F k,RU K H u v/\SR K H F I/\t u F k/\∀z y,SR K H z y->k z->J y H
def Dr  (K:Hb)(t:List U->Sg->(Sg->Prop)->Prop):Hl:=λJ L H O=>∃F I k,Eb K H F J/\SR K H I L/\t F I k/\∀z y,SR K H z y->k z->O y H
end
section
variable {X:Cx}{tg:Ia}{pos:Pos}{te ta tb:UE}
def u_ie   (hl:PE X l (lE X te)):PI X tg l (lI X λς G Q E=>te ς G (λx G1=>rg x G1 λxs ok=>Q xs ok G1) E):=by
 refine(pQ hl).imp λσ H R h=>?_;obtain⟨ς,G,Q,E,xa,hG,h,lv,lx⟩:=h;refine⟨ς,G,_,E,xa,hG,h,λx v G1 H1 rx L f1 O=>?_,lx⟩;dsimp only at O;unfold rg at O;split at O
 ·obtain⟨a,F,rfl,ea,rs⟩:=rx;refine⟨a,rfl,.inr ⟨⟨F,.of ea⟩,lv _ _ _ H1 _ L f1 (λi H' G' f hr _=>?_) O⟩⟩;have e':H' a=ca (.tup F):=f a _ ea;refine⟨λu eu=>?_,λe=>⟨F,.of e',by rw[e,rs.length];lia⟩⟩
  obtain⟨w,Y,z⟩:=rs.get eu;refine⟨⟨F,w,.of e',Y⟩,λv za y=>?_⟩;obtain⟨rfl,y⟩:=y;have:=y F (.of e');rw[Y]at this;cases this;exact⟨z.ts f,hr,Fr.refl _ _⟩
 ·cases rx;rename_i a;split at O
  ·rename_i us eu;obtain⟨F,sq,rs⟩:=L.ls eu;refine⟨_,rfl,.inl ⟨⟨F,sq⟩,lv _ _ _ H1 _ L f1 (λi H' G' f hr ok=>?_) O⟩⟩;obtain⟨J,I,Z⟩:=hr.ls ok;refine⟨λu eu=>?_,λe=>⟨J,I,by rw[e,Z.length];lia⟩⟩
   obtain⟨w,Y,z⟩:=Z.get eu;refine⟨⟨J,w,I,Y⟩,λv za y=>?_⟩;obtain⟨rfl,y⟩:=y;have:=y J I;rw[Y]at this;cases this;exact⟨z,hr,Fr.refl _ _⟩
  lia
 lia
def bU      lo n:Qo K (Px lo n) H G (rngU lo n) λ_=>True:=by
 intro i R O f J _;have I:(rngU lo n).length=n:=by simp[rngU]
 refine⟨λu z=>?_,λe=>by rw[I]at e;exact Zw e.symm⟩
 have F:i<n:=by grind
 refine⟨F,λv L y=>?_⟩;obtain⟨rfl,rfl⟩:=y;have:(rngU lo n)[i]?=ca (.int (lo+i)):=by simp[rngU,Lf,QB F]
 rw[this]at z;cases z;exact⟨rfl,J,Fr.refl _ _⟩
def u_r1 {a:Ia}{p:Pos}(hg:Gl X "range")(hm:X.mg "range" = la)(O:PE X a (lE X ta))(hs:uc [a] X.env=[(ia,lb a X.env)]):PI X tg (.Call (.Name "range" p) [a] [] pos) (lI X λI G Q E=>ta I G (λx z=>match x with
   |.int j=>-(2 ^ 62)<=j/\j<2 ^ 62/\Q (rngU 0 j.toNat) (λ_=>True) z
   |_=>False) E):=by
 refine(aV hg hm (Zo O Jo hs) hs).imp λσ H R h=>?_;obtain⟨I,G,Q,E,F,Z,h,Y,lx⟩:=h;refine⟨I,G,λL z=>match L with|[x]=>(match x with|.int j=>-(2 ^ 62)<=j/\j<2 ^ 62/\Q (rngU 0 j.toNat) (λ_=>True) z|_=>False)|_=>False,E,F,Z,h,λL vs z H1 rs J f1 y=>?_,lx⟩
 dsimp only at y;split at y
 ·obtain⟨v,rfl,r⟩:=rs.one;split at y
  ·cases r;exact⟨_,rfl,y.1,y.2.1,Y _ _ z H1 _ J f1 (bU 0 _) y.2.2⟩
  lia
 lia
def SR.set        (h:SR K H F σ)(r:RU K H u v) i:SR K H (F.set i (ca u)) (σ.set i (ca v)):=by
 refine⟨by simp[h.1],λj w e=>?_⟩
 by_cases z:j=i
 ·subst z;by_cases I:j<F.length
  ·rw[Rp I]at e;cases e;exact⟨v,Rp (by rw[<- h.1];exact I),r⟩
  simp_all
 ·rw[uj (Ua z)]at e ⊢;exact h.2 j w e
def u_tn    (z:X.N.Nodup)(F:X.N[i]?=ca x)(I:Ml X.env.scope x)(J:X.fn x=da\/X.env.scope.names.lookup x=ca .local):PG X (.Name x pos) (lG X.K (Qc (.n i))):=by
 refine(az z F I J).imp λv O H Q h=>?_;obtain⟨u,L,k,r,y,h,q⟩:=h;exact q _ _ (y.set r i) h
def u_tt {z:List Ia}{k n:Nat}{ts:Uh}(L:X.calm=da)(h:Ci X z (Dr X.K (tgsU ts)))(O:(ug z X.env).length=n)(F:(ug z X.env).findIdx? (·.1)=la)(Z:∀us y k,tgsU ts us y k->us.length=n) :
  PG X (.Tuple z k pos) (lG X.K (Qc (.t ts))):=by
 refine(oQ L h O F).imp λv σ H Q h=>?_;obtain⟨u,y,k,r,I,h,q⟩:=h;cases u with
 |tup us=>
  obtain⟨a,R,rfl,e,J⟩:=r;have Y:tgsU ts us y k:=h;exact⟨a,R,rfl,.of e,by rw[<- J.length];grind,us,y,k,J,I,Y,q⟩
 |_=>exact h.elim
def rN  : Ci X [] (Dr X.K (tgsU .nil)):=by
 refine VS.imp λI J H Q h=>?_;obtain⟨z,F,k,r,y,h,q⟩:=h;obtain⟨rfl,h⟩:=h;cases r;exact⟨rfl,q _ _ y h⟩
def qN {e:Ia}{y:List Ia}{t:Tg}{ts:Uh}(O:PG X e (lG X.K (Qc t)))(L:Ci X y (Dr X.K (tgsU ts)))(hs:(ug (e::y) X.env).map (·.2)=Ec e X.env::(ug y X.env).map (·.2)) :
  Ci X (e::y) (Dr X.K (tgsU (.cons t ts))):=by
 refine(yU O L hs).imp λvs σ H Q h=>?_;obtain⟨I,Y,k,r,F,h,q⟩:=h;cases I with
 |nil=>exact h.elim
 |cons u I=>
  obtain⟨v,Z,rfl,r1,R⟩:=r;exact⟨v,Z,rfl,u,Y,_,r1,F,h,λJ xa z h'=>⟨I,J,k,R,z,h',q⟩⟩
end
def Gk  (K:Hb)(t:UE):TE:=λI H J=>∃F G Q,SR K H F I/\HR K H G/\t F G Q (λ_ _=>False)/\∀w v z y,RU K y w v->HR K y z->Fr H G y z->Q w z->J v y
def dj  (K:Hb)(t:Sg->Gp->(Bool->Gp->Prop)->Prop):TT:=λI H J=>∃F G Q,SR K H F I/\HR K H G/\t F G Q/\∀b y z,HR K z y->Fr H G z y->Q b y->J b z
def LX.no      : LX X σ H G λ_ _=>False:=λ_ _ _ _ _ _ _ _ _ _ h=>h.elim
def Gk.of     (h:PE X e (lE X t)):PE X e (Gk X.K t):=h.imp λO H R ⟨J,G,Q,I,F,z,L⟩=>⟨J,G,Q,_,I,F,z,L,LX.no⟩
def dj.of     (h:PT X e (lT X t)):PT X e (dj X.K λz G Q=>t z G Q λ_ _=>False):=h.imp λO H R ⟨z,G,Q,J,I,F,L⟩=>⟨z,G,Q,_,J,I,F,L,LX.no⟩
mutual
noncomputable def uk:Tg->List Nat
 |.n i=>[i]
 |.t ts=>tgsS ts
noncomputable def tgsS:Uh->List Nat
 |.nil=>[]
 |.cons t ts=>uk t++tgsS ts
end
def Ft  (y z:Sg):Prop:=y.length=z.length/\∀(j:Nat) (w:U),y[j]?=ca (ca w)->z[j]?=ca (ca w)
mutual
theorem wE {y:Sg}:∀{t:Tg} {u:U} {F:Sg} {k:Sg->Prop},(∀i∈uk t,∀w,y[i]?≠ca (ca w))->Ft y F->Qc t u F k->Qc t u F λI=>k I/\Ft y I
 |.n i,u,F,k,hf,he,h=>by
  refine⟨h,by simp[he.1],λj w e=>?_⟩
  have L:j≠i:=λz=>hf i (by simp[uk]) w (z ▸ e)
  rw[uj (Ua L)]
  exact he.2 j w e
 |.t ts,u,F,k,hf,he,h=>by
  cases u with
  |tup us=>exact oF (ts:=ts) (us:=us) (λi J=>hf i J) he h
  |_=>exact h
theorem oF {y:Sg}:∀{ts:Uh} {us:List U} {F:Sg} {k:Sg->Prop},(∀i∈tgsS ts,∀w,y[i]?≠ca (ca w))->Ft y F->tgsU ts us F k->tgsU ts us F λz=>k z/\Ft y z
 |.nil,us,F,k,_,he,h=>⟨h.1,h.2,he⟩
 |.cons t ts,us,F,k,hf,he,h=>by
  cases us with
  |nil=>exact h
  |cons u r=>
   have:=wE (t:=t) (u:=u) (λi I=>hf i (by simp[tgsS,I])) he h
   refine Jv this λz ⟨L,J⟩=>oF (λi I=>hf i (by simp[tgsS,I])) J L
theorem Jv:∀{t:Tg} {u:U} {y:Sg} {k k':Sg->Prop},Qc t u y k->(∀y,k y->k' y)->Qc t u y k'
 |.n _,_,_,_,_,h,i=>i _ h
 |.t ts,u,y,_,_,h,i=>by
  cases u with
  |tup us=>exact WF (ts:=ts) (us:=us) h i
  |_=>exact h
theorem WF:∀{ts:Uh} {us:List U} {y:Sg} {k k':Sg->Prop},tgsU ts us y k->(∀y,k y->k' y)->tgsU ts us y k'
 |.nil,_,_,_,_,h,i=>⟨h.1,i _ h.2⟩
 |.cons t ts,us,y,_,_,h,i=>by
  cases us with
  |nil=>exact h
  |cons u r=>exact Jv (t:=t) h λz F=>WF F i
end
def SR.ext      (h:SR K H F σ)(e:Ft z F):SR K H z σ:=⟨e.1.trans h.1,λi u q=>h.2 i u (e.2 i u q)⟩
theorem SR.pick      (h:SR K H z σ)(pick:List (Option Nat)):SR K H (Ih pick z) (pick.map λo=>o.bind λj=>(σ[j]?).join):=by
 refine⟨by simp[Ih],λi u e=>?_⟩
 unfold Ih at e;rw[Lf]at e ⊢;cases q:pick[i]? with
 |none=>simp_all
 |some o=>
  rw[q]at e;cases o with
  |none=>simp at e
  |some j=>
   simp only[Option.map_some,Option.bind_some,Option.some.injEq]at e ⊢;have F:z[j]?=ca (ca u):=by
    grind
   obtain⟨v,I,r⟩:=h.2 j u F
   simp_all
section
variable {K:Hb}{H:Hp}{G:Gp}
def HR.newH  (h:HR K H G)(e:H p=la):HR K (upd H p o) G:=⟨λa z q=>by
 have m:=h a z q;obtain⟨I,F⟩:=m.there;exact m.keep (Ac (Kg F e)) (TS.new e),h.tab.new e⟩
def TS.hid     (e:H p=ca (.lst ys)):TS H (upd H p o):=⟨λa F h=>by
 have:a≠p:=λz=>by lia
 rw[Ac this];exact h,λa I h=>by
 have:a≠p:=λz=>by lia
 rw[Ac this];exact h⟩
def HR.hid  (h:HR K H G)(e:H p=ca (.lst ys))(g:G p=la):HR K (upd H p o) G:=⟨λa F q=>by
 have:a≠p:=λz=>by lia
 exact(h a F q).keep (Ac this) (TS.hid e),h.tab.upd (λI z=>by lia) λF z=>by lia⟩
def HR.know  (h:HR K H G)(e:H p=ca (.lst ys))(r:Eb K H us ys):HR K H (Td G p (.lst us)):=⟨λa F q=>by
 by_cases z:a=p
 ·subst z;rw[Lh]at q;cases q;exact⟨ys,e,r⟩
 ·rw[Ii z]at q;exact h a F q,h.tab⟩
end
section
variable {X:Cx}{pick:List (Option Nat)}{ti:UI}{t:Tg}{tc:Sg->Gp->(Bool->Gp->Prop)->Prop}{te:UE}{σ:St}{H:Hp}{Q0:VK}
abbrev jy  (pick:List (Option Nat))(ti:UI)(t:Tg)(O:Sg->Gp->(Bool->Gp->Prop)->Prop)(Z:UE):UE:=λF G Q E=>ti F G (λy ok J=>y.length<=Wa/\Kk ok (λx R k=>Qc t x (Ih pick F) λz=>O z R (λb I=>if b=da then Z z I (λu Y=>k (ca u) Y) (λ_ _=>False) else k la I)) y [] J
   λus L=>newO L (.lst us) Q) E
structure Et (D:Aa)(H:Hp)(G:Gp)(H':Hp)(G':Gp):Prop where
 go:∀a o,a≠D->H a=ca o->G a=la->(nt:noTb o=da:=by rfl)->H' a=ca o/\G' a=la
instance {D:Aa} {H H':Hp} {G G':Gp}:CoeFun (Et D H G H' G') λ_=>∀a o,a≠D->H a=ca o->G a=la->(nt:noTb o=da:=by rfl)->H' a=ca o/\G' a=la:=⟨@Et.go D H G H' G'⟩
def wP            {kk:List U->Gp->Prop}{QQ:St->List V->Hp->Prop}
  (free:∀i∈uk t,∀w,F[i]?≠ca (ca w)) (wk:Qo X.K J H1 G1 xs ok) (ka:HR X.K H1 G1) (wd:H1 D=ca (.lst xc)) (vd:G1 D=la) (yd:Eb X.K H1 acc0 xc) (jd:SR X.K H1 F kc) (hl:acc0.length+xs.length<=Wa)
  (h1:Kk ok (λx G2 k=>Qc t x F λR=>tc R G2 (λb O=>if b=da then te R O (λu G4=>k (ca u) G4) (λ_ _=>False) else k la O)) xs acc0 G1 kk)
  (zd:∀yb xa ja G' H',SR X.K H' F yb->HR X.K H' G'->Et D H1 G1 H' G'->H' D=ca (.lst ja)->G' D=la->Eb X.K H' xa ja->kk xa G'->QQ yb ja H') :
  Gy J (lG X.K (Qc t)) (dj X.K tc) (VA (Gk X.K te) D) QQ kc xc H1:=by
 refine⟨λi m R ys H'=>m=xs.length-i/\i<=xs.length/\∃I G',SR X.K H' F R/\HR X.K H' G'/\Et D H1 G1 H' G'/\H' D=ca (.lst ys)/\G' D=la/\Eb X.K H' I ys/\I.length<=acc0.length+i/\
  Kk ok (λx G2 k=>Qc t x F λR=>tc R G2 (λb O=>if b=da then te R O (λu G4=>k (ca u) G4) (λ_ _=>False) else k la O)) (xs.drop i) I G' kk,⟨xs.length,by simp,Me _,acc0,G1,jd,ka,⟨λ_ _ _ a b _=>⟨a,b⟩⟩,wd,vd,yd,by lia,by simp_all⟩,?_⟩
 rintro i m R ys H' ⟨rfl,hi,I,G',sr,hr,f,eD,gD',ra,hal,hc⟩;have ts:TS H1 H':=⟨λa zs e=>(f a _ (λz=>by lia) e (ka.tupNone e)).1,λa zs e=>(f a _ (λz=>by lia) e (ka.codNone e)).1⟩
 by_cases Y:i<xs.length
 ·rw[zC Y]at hc;obtain⟨va,hb⟩:=hc;obtain⟨w1,_⟩:=wk i H' G' ts hr va;obtain⟨go,yl⟩:=w1 xs[i] (by simp[Y])
  refine .inr ⟨go,λv xd y=>?_⟩;obtain⟨rx,Z,f2⟩:=yl v xd y;have qe:=sr.ts (f2.ts hr);refine⟨xs[i],F,_,rx,qe,wE free ⟨rfl,λ_ _ e=>e⟩ hb,λxb xe ya ⟨hk,he⟩=>?_⟩;refine⟨xb,G',_,ya,Z,hk,λb O H3 L f3 h3=>?_⟩;have zc:Et D H1 G1 H3 O:=⟨λa o n h g nt=>let ⟨a1,a2⟩:=f a o n h g nt;let ⟨b1,b2⟩:=f2 a o a1 a2 nt;f3 a o b1 b2 nt⟩
  have jc:SR X.K H3 F xe:=(ya.ext he).ts (f3.ts Z);obtain⟨qd,vc⟩:=f2 D _ eD gD';obtain⟨jb,qc⟩:=f3 D _ qd vc;have zb:=(ra.ts (f2.ts hr)).ts (f3.ts Z);cases b with
  |false=>
   rw[if_neg Dd]at h3;dsimp only;rw[if_neg Dd];exact⟨xs.length-(i+1),by lia,rfl,Y,I,O,jc,L,zc,jb,qc,zb,by lia,h3⟩
  |true=>
   rw[if_pos rfl]at h3;dsimp only;rw[if_pos rfl];refine⟨xb,O,_,ya.ts (f3.ts Z),L,h3,λu v G4 H4 ru wc f4 h4=>?_⟩;obtain⟨za,vb⟩:=f4 D _ jb qc;have yc:=zb.ts (f4.ts L);have kb:=TS.hid (o:=.lst (ys++[v])) za;refine⟨za,by rw[<- ra.length];lia,xs.length-(i+1),by lia,rfl,Y,I++[u],G4,(jc.ts (f4.ts L)).ts kb,wc.hid za vb,?_,Xe,vb,(yc.append (Eb.mk (us:=[]) (vs:=[]) ru rfl)).ts kb,by grind,h4⟩
   refine⟨λa o n ha ga nt=>?_⟩;obtain⟨x1,x2⟩:=zc a o n ha ga nt;obtain⟨y1,y2⟩:=f4 a o x1 x2 nt;exact⟨by rw[Ac n];exact y1,y2⟩
 ·have e:i=xs.length:=by lia
  subst e;rw[aL]at hc;obtain⟨va,q⟩:=hc;obtain⟨_,w2⟩:=wk xs.length H' G' ts hr va;exact .inl ⟨w2 rfl,zd R I ys G' H' sr hr f eD gD' ra q⟩
def bV  {is:List Nat}(y:is.all (λi=>(pick[i]?).join.isNone)=da) ς:∀i∈is,∀w,(Ih pick ς)[i]?≠ca (ca w):=λi z w e=>by
 have:=Qa.mp y i z;unfold Ih at e;rw[Lf]at e;cases q:pick[i]? with
 |none=>simp_all
 |some o=>
  simp_all
def IE  (hp:(uk t).all (λi=>(pick[i]?).join.isNone)=da)(h:lE X (jy pick ti t tc te) σ H Q0):Tx pick (lI X ti) (lG X.K (Qc t)) (dj X.K tc) (Gk X.K te) σ H Q0:=by
 obtain⟨ς,G,Q,E,z,hG,h,lv,lx⟩:=h;refine⟨ς,G,_,E,z,hG,h,λxs ok G1 H1 J F R wk L=>?_,lx⟩;obtain⟨hl,L⟩:=L;intro D y;refine wP (acc0:=[]) (bV hp ς) (wk.mono (TS.new y)) (F.newH y) Xe (F.nope y) rfl (((z.ts (R.ts hG)).ts (TS.new y)).pick pick) (by simp_all) L λza Z xa G' H' sr hr f eD O ra q=>?_
 refine lv (.loc D) (.ref D) _ H' rfl (hr.know eD ra) ?_ (q.at D O);refine⟨λa o ha ga Y=>?_⟩;obtain⟨I,x2⟩:=R a o ha ga Y;obtain⟨y1,y2⟩:=f a o (Kg I y) (by rw[Ac (Kg I y)];exact I) x2 Y
 exact⟨y1,by rw[Ii (Kg I y)];exact y2⟩

def u_lc  (L:X.calm=da)(S:CScope X N pick scope)(z:PI X tg iter (lI X ti))(J:(uk t).all (λi=>(pick[i]?).join.isNone)=da)
  (O:∀cl C s₀ H₀ y,PG (Xd X N scope cl C s₀ H₀ y) tg (lG X.K (Qc t))) (I:∀cl C s₀ H₀ y,PIfs (Xd X N scope cl C s₀ H₀ y) ifs (dj X.K tc)) (F:∀cl C s₀ H₀ y,PE (Xd X N scope cl C s₀ H₀ y) elt (Gk X.K te))
  (hs:∀x,Qi iter X.env x=pure x):PE X (.ListComp elt [⟨tg,iter,ifs,0⟩] scope pos) (lE X (jy pick ti t tc te)):=
 (qO L S z O I F hs).imp λ_ _ _ h=>IE J h
end
section
variable {X:Cx}{e:Ia}{te ta tb:UE}{p pos:Pos}
def jN  (hg:Gl X "list")(hm:X.mg "list" = la)(ha:PE X e (lE X te))(he:uc [e] X.env=[(ia,lb e X.env)]) :
  PE X (.Call (.Name "list" p) [e] [] pos) (lE X λO G Q E=>te O G (λx F=>rg x F λxs _=>newO F (.lst xs) Q) E):=by
 refine(Pz (sW (X:=X)) hg hm PyProof.Rows.boot_list (Zo ha Jo he) (by decide) (by decide) he rfl).imp λσ H Q0 h=>?_
 obtain⟨O,G,Q,E,I,hG,h,Z,lx⟩:=h;refine⟨O,G,λL F=>match L with|[x]=>(rg x F λxs _=>newO F (.lst xs) Q)|_=>False,E,I,hG,h,λL vs F H1 rs z Y y=>?_,lx⟩
 dsimp only at y;split at y
 ·obtain⟨v,rfl,r⟩:=rs.one;unfold rg at y;split at y
  ·obtain⟨a,J,rfl,ea,rr⟩:=r;exact⟨a,J,rfl,.inr (.of ea),λl R=>(Z.fr Y).lst R rr z y⟩
  ·cases r;split at y
   ·rename_i L eu;obtain⟨J,sq,rr⟩:=z.ls eu;exact⟨_,J,rfl,.inl sq,λl R=>(Z.fr Y).lst R rr z y⟩
   lia
  lia
 lia
def kN  (hg:Gl X "tuple")(hm:X.mg "tuple" = la)(ha:PE X e (lE X te))(he:uc [e] X.env=[(ia,lb e X.env)]) :
  PE X (.Call (.Name "tuple" p) [e] [] pos) (lE X λO G Q E=>te O G (λx F=>rg x F λxs _=>Q (.tup xs) F) E):=by
 refine(Pz (rW (X:=X)) hg hm PyProof.Rows.boot_tuple (Zo ha Jo he) (by decide) (by decide) he rfl).imp λσ H Q0 h=>?_
 obtain⟨O,G,Q,E,J,hG,h,Z,lx⟩:=h;refine⟨O,G,λL F=>match L with|[x]=>(rg x F λxs _=>Q (.tup xs) F)|_=>False,E,J,hG,h,λL vs F H1 rs z Y y=>?_,lx⟩
 dsimp only at y;split at y
 ·obtain⟨v,rfl,r⟩:=rs.one;unfold rg at y;split at y
  ·obtain⟨a,I,rfl,R,rr⟩:=r;exact⟨a,I,rfl,.inr ⟨.of R,(Z.fr Y).here (w:=.tup _) ⟨a,I,rfl,R,rr⟩ z y⟩⟩
  ·cases r;split at y
   ·rename_i L eu;obtain⟨I,sq,rr⟩:=z.ls eu;exact⟨_,I,rfl,.inl ⟨sq,λl hl=>(Z.fr Y).tup hl rr z y⟩⟩
   lia
  lia
 lia
def xS     i n:Eb K H (rngU i n) ((Be n).map λk:Nat=>V.int (i+(k:Int))):=by
 unfold rngU
 induction (Be n)with
 |nil=>rfl
 |cons a r y=>exact⟨_,_,rfl,rfl,y⟩
def dQ {I y:Pos}{a:Ia}(hc:X.calm=da)(J:Gl X "list")(R:X.mg "list" = la)(O:Gl X "range")(Y:X.mg "range" = la)(ha:PE X a (lE X ta))(hs:uc [a] X.env=[(ia,lb a X.env)])
  (xa:uc [.Call (.Name "range" I) [a] [] y] X.env=[(ia,lb (.Call (.Name "range" I) [a] [] y) X.env)]) :
  PE X (.Call (.Name "list" p) [.Call (.Name "range" I) [a] [] y] [] pos) (lE X λZ G Q E=>ta Z G (λx F=>match x with
   |.int j=>0<=j/\j<=1000000/\newO F (.lst (rngU 0 j.toNat)) Q
   |_=>False) E):=by
 refine(mW hc J R O Y (Zo ha Jo hs) hs xa).imp λσ H Q0 h=>?_;obtain⟨Z,G,Q,E,L,hG,h,lv,lx⟩:=h;refine⟨Z,G,λus F=>match us with|[x]=>(match x with|.int j=>0<=j/\j<=1000000/\newO F (.lst (rngU 0 j.toNat)) Q|_=>False)|_=>False,E,L,hG,h,λus vs F H1 rs za f1 z=>?_,lx⟩
 dsimp only at z;split at z
 ·obtain⟨v,rfl,r⟩:=rs.one;split at z
  ·rename_i j;cases r;refine⟨_,rfl,z.1,z.2.1,λl hl=>?_⟩;have:=xS (K:=X.K) (H:=H1) 0 j.toNat;simp only[Int.zero_add]at this;exact(lv.fr f1).lst hl this za z.2.2
  lia
 lia
def u_ty    (F:Gl X x)(y:X.mg x=la)(I:rj x=ca (.type n))(z:x ≠ "__name__")(hd:(x==("__debug__" : Str))=ia):PE X (.Name x pos) (lE X λ_ G Q _=>Q (.ty n) G):=
 pp (u:=.ty n) (xF (v:=.ty n) F y I rfl z hd) λ_=>rfl
def u_gl      (z:Gl X x)(y:X.mg x=ca w)(r:RelV v w)(hr:∀H,RU X.K H u v)(hd:(x==("__debug__" : Str))=ia):PE X (.Name x pos) (lE X λ_ G Q _=>Q u G):=
 pp (Zy z y r hd) hr
def aQ  : PE X (.Dict [] [] pos) (lE X λ_ G Q _=>newO G (.dK []) Q):=by
 refine vU.imp λL H O h p y=>?_;obtain⟨J,G,Q,E,I,z,h,F,lx⟩:=h;exact F (.loc p) (.ref p) _ _ rfl (z.newO (mo:=.dK []) y ⟨[],Xe,rfl⟩) (Fr.newO y) (h.at p (z.nope y))
def fN      (J:Sn X pos y F Y)(hd:lD X t Y)(O:y.all (·.isSome)=da)(hl:y.length=F.length)(h0:y≠[])
  (Z:y.length<=15):PE X (.Dict y F pos) (lE X λς G Q E=>t ς G (λkvs G1=>kvs.length<=15/\newO G1 (.dK (Rj kvs)) Q) E):=by
 refine(QS J O hl h0 Z).imp λσ H Q0 h p J=>?_;obtain⟨ς,G,Q,E,R,hG,h,lv,lx⟩:=h;have gp:=hG.nope J;refine hd σ _ ς G _ E _ (R.ts (TS.new J)) (hG.newH J) h (lx.fr (Fr.new J)) λkvs l G' H' r L f q=>?_;obtain⟨e,g⟩:=f p _ Xe gp;refine⟨e,l,rfl,by rw[<- r.length];exact q.1,?_⟩
 have ts:TS H' (upd H' p (.dK (Oj [] l))):=⟨λa xs h=>by
  have:a≠p:=λz=>by lia
  rw[Ac this];exact h,λa xs h=>by
  have:a≠p:=λz=>by lia
  rw[Ac this];exact h⟩
 refine lv (.loc p) (.ref p) (Td G' p (.dK (Rj kvs))) _ rfl ⟨λa ob z=>?_,L.tab.upd (λps z=>by lia) λob z=>by lia⟩ ⟨λa o ha ga nt=>?_⟩ (q.2.at p g)
 ·by_cases I:a=p
  ·subst I;rw[Lh]at z;cases z;exact⟨_,Xe,(Zd.merge r (kvs:=[]) (l:=[]) rfl).ts ts⟩
  ·rw[Ii I]at z;exact(L a ob z).keep (Ac I) ts
 ·have I:a≠p:=Kg ha J;obtain⟨x1,x2⟩:=f a o (by rw[Ac I];exact ha) ga nt
  exact⟨by rw[Ac I];exact x1,by rw[Ii I];exact x2⟩
def uP  : lD X (λ_ G Q _=>Q [] G) []:=λI H F G Q E J z y h lx q=>q [] [] G H rfl y (Fr.refl _ _) h
def MQ {tk tv:UE}{t:Sg->Gp->(List (Vb×U)->Gp->Prop)->KX->Prop}{J:List (TE×TE)}(hr:lD X t J):lD X (λF G Q E=>tk F G (λx G1=>tv F G1 (λy R=>match kU x with
   |some k=>t F R (λkvs G3=>Q ((k,y)::kvs) G3) E
   |none=>False) E) E) ((lE X tk,lE X tv)::J):=by
 intro σ H F G Q E Q0 z hG h lx q;refine⟨F,G,_,E,z,hG,h,λx v G1 H1 rx O L h1=>?_,lx⟩;refine⟨F,G1,_,E,z.ts (L.ts hG),O,h1,λy v' R H2 ry I f2 Z=>?_,lx.fr L⟩;dsimp only at Z;split at Z
 ·rename_i k ek;have:=Nk rx ek;subst this;refine hr σ H2 F R _ E _ ((z.ts (L.ts hG)).ts (f2.ts O)) I Z (lx.fr (L.trans f2)) λkvs l G3 H3 r Y f3 h3=>?_;exact q ((k,y)::kvs) ((k,v')::l) G3 H3 ⟨v',l,rfl,ry.ts (f3.ts I),r⟩ Y ((L.trans f2).trans f3) h3
 lia
end
end Z

namespace L2
open PySem
end L2
namespace Z
open PySem L2
structure LD (X:Cx)(H:Hp)(G:Gp)(De:En)(D:Ends):Prop where
 nx:∀ς' σ' G' H',SR X.K H' ς' σ'->HR X.K H' G'->Fr H G H' G'->De.nx ς' G'->D.nx σ' H'
 rt:∀w v G' H',RU X.K H' w v->HR X.K H' G'->Fr H G H' G'->De.rt w G'->D.rt v H'
 ex:∀(pins:List (Aa×Obj)) (e:Ba) (s':Da) (x:XV) ς' σ' G' H',La X pins σ' H' s'->SR X.K H' ς' σ'->GC X H' s' e x->HR X.K H' G'->Fr H G H' G'->De.ex x ς' G'->X.xe e s'
abbrev US:=En->Sg->Gp->Prop
def lS  (X:Cx)(t:US):L2.TS:=λD F H=>∃y z G,SR X.K H z F/\HR X.K H G/\t y z G/\LD X H G y D

def LD.fr  (h:LD X H G O D)(f:Fr H G H1 G1):LD X H1 G1 O D:=
 ⟨λF z L J a b c=>h.nx F z L J a b (f.trans c),λw v L J a b c=>h.rt w v L J a b (f.trans c),λI e R x F z L J i a b c d=>h.ex I e R x F z L J i a b c (f.trans d)⟩
def LD.lx  (h:LD X H G O D)(F:SR X.K H J σ)(Y:HR X.K H G):LX X σ H G λx L=>O.ex x J L:=λz e s' x Z H' I a R f q=>h.ex z e s' x J σ Z H' I (F.ts (f.ts Y)) a R f q
def LD.here  (h:LD X H G J D)(z:SR X.K H F σ)(I:HR X.K H G)(q:J.nx F G):D.nx σ H:=h.nx F σ G H z I (Fr.refl _ _) q
def LD.with    (h:LD X H G J D)(L:∀F z G' H',SR X.K H' F z->HR X.K H' G'->Fr H G H' G'->k F G'->I.nx z H')(hr:I.rt=D.rt):LD X H G { J with nx:=k } I:=
 ⟨L,λw v G' H' a b c d=>by rw[hr];exact h.rt w v G' H' a b c d,h.ex⟩
section
variable {X:Cx}{st:Pa}{rest:List Pa}{pos:Pos}{e:Ia}{te:UE}{t u:US}
def s_nil  : Fd X [] (lS X λD z G=>D.nx z G):=bz.imp λD L H ⟨J,z,G,y,I,h,F⟩=>F.here y I h
def s_cons  (O:PS X st (lS X t))(L:Fd X rest (lS X u)):Fd X (st::rest) (lS X λD F G=>t { D with nx:=λy G'=>u D y G' } F G):=by
 refine(zz O L).imp λD σ H ⟨J,F,G,z,R,h,I⟩=>?_;exact⟨_,F,G,z,R,h,I.with (λy Y G' Z a b c d=>⟨J,y,G',a,b,d,I.fr c⟩) rfl⟩
def s_expr  (O:PE X e (lE X te))(hs:ii e la pos.line X.env=pure ia):PS X (.Expr e pos) (lS X λD z G=>te z G (λ_ F=>D.nx z F) λx F=>D.ex x z F):=
 (qS O hs).imp λD R H ⟨De,z,G,y,I,h,J⟩=>⟨z,G,_,_,y,I,h,λw v Y Z _ L f q=>J.nx z R Y Z (y.ts (f.ts I)) L f q,J.lx y I⟩
def s_ret  (O:PE X e (lE X te)):PS X (.Return (ca e) pos) (lS X λD z G=>te z G D.rt λx J=>D.ex x z J):=
 (vQ O).imp λD σ H ⟨Z,z,G,y,I,h,F⟩=>⟨z,G,_,_,y,I,h,λw v R Y r L f q=>F.rt w v R Y r L f q,F.lx y I⟩
def s_if     (Z:PT X c (lT X tc))(ha:Fd X a (lS X t))(Y:Fd X b (lS X u)):PS X (.If c a b pos) (lS X λD z G=>tc z G (λx F=>if x=da then t D z F else u D z F) λx F=>D.ex x z F):=by
 refine(FD Z ha Y).imp λD σ H ⟨L,z,G,y,I,h,J⟩=>⟨z,G,_,_,y,I,h,λb R H' O f q=>?_,J.lx y I⟩;cases b with
 |true=>rw[if_pos rfl]at q ⊢;exact⟨L,z,R,y.ts (f.ts I),O,q,J.fr f⟩
 |false=>rw[if_neg Dd]at q ⊢;exact⟨L,z,R,y.ts (f.ts I),O,q,J.fr f⟩
def MR      (h:lS X (λD F G=>te F G (λu I=>Qc g u F λz=>D.nx z I) λx I=>D.ex x F I) D σ H) :
  lE X te σ H λx H1=>lG X.K (Qc g) x σ H1 D.nx:=by
 obtain⟨De,F,G,y,L,h,O⟩:=h;exact⟨F,G,_,_,y,L,h,λw v G' Z r R f q=>⟨w,F,_,r,y.ts (f.ts L),q,λz J Y hk=>O.nx z J G' Z Y R f hk⟩,O.lx y L⟩
def s_asg {y:Ia}{g:Tg}(L:PE X e (lE X te))(R:PG X y (lG X.K (Qc g)))(hs:sj [y] e pos.line X.env=pure ia)(J:li [y] e X.env=pure la)
  (O:(ug [y] X.env).map (·.2)=[Ec y X.env]):PS X (.Assign [y] e pos) (lS X λD F G=>te F G (λu z=>Qc g u F λI=>D.nx I z) λx z=>D.ex x F z):=
 (Iy L R hs J O).imp λ_ _ _ h=>MR h
def s_lc            
  (hN:X.N.Nodup) (O:X.N[i]?=ca y) (hy:X.env.scope.names.lookup y=ca .local) (hc:X.calm=da) (S:CScope X N pick scope) (hw:PI X tg iter (lI X ti)) (hp:(uk g).all (λi=>(pick[i]?).join.isNone)=da)
  (hg:∀cl C s₀ H₀ J,PG (Xd X N scope cl C s₀ H₀ J) tg (lG X.K (Qc g))) (hi:∀cl C s₀ H₀ J,PIfs (Xd X N scope cl C s₀ H₀ J) ifs (dj X.K tc)) (he:∀cl C s₀ H₀ J,PE (Xd X N scope cl C s₀ H₀ J) elt (Gk X.K te))
  (L:ii (.ListComp elt [⟨tg,iter,ifs,0⟩] scope pos) (ca (.Name y py)) F.line X.env=pure da) (hs:∀x,Qi iter X.env x=pure x) :
  PS X (.Assign [.Name y py] (.ListComp elt [⟨tg,iter,ifs,0⟩] scope pos) F) (lS X λD I G=>jy pick ti g tc te I G (λu Y=>Qc (.n i) u I λZ=>D.nx Z Y) λx Y=>D.ex x I Y):=by
 refine(xO hN O hy hc S hw hg hi he L hs).imp λD σ H h=>?_;obtain⟨De,I,G,z,R,h,ld⟩:=h;exact IE hp ⟨I,G,_,_,z,R,h,λw v G' H' r hr f q=>ld.nx _ _ G' H' ((z.ts (f.ts R)).set r i) hr f q,ld.lx z R⟩
def HD  : TSet:=λo i v H Q=>∃a y,o=.ref a/\DPut H a i v y/\Q y
def RF  (hu:X.A.units+1<Pb):PSet X HD:=by
 intro y s Z H o i v R Y u Q I z L F h;obtain⟨a,O,rfl,g,q⟩:=h;cases z;exact MT hu I g L F λs' J=>⟨O,J,q⟩
def _root_.L2.PSet.or {t t':TSet}(h:PSet X t)(h':PSet X t'):PSet X λo i v H Q=>t o i v H Q\/t' o i v H Q:=by
 intro z s Y H o i v L R u Q I F O J q;rcases q with q|q
 ·exact h z s Y H o i v L R u Q I F O J q
 ·exact h' z s Y H o i v L R u Q I F O J q
def kF       {R:Hp->Prop}(rx:RU X.K H x v)(Z:RU X.K H y v')(I:RU X.K H w L)(z:HR X.K H G)(h:setU x y w G k)
  (q:∀G' H',HR X.K H' G'->Fr H G H' G'->k G'->R H'):ID v v' L H R\/HD v v' L H R:=by
 cases x with
 |loc a=>
  cases rx;unfold setU at h;dsimp only at h;split at h
  ·rename_i xs g;obtain⟨vs,e,F⟩:=z.lst g;cases y with
   |int i=>
    cases Z;dsimp only at h;split at h
    ·rename_i j ej;refine .inl ⟨a,vs,i,j,rfl,rfl,e,by rw[<- F.length];exact ej,?_⟩
     exact q _ _ (z.write (mo':=.lst (xs.set j w)) g ⟨_,Xe,(F.set I j).ts (TS.write z g)⟩) (Fr.write g) h.at
    lia
   |_=>lia
  ·rename_i J g;obtain⟨l,e,F⟩:=z a _ g;split at h
   ·rename_i O Y;have:=Nk Z Y;subst this;refine .inr ⟨a,_,rfl,DPut.k e (by rw[<- F.length];exact h.1),?_⟩
    exact q _ _ (z.write (mo':=.dK (dPut J O w)) g ⟨_,Xe,(F.put I).ts (TS.write z g)⟩) (Fr.write g) h.2.at
   lia
  ·rename_i J g;obtain⟨l,e,F⟩:=z a _ g;cases y with
   |tup ys=>
    obtain⟨b,ws,rfl,eb,rb⟩:=Z;dsimp only at h;split at h
    ·rename_i O Y;have:=mv rb Y;subst this;refine .inr ⟨a,_,rfl,DPut.t e eb (by rw[<- F.length];exact h.1),?_⟩
     exact q _ _ (z.write (mo':=.dT (dPut J O w)) g ⟨_,Xe,(F.put I).ts (TS.write z g)⟩) (Fr.write g) h.2.at
    lia
   |_=>lia
  lia
 |_=>exact h.elim
def s_set {o i:Ia}{to ti:UE}{z:Pos}(hu:X.A.units+1<Pb)(he:PE X e (lE X te))(ho:PE X o (lE X to))(hi:PE X i (lE X ti))(hs:sj [.Subscript o i z] e pos.line X.env=pure ia)(hw:li [.Subscript o i z] e X.env=pure la)
  (h1:(ug [.Subscript o i z] X.env).map (·.2)=[Ec (.Subscript o i z) X.env]) (ha:∀v,Ec (.Subscript o i z) X.env v=(do
   let ov <- Wb [v] (lb o X.env)
   let iv <- Wb [v,ov] (lb i X.env)
   be z
   Wb [v,ov,iv] (Ve ov iv v)
   dh [v,ov,iv] [])):PS X (.Assign [.Subscript o i z] e pos) (lS X λD F G=>te F G (λv O=>to F O (λx G2=>ti F G2 (λy G3=>setU x y v G3 λG4=>D.nx F G4) λx O=>D.ex x F O) λx O=>D.ex x F O) λx O=>D.ex x F O):=by
 refine(Iy he (nQ ho hi (PSet.or TF (RF hu)) ha) hs hw h1).imp λD σ H ⟨De,F,G,Y,hG,h,ld⟩=>?_;refine⟨F,G,_,_,Y,hG,h,λw v O H1 za R f1 h1=>?_,ld.lx Y hG⟩;have J:=Y.ts (f1.ts hG);refine⟨F,O,_,_,J,R,h1,λx vx G2 H2 rx I f2 h2=>?_,(ld.fr f1).lx J R⟩;have L:=J.ts (f2.ts R);refine⟨F,G2,_,_,L,I,h2,λy vy G3 H3 ry Z f3 h3=>?_,(ld.fr (f1.trans f2)).lx L I⟩;have xa:=L.ts (f3.ts I);exact kF (rx.ts (f3.ts I)) ry ((za.ts (f2.ts R)).ts (f3.ts I)) Z h3 λG' H' hr f q=>ld.nx F σ G' H' (xa.ts (f.ts Z)) hr (((f1.trans f2).trans f3).trans f) q
def YW  (X:Cx)(o:Vj):Prop:=∃r:aq,JC X o r/\∀x y v z G H Q F,RU X.K H x v->RU X.K H y z->HR X.K H G->fj o x y G Q->LV X H G Q F->r v z H F
def EE   o:YW X o:=by
 cases o with
 |Add=>
  refine⟨_,(ic.or (yR (X:=X)) bW),λx y v L G H Q O J I F h z=>?_⟩;cases x<;>try exact h.elim
  ·cases y<;>try exact h.elim
   cases J;cases I;exact .inl ⟨_,_,rfl,rfl,z.int F h⟩
  ·cases y<;>try exact h.elim
   cases J;cases I;exact .inr ⟨_,_,rfl,rfl,h.1,z.str F h.2⟩
 |Sub=>
  refine⟨_,AR (X:=X),λx y v L G H Q O J I F h z=>?_⟩;cases x<;>try exact h.elim
  cases y<;>try exact h.elim
  cases J;cases I;exact⟨_,_,rfl,rfl,z.int F h⟩
 |Mult=>
  refine⟨_,zR (X:=X),λx y v L G H Q O J I F h z=>?_⟩;cases x<;>try exact h.elim
  cases y<;>try exact h.elim
  cases J;cases I;exact⟨_,_,rfl,rfl,h.1,z.int F h.2⟩
 |_=>exact⟨λ_ _ _ _=>False,λ_ _ _ _ _ _ _ _ _ _ _ _ h=>h.elim,λ_ _ _ _ _ _ _ _ _ _ _ h _=>h.elim⟩
def s_aug      (hN:X.N.Nodup)(hi:X.N[i]?=ca x)(hx:Ml X.env.scope x)(hf:X.fn x=da\/X.env.scope.names.lookup x=ca .local)(he:PE X e (lE X te)) :
  PS X (.AugAssign (.Name x ja) o e pos) (lS X λD I G=>slot I i λx=>te I G (λy J=>fj o x y J λz R=>D.nx (I.set i (ca z)) R) λx J=>D.ex x I J):=by
 obtain⟨r,Y,h2⟩:=EE (X:=X) o;refine(rQ hN hi hx he Y hf).imp λD σ H ⟨De,I,G,F,O,h,ld⟩=>?_;dsimp only at h;unfold slot at h;split at h
 ·rename_i u eu;obtain⟨v,ev,ru⟩:=F.2 i u eu;refine⟨v,ev,I,G,_,_,F,O,h,λy vy J H1 ry L Z Y=>?_,ld.lx F O⟩;exact h2 u y v vy J H1 _ _ (ru.ts (Z.ts O)) ry L Y λw vw R H2 xa za f2 q=>ld.nx _ _ R H2 (((F.ts (Z.ts O)).ts (f2.ts L)).set xa i) za (Z.trans f2) q
 lia
def _root_.L2.PGet.or {t t':V->V->Hp->VK->Prop}(h:PGet X t)(h':PGet X t'):PGet X λo i H Q=>t o i H Q\/t' o i H Q:=by
 intro z s R H o i J O Q I F L q;rcases q with q|q
 ·exact h z s R H o i J O Q I F L q
 ·exact h' z s R H o i J O Q I F L q
def s_augS      (hu:X.A.units+1<Pb)(ho:PE X o (lE X to))(hi:PE X i (lE X ti))(he:PE X e (lE X te))
  (ha:∀ov iv new,augStore i ov iv new=(do Wb [new,ov,iv] (Ve ov iv new);dh [new,ov,iv] [];pure .next)) :
  PS X (.AugAssign (.Subscript o i xb) p e pos) (lS X λD F G=>to F G (λx O=>ti F O (λy G2=>Mo x y G2 λa G3=>te F G3 (λb G4=>fj p a b G4 λz G5=>setU x y z G5 λG6=>D.nx F G6) λx O=>D.ex x F O) λx O=>D.ex x F O) λx O=>D.ex x F O):=by
 obtain⟨r,h1,h2⟩:=EE (X:=X) p;refine(pS ho hi (cT (X:=X)) he h1 (PSet.or TF (RF hu)) ha).imp λD σ H ⟨De,F,G,Z,hG,h,ld⟩=>?_;refine⟨F,G,_,_,Z,hG,h,λx vx O H1 rx R f1 h1=>?_,ld.lx Z hG⟩;have J:=Z.ts (f1.ts hG);refine⟨F,O,_,_,J,R,h1,λy vy G2 H2 ry I f2 Y=>?_,(ld.fr f1).lx J R⟩;have L:=J.ts (f2.ts R);have ya:=rx.ts (f2.ts R);unfold Mo at Y;cases x with
 |loc a=>
  cases y with
  |int k=>
   cases ya;cases ry;dsimp only at Y;split at Y
   ·rename_i xs g;obtain⟨vs,ev,rs⟩:=I.lst g;obtain⟨h0,Y⟩:=Y;split at Y
    ·rename_i u eu;obtain⟨w,ew,ka⟩:=rs.get eu;refine⟨a,vs,k,w,rfl,rfl,.of ev,h0,ew,F,G2,_,_,L,I,Y,λb vb G4 H4 rb xa f4 h4=>?_,(ld.fr (f1.trans f2)).lx L I⟩;have ja:=L.ts (f4.ts I);refine h2 u b w vb G4 H4 _ _ (ka.ts (f4.ts I)) rb xa h4 λz vz G5 H5 rz za f5 h5=>?_;have va:=ja.ts (f5.ts xa);exact kF (x:=.loc a) (y:=.int k) rfl rfl rz za h5 λG' H' hr f q=>ld.nx F σ G' H' (va.ts (f.ts za)) hr ((((f1.trans f2).trans f4).trans f5).trans f) q
    lia
   lia
  |_=>lia
 |_=>lia
def s_par2        (hc:X.calm=da)(hN:X.N.Nodup)(hi:X.N[i]?=ca x)(hj:X.N[j]?=ca y)(Z:i≠j)
  (hx:X.env.scope.names.lookup x=ca .local) (hy:X.env.scope.names.lookup y=ca .local) (ha:PA X [a,b] (lA X ts))
  (hw:li [.Tuple [.Name x px,.Name y py] kt pt] (.Tuple [a,b] k2 J) X.env=pure (ca [x,y])) (hs:sj [.Tuple [.Name x px,.Name y py] kt pt] (.Tuple [a,b] k2 J) pos.line X.env=pure ia) :
  PS X (.Assign [.Tuple [.Name x px,.Name y py] kt pt] (.Tuple [a,b] k2 J) pos) (lS X λD F G=>ts F G (λus I=>us.length=[i,j].length/\D.nx (([i,j].zip us).foldl (λs p=>s.set p.1 (ca p.2)) F) I) λx I=>D.ex x F I):=by
 refine(uQ hc hN hi hj Z hx hy ha hw hs).imp λD σ H ⟨De,F,G,z,Y,h,ld⟩=>?_;refine⟨F,G,_,_,z,Y,h,λus vs I H1 O xa f1 L=>?_,ld.lx z Y⟩;obtain⟨L,R⟩:=L
 match us,L,R,O with
 |[u,w],_,R,O=>
  obtain⟨v,v',rfl,r1,r2⟩:=O.two;exact⟨v,v',rfl,ld.nx _ _ I H1 (((z.ts (f1.ts Y)).set r1 i).set r2 j) xa f1 R⟩
def s_for       (hp:Wj (Fa X.prog X.w) X.A X.env X.xe)(hc:X.calm=da)(hi:PI X tg iter (lI X ti))(hg:PG X tg (lG X.K (Qc g)))(hb:Fd X body (lS X tb))
  (hs:∀x,Qi iter X.env x=pure x):PS X (.For tg iter body [] pos) (lS X λD ς G=>ti ς G (λxs ok G1=>forL ok (λx F L k=>Qc g x F λz=>tb { D with nx:=k } z L) xs ς G1 D.nx) λx G1=>D.ex x ς G1):=by
 refine(sQ hp hc hi hg hb hs).imp λD σ H ⟨De,ς,G,R,hG,h,ld⟩=>?_;refine⟨ς,G,_,_,R,hG,h,λxs ok G1 H1 J va f1 wk h1=>?_,ld.lx R hG⟩;refine⟨λi m ja Y=>m=xs.length-i/\i<=xs.length/\∃I O,SR X.K Y I ja/\HR X.K Y O/\Fr H1 G1 Y O/\forL ok (λx F L k=>Qc g x F λz=>tb { De with nx:=k } z L) (xs.drop i) I O De.nx,⟨xs.length,by simp,Me _,ς,G1,R.ts (f1.ts hG),va,Fr.refl _ _,by simp_all⟩,?_⟩
 rintro i m ja Y ⟨rfl,hi',I,O,sr,hr,f,hc'⟩;by_cases Z:i<xs.length
 ·rw[zC Z]at hc';obtain⟨xa,ya⟩:=hc';obtain⟨w1,_⟩:=wk i Y O (f.ts va) hr xa;obtain⟨go,yl⟩:=w1 xs[i] (by simp[Z])
  refine .inr ⟨go,λza H2=>∃z L,SR X.K H2 z za/\HR X.K H2 L/\Fr H1 G1 H2 L/\forL ok (λx F L k=>Qc g x F λz=>tb { De with nx:=k } z L) (xs.drop (i+1)) z L De.nx,λza H2 q=>⟨xs.length-(i+1),by lia,rfl,Z,q⟩,λv ka y=>?_⟩
  obtain⟨rx,jb,f2⟩:=yl v ka y;refine⟨xs[i],I,_,rx,sr.ts (f2.ts hr),ya,λz za zb hk=>?_⟩;have f3:=(f1.trans f).trans f2;refine⟨_,z,O,zb,jb,hk,(ld.fr f3).with (λxb vb G3 H3 a b c d=>⟨xb,G3,a,b,(f.trans f2).trans c,d⟩) rfl⟩
 ·have e:i=xs.length:=by lia
  subst e;rw[aL]at hc';obtain⟨xa,q⟩:=hc';exact .inl ⟨(wk xs.length Y O (f.ts va) hr xa).2 rfl,ld.nx I ja O Y sr hr (f1.trans f) q⟩
def s_wh      (hp:Wj (Fa X.prog X.w) X.A X.env X.xe)(hc:PT X c (lT X tc))(hb:Fd X body (lS X tb)) :
  PS X (.While c body [] pos) (lS X λD ς G=>∃W:Nat->Sg->Gp->Prop,(∃m,W m ς G)/\∀m F G1,W m F G1->
   tc F G1 (λt R=>if t=da then tb { D with nx:=λy G'=>∃L,L<m/\W L y G' } F R else D.nx F R) λx G1=>D.ex x F G1):=by
 refine(RT hp hc hb).imp λD σ H ⟨De,ς,G,za,hG,h,ld⟩=>?_;obtain⟨W,⟨m0,w0⟩,Z⟩:=h;refine⟨λm O H'=>∃y G',SR X.K H' y O/\HR X.K H' G'/\Fr H G H' G'/\W m y G',⟨m0,ς,G,za,hG,Fr.refl _ _,w0⟩,?_⟩;rintro m O H' ⟨y,G',sr,hr,f,w⟩;refine⟨y,G',_,_,sr,hr,Z m y G' w,λb R H2 xa f2 q=>?_,(ld.fr f).lx sr hr⟩;cases b with
 |true=>
  rw[if_pos rfl]at q ⊢;refine⟨λI Y=>∃z J,SR X.K Y z I/\HR X.K Y J/\Fr H G Y J/\∃L,L<m/\W L z J,λI Y ⟨z,J,a,b,c,L,hm,w'⟩=>⟨L,hm,z,J,a,b,c,w'⟩,?_⟩;exact⟨_,y,R,sr.ts (f2.ts hr),xa,q,(ld.fr (f.trans f2)).with (λz I J Y a b c d=>⟨z,J,a,b,(f.trans f2).trans c,d⟩) rfl⟩
 |false=>
  rw[if_neg Dd]at q ⊢;exact ld.nx y O R H2 (sr.ts (f2.ts hr)) xa (f.trans f2) q
end
structure pc where
 N:List Str
 sc:List (Str×Kf)
noncomputable def kd  (c:pc)(x:Str)(k:Kf):Bool:=c.sc.lookup x==ca k
def Ie  (c:pc)(x:Str):Bool:=kd c x .globalImplicit && !(x==("__debug__" : Str))
noncomputable def iy  : Ia->List Str
 |.Name x _=>[x]
 |_=>[]
def DM  : Ia->List Str
 |.Tuple y _ _=>y.flatMap iy
 |e=>iy e
def IS  : Ia->List Str
 |.Tuple y _ _=>y.flatMap DM
 |e=>iy e
noncomputable def qF  : List String:=["bool", "int", "str", "list", "tuple", "dict"]
def cOkS  (c:pc)(N:List Str)(pick:List (Option Nat))(scope:Cc):Bool:=
 decide (scope.kind=.function)&&scope.names.all (λy=>y.2 != .cell||scope.names.lookup y.1==ca .cell)&&scope.names.all (λy=>y.2 != .local||scope.names.lookup y.1==ca .local)
  && scope.names.all (λy=>y.2 != .free||(scope.names.lookup y.1==ca .free&&(kd c y.1 .cell||kd c y.1 .free)))
  && pick.length==N.length&&(N.zip pick).all (λp=>match p.2 with|none=>da|some j=>c.N[j]?==ca p.1&&scope.names.lookup p.1==ca .free)&&decide N.Nodup
noncomputable def gE  : Ia->Bool
 |.Call (.Name _ _) [] [] _=>ia
 |_=>da
noncomputable def e0  : Ia:=.Name "" ⟨0,0,0,0⟩
def hd  : List Ia->Ia
 |[]=>e0
 |e::_=>e
def c0  : Ia->Ia
 |.BinOp l _ _ _=>l
 |.UnaryOp _ x _=>x
 |.IfExp t _ _ _=>t
 |.Compare l _ _ _=>l
 |.Subscript v _ _=>v
 |.Attribute v _ _=>v
 |.Call f _ _ _=>f
 |.ListComp e _ _ _=>e
 |.FormattedValue v _ _ _=>v
 |_=>e0
def c1  : Ia->Ia
 |.BinOp _ _ r _=>r
 |.IfExp _ b _ _=>b
 |.Subscript _ s _=>s
 |_=>e0
def c2  : Ia->Ia
 |.IfExp _ _ b _=>b
 |_=>e0
noncomputable def cl  : Ia->List Ia
 |.BoolOp _ y _=>y
 |.Compare _ _ y _=>y
 |.Call _ y _ _=>y
 |.List y _=>y
 |.Tuple y _ _=>y
 |.Dict _ y _=>y
 |.JoinedStr y _=>y
 |_=>[]
noncomputable def kk  : Ia->Nat
 |.Constant _ k _=>k
 |.Tuple _ k _=>k
 |_=>0
def oe  : Option Ia->Ia
 |some e=>e
 |none=>e0
def dk  : Ia->List Ia
 |.Dict y _ _=>y.map oe
 |_=>[]
def gen1  : Ia->Iw
 |.ListComp _ (g::_) _ _=>g
 |_=>⟨e0,e0,[],0⟩
noncomputable def Ut  : Ia->Cc
 |.ListComp _ _ s _=>s
 |_=>⟨.module,[],ia,ia,[]⟩
def s0  : Ia->Ia
 |.Slice (ca e) _ _ _=>e
 |_=>e0
def s1  : Ia->Ia
 |.Slice _ (ca e) _ _=>e
 |_=>e0
def s2  : Ia->Ia
 |.Slice _ _ (ca e) _=>e
 |_=>e0
noncomputable def ac  (c:pc)(i:Nat):Str:=c.N.getD i ""
noncomputable def zp  : Bool->PySem.BoolOp
 |true=>.And
 |false=>.Or
noncomputable def Hg  : Es->Nat
 |.nil=>0
 |.cons _ y=>Hg y+1
noncomputable def Nr  : Uh->Nat
 |.nil=>0
 |.cons _ ts=>Nr ts+1
noncomputable def isLc  : E->Bool
 |.lc ..=>da
 |_=>ia
def cc  (c:pc)(pick:List (Option Nat))(h:Ia):pc:=⟨IS (gen1 h).target++(pick.filterMap id).filterMap (λj=>c.N[j]?),(Ut h).names⟩
mutual
noncomputable def unTg (c:pc):Tg->Ia->Ia
 |.n i,h=>.Name (ac c i) h.pos
 |.t ts,h=>.Tuple (Ik c ts (cl h)) (kk h) h.pos
noncomputable def Ik (c:pc):Uh->List Ia->List Ia
 |.nil,_=>[]
 |.cons t ts,hs=>unTg c t (hd hs)::Ik c ts hs.tail
end
def Fk  (c:pc)(i:Nat):Bool:=decide (i<c.N.length)&&(kd c (ac c i) .local||kd c (ac c i) .cell)
mutual
noncomputable def okTg (c:pc):Tg->Bool
 |.n i=>Fk c i
 |.t ts=>ny c ts
noncomputable def ny (c:pc):Uh->Bool
 |.nil=>da
 |.cons t ts=>okTg c t&&ny c ts
end
section
variable (T:Vd)
noncomputable def tw (n:Nat):Str:=match T.funs[n]? with
 |some d=>d.name
 |none => ""
mutual
noncomputable def bc (c:pc):E->Ia->Ia
 |.v i,h=>.Name (ac c i) h.pos
 |.non,h=>.Constant .none (kk h) h.pos
 |.bl b,h=>.Constant (.bool b) (kk h) h.pos
 |.int i,h=>.Constant (.int i) (kk h) h.pos
 |.str x,h=>.Constant (.str x) (kk h) h.pos
 |.g n,h=>.Name (T.gn.getD n "") h.pos
 |.ty n,h=>.Name (Yk n) h.pos
 |.bin o a b,h=>.BinOp (bc c a (c0 h)) o (bc c b (c1 h)) h.pos
 |.neg a,h=>.UnaryOp .USub (bc c a (c0 h)) h.pos
 |.not a,h=>.UnaryOp .Not (bc c a (c0 h)) h.pos
 |.bop k a es,h=>.BoolOp (zp k) (bc c a (hd (cl h))::unEs c es (cl h).tail) h.pos
 |.cmp o a b,h=>.Compare (bc c a (c0 h)) [o] [bc c b (hd (cl h))] h.pos
 |.cmp2 o p a b d,h=>.Compare (bc c a (c0 h)) [o,p] [bc c b (hd (cl h)),bc c d (hd (cl h).tail)] h.pos
 |.ife t a b,h=>.IfExp (bc c t (c0 h)) (bc c a (c1 h)) (bc c b (c2 h)) h.pos
 |.tup es,h=>.Tuple (unEs c es (cl h)) (kk h) h.pos
 |.lst es,h=>.List (unEs c es (cl h)) h.pos
 |.dic es,h=>.Dict (Yh c es (dk h)) (Zn c es (cl h)) h.pos
 |.ix a b,h=>.Subscript (bc c a (c0 h)) (bc c b (c1 h)) h.pos
 |.sl a lo hi,h=>.Subscript (bc c a (c0 h)) (.Slice (Rx c lo (s0 (c1 h))) (Rx c hi (s1 (c1 h))) la (c1 h).pos) h.pos
 |.rev a b,h=>.Subscript (bc c a (c0 h)) (.Slice la la (ca (bc c b (s2 (c1 h)))) (c1 h).pos) h.pos
 |.call n es,h=>.Call (.Name (tw T n) (c0 h).pos) (unEs c es (cl h)) [] h.pos
 |.app i es,h=>.Call (.Name (ac c i) (c0 h).pos) (unEs c es (cl h)) [] h.pos
 |.blt b es,h=>.Call (.Name (bltN b) (c0 h).pos) (unEs c es (cl h)) [] h.pos
 |.meth m o es,h=>.Call (.Attribute (bc c o (c0 (c0 h))) (mthN m) (c0 h).pos) (unEs c es (cl h)) [] h.pos
 |.lc pick t it ifs d,h=>.ListComp (bc (cc c pick h) d (c0 h)) [⟨unTg (cc c pick h) t (gen1 h).target,unI c it (gen1 h).iter,unEs (cc c pick h) ifs (gen1 h).ifs,0⟩] (Ut h) h.pos
 |.mkL d,h=>.Call (.Name "list" (c0 h).pos) [bc c d (hd (cl h))] [] h.pos
 |.mkT d,h=>.Call (.Name "tuple" (c0 h).pos) [bc c d (hd (cl h))] [] h.pos
 |.rngL d,h=>.Call (.Name "list" (c0 h).pos) [.Call (.Name "range" (c0 (hd (cl h))).pos) [bc c d (hd (cl (hd (cl h))))] [] (hd (cl h)).pos] [] h.pos
noncomputable def Rx (c:pc):Eo->Ia->Option Ia
 |.no,_=>la
 |.so d,h=>ca (bc c d h)
noncomputable def unEs (c:pc):Es->List Ia->List Ia
 |.nil,_=>[]
 |.cons d es,hs=>bc c d (hd hs)::unEs c es hs.tail
noncomputable def Yh (c:pc):Es->List Ia->List (Option Ia)
 |.cons d (.cons _ es),hs=>ca (bc c d (hd hs))::Yh c es hs.tail
 |_,_=>[]
noncomputable def Zn (c:pc):Es->List Ia->List Ia
 |.cons _ (.cons d es),hs=>bc c d (hd hs)::Zn c es hs.tail
 |_,_=>[]
noncomputable def YL (c:pc):Es->List Ia->List Ia
 |.nil,_=>[]
 |.cons d es,hs=>(match d with
  |.str x=>.Constant (.str x) (kk (hd hs)) (hd hs).pos
  |d=>.FormattedValue (bc c d (c0 (hd hs))) (-1) la (hd hs).pos)::YL c es hs.tail
noncomputable def unI (c:pc):It->Ia->Ia
 |.e d,h=>bc c d h
 |.r1 d,h=>.Call (.Name "range" (c0 h).pos) [bc c d (hd (cl h))] [] h.pos
end
mutual
noncomputable def okE (c:pc):E->Ia->Bool
 |.v i,_=>decide (i<c.N.length)&&(kd c (ac c i) .local||kd c (ac c i) .cell||kd c (ac c i) .free) && !(ac c i==("__debug__" : Str)) && !(ac c i==("__classdict__" : Str))
 |.non,_=>da
 |.bl _,_=>da
 |.int _,_=>da
 |.str _,_=>da
 |.g n,_=>decide (n<T.gs.length)&&decide (n<T.gn.length)&&Ie c (T.gn.getD n "")
 |.ty n,_=>qF.contains n&&Ie c (Yk n)
 |.bin _ a b,h=>okE c a (c0 h)&&okE c b (c1 h)
 |.neg a,h=>okE c a (c0 h)
 |.not a,h=>okE c a (c0 h)
 |.bop _ a es,h=>okE c a (hd (cl h))&&okEs c es (cl h).tail
 |.cmp o a b,h=>okE c a (c0 h)&&okE c b (hd (cl h)) && !behindInMarks o (bc T c b (hd (cl h)))
 |.cmp2 o p a b d,h=>okE c a (c0 h)&&okE c b (hd (cl h))&&okE c d (hd (cl h).tail) && !lastMarks [o,p] [bc T c b (hd (cl h)),bc T c d (hd (cl h).tail)]
 |.ife t a b,h=>okE c t (c0 h)&&okE c a (c1 h)&&okE c b (c2 h)
 |.tup es,h=>okEs c es (cl h)
 |.lst es,h=>okEs c es (cl h)
 |.dic es,h=>gy c es (dk h) (cl h)&&decide (Hg es<=30)
 |.ix a b,h=>okE c a (c0 h)&&okE c b (c1 h)
 |.sl a lo hi,h=>okE c a (c0 h)&&dy c lo (s0 (c1 h))&&dy c hi (s1 (c1 h))
 |.rev a b,h=>okE c a (c0 h)&&okE c b (s2 (c1 h))
 |.call n es,h=>decide (n<T.funs.length)&&Ie c (tw T n)&&okEs c es (cl h)
 |.app i es,h=>decide (i<c.N.length)&&(kd c (ac c i) .local||kd c (ac c i) .cell||kd c (ac c i) .free) && !(ac c i==("__debug__" : Str)) && !(ac c i==("__classdict__" : Str))&&okEs c es (cl h)
 |.blt b es,h=>decide (0<Hg es)&&Ie c (bltN b)&&okEs c es (cl h)
 |.meth _ o es,h=>okE c o (c0 (c0 h))&&okEs c es (cl h)&&((c0 h).pos.endLine==h.pos.line)&&decide (Hg es<30)&&gE (bc T c o (c0 (c0 h)))
 |.lc pick t it ifs d,h=>cOkS c (cc c pick h).N pick (Ut h)&&(uk t).all (λi=>(pick[i]?).join.isNone)&&okTg (cc c pick h) t&&fy c t it (gen1 h).iter&&okEs (cc c pick h) ifs (gen1 h).ifs&&decide (Hg ifs<=1)&&okE (cc c pick h) d (c0 h)
 |.mkL d,h=>Ie c "list" && okE c d (hd (cl h))
 |.mkT d,h=>Ie c "tuple" && okE c d (hd (cl h))
 |.rngL d,h=>Ie c "list" && Ie c "range" && okE c d (hd (cl (hd (cl h))))
noncomputable def dy (c:pc):Eo->Ia->Bool
 |.no,_=>da
 |.so d,h=>okE c d h
noncomputable def okEs (c:pc):Es->List Ia->Bool
 |.nil,_=>da
 |.cons d es,hs=>okE c d (hd hs)&&okEs c es hs.tail
noncomputable def gy (c:pc):Es->List Ia->List Ia->Bool
 |.nil,_,_=>da
 |.cons d (.cons f es),hs,gs=>okE c d (hd hs)&&okE c f (hd gs)&&gy c es hs.tail gs.tail
 |.cons _ .nil,_,_=>ia
noncomputable def wM (c:pc):Es->List Ia->Bool
 |.nil,_=>da
 |.cons d es,hs=>(match d with
  |.str x=>decide (x.length<=10000)
  |d=>okE c d (c0 (hd hs)))&&wM c es hs.tail
noncomputable def fy (c:pc)(t:Tg):It->Ia->Bool
 |.e d,h=>okE c d h
 |.r1 d,h=>Ie c "range" && okE c d (hd (cl h))
end
noncomputable def rE  (ts:List Ia):Nat:=(ts.head?.map (·.pos.line)).getD 0
def We  (c:pc)(ts:List Ia):List Str:=ts.filterMap fun
  |.Name y pos=>if c.sc.lookup y==ca .local&&pos.line==rE ts then ca y else la
  |_=>la
noncomputable def jv  : Ia->Bool
 |.Starred ..=>da
 |_=>ia
def swapped  (c:pc)(ts vs:List Ia):Bool:=
 (ts.length==2||ts.length==3)&&vs.length==ts.length && !(vs.any jv)&&(We c ts).length==ts.length&&(We c ts).eraseDups.length==(We c ts).length && !(vs.all (YA 8)) && !(vs.all (constantsAlone 8))
def Vz  (c:pc)(ts vs:List Ia):Bool:=
 !(ts.length==2||ts.length==3)||vs.length != ts.length||(!(vs.any jv)&&((We c ts).length != ts.length||(We c ts).eraseDups.length != (We c ts).length||vs.all (YA 8)))
noncomputable def lcSw  (c:pc)(y:Str)(z p:Pos)(s:Cc):Bool:=c.sc.lookup y==ca .local&&z.line==p.line && !(s.names.any λ(n,k)=>n==y&&(k == .local||k == .cell))
def q0  : Pa->Ia
 |.Expr e _=>e
 |.Assign _ e _=>e
 |.Return (ca e) _=>e
 |.AugAssign _ _ e _=>e
 |.If e _ _ _=>e
 |.While e _ _ _=>e
 |.For _ e _ _ _=>e
 |_=>e0
def q1  : Pa->Ia
 |.Assign (t::_) _ _=>t
 |.AugAssign t _ _ _=>t
 |.For t _ _ _ _=>t
 |_=>e0
def qr  : Pa->Ia
 |.Raise (ca e) _ _=>e
 |_=>e0
def QW  : Pa->Ia
 |.Try _ (.ExceptHandler (ca t) _ _ _::_) _ _ _=>t
 |_=>e0
noncomputable def SW  : Pa->List Pa
 |.Try _ (.ExceptHandler _ _ b _::_) _ _ _=>b
 |_=>[]
noncomputable def RW  : Pa->Pos
 |.Try _ (.ExceptHandler _ _ _ p::_) _ _ _=>p
 |_=>⟨0,0,0,0⟩
noncomputable def qa  : Pa->List Pa
 |.Try a _ _ _ _=>a
 |.If _ a _ _=>a
 |.While _ a _ _=>a
 |.For _ _ a _ _=>a
 |_=>[]
noncomputable def qb  : Pa->List Pa
 |.If _ _ b _=>b
 |_=>[]
noncomputable def qh  : List Pa->Pa
 |[]=>.Pass ⟨0,0,0,0⟩
 |s::_=>s
noncomputable def unNs  (c:pc):List Nat->List Ia->List Ia
 |[],_=>[]
 |i::is,hs=>.Name (ac c i) (hd hs).pos::unNs c is hs.tail
noncomputable def unCs  : List Nat->List Ia->List Ia
 |[],_=>[]
 |k::ks,hs=>.Name (clsN k) (hd hs).pos::unCs ks hs.tail
section
variable (c:pc)(n:Nat)
def unHL:HL->Ia->Ia
 |.v i,h=>.Name (ac c i) h.pos
 |.isiV,h=>.Call (.Name "isinstance" (c0 h).pos) [.Name (ac c n) (hd (cl h)).pos,.Name "ValueError" (hd (cl h).tail).pos] [] h.pos
 |.is1 k,h=>.Call (.Name "isinstance" (c0 h).pos) [.Name (ac c n) (hd (cl h)).pos,.Name (clsN k) (hd (cl h).tail).pos] [] h.pos
 |.isi ks,h=>.Call (.Name "isinstance" (c0 h).pos) [.Name (ac c n) (hd (cl h)).pos,.Tuple (unCs ks (cl (hd (cl h).tail))) (kk (hd (cl h).tail)) (hd (cl h).tail).pos] [] h.pos
def Im:Bool×HL->Ia->Ia
 |(da,l),h=>.UnaryOp .Not (unHL c n l (c0 h)) h.pos
 |(ia,l),h=>unHL c n l h
noncomputable def vv:List (Bool×HL)->List Ia->List Ia
 |[],_=>[]
 |a::r,hs=>Im c n a (hd hs)::vv r hs.tail
def uv (k:Bool)(a:Bool×HL):List (Bool×HL)->Ia->Ia
 |[],h=>Im c n a h
 |b::r,h=>.BoolOp (zp k) (Im c n a (hd (cl h))::vv c n (b::r) (cl h).tail) h.pos
def unHA:HA->Ia->Ia
 |.str x,h=>.Constant (.str x) (kk h) h.pos
 |.att f,h=>.Attribute (.Name (ac c n) (c0 h).pos) f h.pos
noncomputable def Xu:List HA->List Ia->List Ia
 |[],_=>[]
 |a::r,hs=>unHA c n a (hd hs)::Xu r hs.tail
def unHV:HV->Ia->Ia
 |.cond k a as,h=>uv c n k a as h
 |.one a,h=>unHA c n a h
 |.bl b,h=>.Constant (.bool b) (kk h) h.pos
 |.tup as,h=>.Tuple (Xu c n as (cl h)) (kk h) h.pos
 |.lst as,h=>.List (Xu c n as (cl h)) h.pos
def xy (i:Nat)(e:HV)(h:Pa):Pa:=.Assign [.Name (ac c i) (q1 h).pos] (unHV c n e (q0 h)) h.pos
def unHS:HS->Pa->Pa
 |.asg i e,h=>xy c n i e h
 |.ifa k a as i e,h=>.If (uv c n k a as (q0 h)) [xy c n i e (qh (qa h))] [] h.pos
noncomputable def Hm:List HS->List Pa->List Pa
 |[],_=>[]
 |s::r,hs=>unHS c n s (qh hs)::Hm r hs.tail
end
section
variable (cs:List Nat)(c:pc)
def Hi (k:Nat):Bool:=decide (1<=k)&&decide (k<6)&&cs.contains k&&Ie c (clsN k)
def okHL:HL->Bool
 |.v i=>decide (i<c.N.length)&&(kd c (ac c i) .local||kd c (ac c i) .cell||kd c (ac c i) .free) && !(ac c i==("__debug__" : Str)) && !(ac c i==("__classdict__" : Str))
 |.isiV=>Ie c "isinstance" && Ie c "ValueError"
 |.is1 k=>Ie c "isinstance" && Hi cs c k
 |.isi y=>Ie c "isinstance" && y.all (Hi cs c)&&decide (y.length<=8)
def Lm (as:List (Bool×HL)):Bool:=as.all λp=>okHL cs c p.2
def okHA  : HA->Bool
 |.str _=>da
 |.att f=>fldN.contains f
def okHV:HV->Bool
 |.cond _ a y=>okHL cs c a.2&&Lm cs c y
 |.one a=>okHA a
 |.bl _=>da
 |.tup y=>y.all okHA&&decide (y.length<=8)
 |.lst y=>y.all okHA&&decide (y.length<=8)
def okHS (n:Nat):HS->Bool
 |.asg i e=>Fk c i&&decide (i≠n)&&okHV cs c e
 |.ifa _ a y i e=>okHL cs c a.2&&Lm cs c y&&Fk c i&&decide (i≠n)&&okHV cs c e
end
mutual
noncomputable def Hj (c:pc):S->Pa->Pa
 |.expr d,h=>.Expr (bc T c d (q0 h)) h.pos
 |.asg t d,h=>.Assign [unTg c t (q1 h)] (bc T c d (q0 h)) h.pos
 |.asgC i d,h=>.Assign [.Name (ac c i) (q1 h).pos] (bc T c d (q0 h)) h.pos
 |.setS o i d,h=>.Assign [.Subscript (bc T c o (c0 (q1 h))) (bc T c i (c1 (q1 h))) (q1 h).pos] (bc T c d (q0 h)) h.pos
 |.par is es,h=>.Assign [.Tuple (unNs c is (cl (q1 h))) (kk (q1 h)) (q1 h).pos] (.Tuple (unEs T c es (cl (q0 h))) (kk (q0 h)) (q0 h).pos) h.pos
 |.aug i o d,h=>.AugAssign (.Name (ac c i) (q1 h).pos) o (bc T c d (q0 h)) h.pos
 |.augS a i o d,h=>.AugAssign (.Subscript (bc T c a (c0 (q1 h))) (bc T c i (c1 (q1 h))) (q1 h).pos) o (bc T c d (q0 h)) h.pos
 |.ite t a b,h=>.If (bc T c t (q0 h)) (unSs c a (qa h)) (unSs c b (qb h)) h.pos
 |.fr t it b,h=>.For (unTg c t (q1 h)) (unI T c it (q0 h)) (unSs c b (qa h)) [] h.pos
 |.wh t b,h=>.While (bc T c t (q0 h)) (unSs c b (qa h)) [] h.pos
 |.ret d,h=>.Return (ca (bc T c d (q0 h))) h.pos
 |.raise k es,h=>.Raise (ca (.Call (.Name (clsN k) (c0 (qr h)).pos) (unEs T c es (cl (qr h))) [] (qr h).pos)) la h.pos
 |.tr b k n hs,h=>.Try (unSs c b (qa h)) [.ExceptHandler (ca (.Name (clsN k) (QW h).pos)) (ca (ac c n)) (Hm c n hs (SW h)) (RW h)] [] [] h.pos
noncomputable def unSs (c:pc):Ss->List Pa->List Pa
 |.nil,_=>[]
 |.cons s r,hs=>Hj c s (qh hs)::unSs c r hs.tail
end
def xM (c:pc):Tg->E->Pa->Bool
 |.n i,.lc ..,_=>!(kd c (ac c i) .local)
 |.t _,.lc ..,_=>ia
 |.t ts,.tup es,h=>Vz c (Ik c ts (cl (q1 h))) (unEs T c es (cl (q0 h)))
 |_,_,_=>da
noncomputable def okNs  (c:pc):List Nat->Bool
 |[]=>da
 |i::is=>decide (i<c.N.length)&&kd c (ac c i) .local && !(is.contains i)&&okNs c is
mutual
noncomputable def oo (c:pc):S->Pa->Bool
 |.expr d,h=>okE T c d (q0 h) && !isLc d
 |.asg t d,h=>okE T c d (q0 h)&&okTg c t&&xM T c t d h
 |.asgC i d,h=>isLc d&&okE T c d (q0 h)&&decide (i<c.N.length)&&lcSw c (ac c i) (q1 h).pos (q0 h).pos (Ut (q0 h))
 |.setS o i d,h=>okE T c d (q0 h)&&okE T c o (c0 (q1 h))&&okE T c i (c1 (q1 h))
 |.par is es,h=>okEs T c es (cl (q0 h))&&okNs c is&&swapped c (unNs c is (cl (q1 h))) (unEs T c es (cl (q0 h)))&&decide (is.length=2)
 |.aug i _ d,h=>Fk c i&&okE T c d (q0 h)
 |.augS a i _ d,h=>okE T c a (c0 (q1 h))&&okE T c i (c1 (q1 h))&&okE T c d (q0 h)
 |.ite t a b,h=>okE T c t (q0 h)&&okSs c a (qa h)&&okSs c b (qb h)
 |.fr t it b,h=>okTg c t&&fy T c t it (q0 h)&&okSs c b (qa h)
 |.wh t b,h=>okE T c t (q0 h)&&okSs c b (qa h)
 |.ret d,h=>okE T c d (q0 h)
 |.raise k es,h=>Hi T.cs c k&&decide (0<Hg es)&&okEs T c es (cl (qr h))
 |.tr b k n hs,h=>okSs c b (qa h)&&decide (k=0)&&Ie c (clsN k)&&decide (n<c.N.length)&&kd c (ac c n) .local && !(ac c n==("__debug__" : Str)) && !(ac c n==("__classdict__" : Str)) && !hs.isEmpty&&hs.all (okHS T.cs c n)
noncomputable def okSs (c:pc):Ss->List Pa->Bool
 |.nil,_=>da
 |.cons s r,hs=>oo c s (qh hs)&&okSs c r hs.tail
end
end
def Gg  (K:Hb)(t:List U->Gp->K1->KX->Prop):Sp:=λJ H L E0=>∃I G Q E,Eb K H I J/\HR K H G/\t I G Q E/\(∀w v z y,RU K y w v->HR K y z->Fr H G y z->Q w z->L v y)/\
 ∀x z y C F,XD K y C F x->HR K y z->Fr H G y z->E x z->E0 (.ref C) (ca F) y
def VL  (P:Ib)(w:ib)(K:Hb)(mg:Str->Option Ba)(base:Va)(k:Nat)(d:Fun)(t:List U->Gp->K1->KX->Prop):Prop:=
 ∃(f:Aa) (fd:Bp),FnOk P w K mg base (ed P w) (k+2) f fd d.ps (Gg K t)/\mg d.name=ca (.ref f)/\oj K (.ref f)=da/\Binds K fd d.ps []
noncomputable def Qj  : List Str:=["len", "repr", "min", "max", "sum", "all", "any", "sorted", "int", "str", "isinstance", "range", "enumerate", "list", "tuple", "bool", "dict", "ValueError", "set", "zip"]
structure Cok (T:Vd)(k:Nat)(X:Cx)(c:pc):Prop where
 hN:X.N=c.N
 nd:c.N.Nodup
 loc:∀x,kd c x .local=da->X.env.scope.names.lookup x=ca .local
 cel:∀x,kd c x .cell=da->X.env.scope.names.lookup x=ca .cell/\X.fn x=da
 fre:∀x,kd c x .free=da->X.env.scope.names.lookup x=ca .cell\/X.env.scope.names.lookup x=ca .free
 glb:∀x,kd c x .globalImplicit=da->Gl X x
 room:Room k X.A
 calm:X.calm=da
 po:Wj (Fa X.prog X.w) X.A X.env X.xe
 blt:∀x∈Qj,X.mg x=la
 fns:∀(n:Nat) (d:Fun),T.funs[n]?=ca d->VL X.prog X.w X.K X.mg X.base k d (Ta T k n)
 gls:∀(n:Nat) (x:Str) (u:U),T.gn[n]?=ca x->T.gs[n]?=ca u->∃v w,X.mg x=ca w/\RelV v w/\∀H,RU X.K H u v
 room2:Room (k+2) X.A
 cls:∀n∈T.cs,1<=n->∃C,XCls X.K (gK X.K) (clsN n) (clsF n) C
 mgK:∀x v,gK X.K x=ca v->X.mg x=ca v
structure bh (T:Vd)(k:Nat)(X:Cx)(c:pc):Prop extends Cok T k X c where
 sc:X.env.scope.names=c.sc
 kind:X.env.scope.kind=.function
 stk:X.stack=X.env::X.outer/\X.env.frame=ca X.env.locals
section
variable {T:Vd}{k:Nat}{X:Cx}{c:pc}
def Cok.hu  (h:Cok T k X c):X.A.units+1<Pb:=OM h.room
def Cok.vis  (h:Cok T k X c)(v:(kd c x .local||kd c x .cell||kd c x .free)=da):Ai X.env.scope x:=by
 simp only[Bl]at v;rcases v with(v|v)|v
 ·exact .inl (h.loc x v)
 ·exact .inr (.inl (h.cel x v).1)
 ·rcases h.fre x v with z|z
  ·exact .inr (.inl z)
  ·exact .inr (.inr z)
def Cok.store  (h:Cok T k X c)(v:(kd c x .local||kd c x .cell)=da):Ml X.env.scope x/\(X.fn x=da\/X.env.scope.names.lookup x=ca .local):=by
 simp only[Bl]at v;rcases v with v|v
 ·exact⟨.inl (h.loc x v),.inr (h.loc x v)⟩
 ·exact⟨.inr (h.cel x v).1,.inl (h.cel x v).2⟩
def Cok.gl  (h:Cok T k X c)(v:Ie c x=da):Gl X x/\(x==("__debug__" : Str))=ia:=by
 unfold Ie at v;rw[Lc]at v;exact⟨h.glb x v.1,by lia⟩
end
noncomputable def Rk  : Ia->Bool
 |.BoolOp ..|.BinOp ..|.UnaryOp ..|.IfExp ..|.Dict ..|.ListComp ..|.Compare ..|.Call ..|.Constant ..|.Subscript ..|.Name ..|.List ..|.Tuple ..|.JoinedStr ..=>da
 |_=>ia
section
variable {T:Vd}{c:pc}
def Jf   ir h:Rk (bc T c ir h)=da:=by cases ir<;>rfl
def Ef   (h:Rk e=da) es env:uc (e::es) env=(ia,lb e env)::uc es env:=by
 cases e<;>first|rfl|cases h
def vR   (h:Rk e=da):cz e:=by
 intro o i;cases e<;>first|rfl|cases h
def tG   (h:Rk e=da) env:∀x,Qi e env x=pure x:=by
 intro x;cases e<;>first|rfl|cases h
def bS   it h env:∀x,Qi (unI T c it h) env x=pure x:=by
 cases it with
 |e d=>exact tG (Jf d _) env
 |_=>exact λ_=>rfl
def fT   (h:Rk e=da):∀y z new,augStore e y z new=(do Wb [new,y,z] (Ve y z new);dh [new,y,z] [];pure .next):=by
 intros
 cases e<;>first|rfl|cases h
def eT   (h:Rk i=da) env tpos:∀v,Ec (.Subscript o i tpos) env v=(Wb [v] (lb o env) >>= λa=>Wb [v,a] (lb i env) >>= λb=>be tpos >>= λ_=>Wb [v,a,b] (Ve a b v) >>= λ_=>dh [v,a,b] []):=by
 intro v;cases i<;>first|rfl|cases h
def ZR   (q:isLc y=ia) h env l:ii (bc T c y h) la l env=pure ia:=by
 cases y<;>first|rfl|cases q
def cS   (q:isLc y=ia) h tg env l:sj [tg] (bc T c y h) l env=pure ia:=by
 cases y<;>first|rfl|cases q
def zE   ir h x y p env l:sj [.Subscript x y p] (bc T c ir h) l env=pure ia/\li [.Subscript x y p] (bc T c ir h) env=pure la:=by
 cases ir<;>exact⟨rfl,rfl⟩
def uN   ir h x p env:li [.Name x p] (bc T c ir h) env=pure la:=by
 cases ir<;>rfl
def aS   t h env:(ug [unTg c t h] env).map (·.2)=[Ec (unTg c t h) env]:=by
 cases t<;>rfl
def lz   (h:gE o=da) m env w:jn o m env w=w:=by
 unfold jn;split
 ·cases h
 ·rfl
theorem Vm  : ∀y hs env pos ,(Tb pos (uc (unEs T c y hs) env)).any (·.1)=ia/\(Tb pos (uc (unEs T c y hs) env)).all (λx=>!x.1)=da
 |.nil,_,_,_=>⟨rfl,rfl⟩
 |.cons d y,hs,env,pos=>by
  obtain⟨F,z⟩:=Vm y hs.tail env pos;show(Tb pos (uc (bc T c d (hd hs)::unEs T c y hs.tail) env)).any (·.1)=ia/\(Tb pos (uc (bc T c d (hd hs)::unEs T c y hs.tail) env)).all (λx=>!x.1)=da;rw[Ef (Jf d _)];exact⟨by show(ia||(Tb pos (uc (unEs T c y hs.tail) env)).any (·.1))=ia;lia,by show(!false&&(Tb pos (uc (unEs T c y hs.tail) env)).all (λx=>!x.1))=da;lia⟩
theorem Ly  : ∀y hs ,(unEs T c y hs).length=Hg y
 |.nil,_=>rfl
 |.cons _ y,hs=>congrArg (·+ 1) (Ly y hs.tail)
def ba   (h:(a&&b)=da):a=da/\b=da:=by lia
def bn   (h:(!a)=da):a=ia:=by lia
def Kr   (h:decide (i<c.N.length)=da):c.N[i]?=ca (ac c i):=by
 unfold ac
 simp_all
end
theorem pF  : ∀{ts } {us } {z } {k },tgsU ts us z k->us.length=Nr ts
 |.nil,us,z,k,h=>by rw[h.1];rfl
 |.cons t ts,us,z,k,h=>by
  cases us with
  |nil=>exact h.elim
  |cons u r=>
   have:∃y,tgsU ts r y k:=tg_some h;obtain⟨y,F⟩:=this;show r.length+1=Nr ts+1;rw[pF F]
where
 tg_some {t:Tg} {u:U} {ς:Sg} {P:Sg->Prop} (h:Qc t u ς P):∃ς',P ς':=by
  have:=Jv (k':=λ_=>∃ς',P ς') h λς' h'=>⟨ς',h'⟩;exact tg_const this
 tg_const:∀{t:Tg} {u:U} {ς:Sg} {P:Prop},Qc t u ς (λ_=>P)->P
  |.n _,_,_,_,h=>h
  |.t ts,u,ς,P,h=>by
   cases u with
   |tup us=>exact tgs_const (ts:=ts) (us:=us) h
   |_=>exact h.elim
 tgs_const:∀{ts:Uh} {us:List U} {ς:Sg} {P:Prop},tgsU ts us ς (λ_=>P)->P
  |.nil,_,_,_,h=>h.2
  |.cons t ts,us,ς,P,h=>by
   cases us with
   |nil=>exact h.elim
   |cons u r=>exact tg_const (Jv (t:=t) h λς' h'=>tgs_const h')
section
variable {T:Vd}{k:Nat}{X:Cx}{c:pc}
theorem xz  : ∀ts hs env ,(ug (Ik c ts hs) env).length=Nr ts/\(ug (Ik c ts hs) env).findIdx? (·.1)=la
 |.nil,_,_=>⟨rfl,rfl⟩
 |.cons t ts,hs,env=>by
  obtain⟨y,z⟩:=xz ts hs.tail env;have e:ug (Ik c (.cons t ts) hs) env=(ia,Ec (unTg c t (hd hs)) env)::ug (Ik c ts hs.tail) env:=by cases t<;>rfl
  rw[e];exact⟨by simp[y,Nr],by simp_all⟩
def Cok.nm   (C:Cok T k X c)(h:decide (i<c.N.length)=da):X.N[i]?=ca (ac c i):=by rw[C.hN];exact Kr h
mutual
theorem ao (C:Cok T k X c):∀(t:Tg) (h:Ia),okTg c t=da->PG X (unTg c t h) (lG X.K (Qc t))
 |.n _,_,q=>let s:=C.store (ba q).2;u_tn (by rw[C.hN];exact C.nd) (C.nm (ba q).1) s.1 s.2
 |.t ts,h,q=>u_tt C.calm (sTgs C ts (cl h) q) (xz ts _ X.env).1 (xz ts _ X.env).2 λy z k q=>pF q
theorem sTgs (C:Cok T k X c):∀(ts:Uh) (hs:List Ia),ny c ts=da->Ci X (Ik c ts hs) (Dr X.K (tgsU ts))
 |.nil,_,_=>rN
 |.cons t ts,hs,q=>qN (ao C t (hd hs) (ba q).1) (sTgs C ts hs.tail (ba q).2) (by cases t<;>rfl)
end
def EB  (X:Cx)(J:St):XK:=λz I F=>∀(y:List (Aa×Obj)) (ea:Aa) (s':Da),La X y J F s'->Lies X.s₀.heap.objs.size X.pn F s'.heap ea z I->X.xe (.ref ea) s'
def jF        {J:St}(F:FnOk X.prog X.w X.K X.mg X.base (ed X.prog X.w) j f fd ps sp)(hr:Room j X.A)(L:Binds X.K fd ps [])
  (I:La X pins J H s) (r:Vals vs us) (h:sp vs H Q (EB X J)):wpAny (Fa X.prog X.w) X.A (call (.ref f) us) (EP X pins J Q) X.xe s:=by
 have O:(us++[]).length=ps.length:=by rw[Li,<- r.length];exact F.len _ _ _ _ h
 have y:=L s us I.kIn O;rw[Li]at y;refine Ms (Qp (F.run X.A X.stack s H ⟨us,[]⟩ us vs Q (EB X J) hr I.env0 y r h) λr s' z=>?_);cases r with
 |error e=>
  obtain⟨Z,H',R,dx,rfl,Y,l,q⟩:=ed.back I z;exact q pins Z s' Y l
 |ok fl=>
  cases fl with
  |ret u=>exact I.after z
  |next=>exact Qh z
  |brk=>exact Qh z
  |cont=>exact Qh z
def lF         {E:KX}(r:Eb X.K H us vs)(O:HR X.K H G)(h:Ta T k n us G Q E)(L:LV X H G Q Q0)(lx:LX X σ H G E):Gg X.K (Ta T k n) vs H Q0 (EB X σ):=
 ⟨us,G,Q,E,r,O,h,L,λx Y Z C J F I f q y z s' R l=>lx y (.ref z) s' x Y Z R ⟨z,C,J,rfl,l,F⟩ I f q⟩
def VP         (C:Cok T k X c)(hd:T.funs[n]?=ca d)(hx:d.name=x)(hg:Ie c x=da)(ha:PA X (e::es) (lA X ts))
  (he:uc (e::es) X.env=(ia,lb e X.env)::uc es X.env) (L:(Tb pos (uc es X.env)).any (·.1)=ia) :
  PE X (.Call (.Name x p) (e::es) [] pos) (lE X λz G Q E=>ts z G (λus G1=>Ta T k n us G1 Q E) E):=by
 obtain⟨f,fd,F,hm,hk,hb⟩:=C.fns n d hd;obtain⟨g1,g2⟩:=C.gl hg;rw[hx]at hm;intro y s O H Q0 I ⟨z,G,Q,E,hς,hG,h,lv,lx⟩;refine rl (jp I g1 hm ?_ g2);have h':lA X ts O H λJ R=>Gg X.K (Ta T k n) J R Q0 (EB X O):=⟨z,G,_,E,hς,hG,h,λus J G1 R rs Y Z h1=>lF rs Y h1 (lv.fr Z) (lx.fr Z),lx⟩;refine UB (h₀:=X.base) I.ok.mod.kin hk (Db (ha pos y s O H _ I h') λus s1 ⟨J,R,I1,r,q⟩=>⟨I1.kIn,?_⟩) he L;exact jF F C.room2 hb I1 r q
def WR      (C:Cok T k X c)(hd:T.funs[n]?=ca d)(R:d.name=x)(Y:Ie c x=da) :
  PE X (.Call (.Name x p) [] [] pos) (lE X λ_ G Q E=>Ta T k n [] G Q E):=by
 obtain⟨f,fd,F,z,hk,L⟩:=C.fns n d hd;obtain⟨J,O⟩:=C.gl Y;rw[R]at z;intro y s Z H Q0 I ⟨ς,G,Q,E,hς,hG,h,lv,lx⟩;refine rl (jp I J z ?_ O);exact PySem.W.callWith_K0 I.kIn hk (jF (us:=[]) (vs:=[]) F C.room2 L I .nil (lF (show Eb X.K H [] []from rfl) hG h lv lx))
def Cok.comp     (C:Cok T k X c)(h:cOkS c N pick scope=da):CScope X N pick scope/\∀cl A s₀ H₀ J,Cok T k (Xd X N scope cl A s₀ H₀ J) ⟨N,scope.names⟩:=by
 unfold cOkS at h;simp only[Lc,decide_eq_true_eq]at h;obtain⟨⟨⟨⟨⟨⟨R,h2⟩,h3⟩,h4⟩,h5⟩,Z⟩,L⟩:=h;have F:∀y∈scope.names,y.2=.cell->scope.names.lookup y.1=ca .cell:=λy I hc=>by
  grind
 refine⟨⟨R,F,λy I hl=>?_,λy I Y=>?_,by lia,λi j x e1 e2=>?_⟩,λcl A s₀ H₀ J=>?_⟩
 ·grind
 ·have:=Qa.mp h4 y I;rw[Y]at this;simp only[bne_self_eq_false,GB,Lc,Bl,beq_iff_eq]at this;refine⟨this.1,?_⟩;rcases this.2 with z|z
  ·exact .inl (C.cel _ z).1
  ·exact C.fre _ z
 ·have O:(N.zip pick)[i]?=ca (x,ca j):=by rw[fc];exact⟨e1,e2⟩
  have:=Qa.mp Z _ (Ze O);rw[C.hN]
  lia
 ·refine⟨rfl,L,λx z=>?_,λx z=>?_,λx z=>?_,λx z=>?_,C.room,C.calm,Wj.never,C.blt,C.fns,C.gls,C.room2,C.cls,C.mgK⟩
  ·exact NA (by decide) (eq_of_beq z)
  ·exact⟨NA (by decide) (eq_of_beq z),z⟩
  ·exact BJ (eq_of_beq z)
  ·exact TW (eq_of_beq z)
end
end Z

namespace Z
open PySem L2

def HR.newX  (h:HR K H G)(e:H p=la):HR K (upd H p (.xd l)) G:=⟨λa o q=>by
 have m:=h a o q;obtain⟨F,z⟩:=m.there;exact m.keep (Ac (Kg z e)) (TS.new e),h.tab.new e⟩
def HR.xdNone  (h:HR K H G)(e:H a=ca (.xd l)):G a=la:=by
 cases q:G a with
 |none=>rfl
 |some o=>
  have m:=h a o q;cases o with
  |lst z=>obtain⟨_,F,_⟩:=m;lia
  |fro z=>obtain⟨_,_,F,_⟩:=m;lia
  |dK z=>obtain⟨_,F,_⟩:=m;lia
  |dT z=>obtain⟨_,F,_⟩:=m;lia
  |frd _ z=>obtain⟨_,F,_⟩:=m;lia
  |frk _ z=>obtain⟨_,F,_⟩:=m;lia
def XD.fr    (h:XD K H C dx x)(F:HR K H G)(f:Fr H G H' G'):XD K H' C dx x:=by
 obtain⟨L,J,I,l,z,O,r⟩:=h;exact⟨L,J,I,l,(f dx _ z (F.xdNone z)).1,O,r.ts (f.ts F)⟩
def FT  : ∀k<6,∀f∈clsF k,f∈fldN:=by decide +kernel
def WS   k:∀f∈clsF k,f∈fldN:=by
 by_cases h:k<6
 ·exact FT k h
 ·intro f y;have:clsF k=[]:=by
   unfold clsF;rw[List.getD_eq_getElem?_getD,cC (by show clsA.length<=k;simp only[clsA,pj,Mn];lia)];rfl
  simp_all
def BF  : ∀i<6,∀j<6,clsN i=clsN j->i=j:=by decide +kernel
def GT  : ∀i<6,1<=i->clsN i ≠ "PlanError" := by decide +kernel
section
variable {T:Vd}{k:Nat}{X:Cx}{c:pc}
def Cv    (h:Hi cs c n=da):1<=n/\n<6/\n∈cs/\Ie c (clsN n)=da:=by
 unfold Hi at h
 simp_all
def s_raise       (C:Cok T k X c)(hn:Hi T.cs c n=da)(ha:PA X (e::es) (lA X ts))(he:uc (e::es) X.env=(ia,lb e X.env)::uc es X.env)(Y:(Tb cpos (uc es X.env)).any (·.1)=ia) :
  PS X (.Raise (ca (.Call (.Name (clsN n) p) (e::es) [] cpos)) la pos) (lS X λD J G=>ts J G (λus z=>us.length=(clsF n).length/\D.ex ⟨n,us⟩ J z) λx z=>D.ex x J z):=by
 obtain⟨Z,n2,n3,n4⟩:=Cv hn;obtain⟨Ca,cl⟩:=C.cls n n3 Z;obtain⟨g1,g2⟩:=C.gl n4;refine(EU (k:=k) cl (WS n) C.room2 g1 (C.mgK _ _ cl.m) ha g2 he Y).imp λD σ H ⟨De,J,G,y,R,h,ld⟩=>?_;refine⟨J,G,_,_,y,R,h,λus vs z H1 rs F f1 h1=>?_,ld.lx y R⟩;have hl:vs.length=(clsF n).length:=rs.length.symm.trans h1.1;refine⟨hl,λL ea dx s' hd I l=>?_⟩;have O:Fr H1 z (upd H1 dx (.xd ((clsF n).zip vs))) z:=Fr.new hd;refine ld.ex L (.ref ea) s' ⟨n,us⟩ J σ z _ I ((y.ts (f1.ts R)).ts (O.ts F)) ⟨ea,Ca,dx,rfl,l,Z,n2,cl,_,Xe,?_,?_⟩ (F.newX hd) (f1.trans O) h1.2
 ·exact eL (by lia)
 ·rw[List.map_snd_zip (by lia)]
  exact rs.ts (O.ts F)
end
structure HC (T:Vd)(X:Cx)(c:pc)(n:Nat)(ea C dx:Aa)(x:XV):Prop where
 hN:X.N=c.N
 nd:c.N.Nodup
 loc:∀y,kd c y .local=da->X.env.scope.names.lookup y=ca .local
 cel:∀y,kd c y .cell=da->X.env.scope.names.lookup y=ca .cell/\X.fn y=da
 fre:∀y,kd c y .free=da->X.env.scope.names.lookup y=ca .cell\/X.env.scope.names.lookup y=ca .free
 glb:∀y,kd c y .globalImplicit=da->Gl X y
 blt:∀y∈Qj,X.mg y=la
 cls:∀n∈T.cs,1<=n->∃C,XCls X.K (gK X.K) (clsN n) (clsF n) C
 me:XCls X.K (gK X.K) (clsN x.c) (clsF x.c) C
 lo:1<=x.c
 hi:x.c<6
 pin:XPin X ea C dx
 mgK:∀y v,gK X.K y=ca v->X.mg y=ca v
 en:n<c.N.length/\kd c (ac c n) .local=da/\(ac c n==("__debug__" : Str))=ia/\(ac c n==("__classdict__" : Str))=ia
structure Bg (X:Cx)(n:Nat)(ea C dx:Aa)(x:XV)(σ:St)(H:Hp)(ς:Sg)(G:Gp):Prop where
 sr:SR X.K H ς σ
 hr:HR X.K H G
 en:σ[n]?=ca (ca (.ref ea))
 xd:XD X.K H C dx x
def hB  (X:Cx)(n:Nat)(I C F:Aa)(x:XV)(f:Sg->Option Bool):TE:=λJ H Q=>∃z G b,Bg X n I C F x J H z G/\f z=ca b/\∀y,HR X.K y G->Fr H G y G->Q (.bl b) y
def hT  (X:Cx)(n:Nat)(I C F:Aa)(x:XV)(f:Sg->Option Bool):TT:=λJ H Q=>∃z G b,Bg X n I C F x J H z G/\f z=ca b/\∀y,HR X.K y G->Fr H G y G->Q b y
section
variable {T:Vd}{X:Cx}{c:pc}{n:Nat}{ea C dx:Aa}{x:XV}
def Bg.fr      (h:Bg X n ea C dx x σ H z G)(hr:HR X.K H' G')(f:Fr H G H' G'):Bg X n ea C dx x σ H' z G':=⟨h.sr.ts (f.ts h.hr),hr,h.en,h.xd.fr h.hr f⟩
def HC.pe  (h:HC T X c n ea C dx x):PE X (.Name (ac c n) p) (tVar n):=by
 obtain⟨I,z,J,F⟩:=h.en;exact Ji (by rw[h.hN];exact Kr (decide_eq_true I)) (.inl (h.loc _ z)) J F
def HC.gl  (h:HC T X c n ea C dx x)(v:Ie c y=da):Gl X y/\(y==("__debug__" : Str))=ia:=by
 unfold Ie at v;rw[Lc]at v;exact⟨h.glb y v.1,by lia⟩
def HC.ownC  (h:HC T X c n ea C dx x)(q:Hi T.cs c m=da):∃z,XCls X.K (gK X.K) (clsN m) (clsF m) z/\clsN m ≠ "PlanError" /\ ∀p,PE X (.Name (clsN m) p) (tC (.ref z)):=by
 obtain⟨F,R,O,L⟩:=Cv q;obtain⟨z,cl⟩:=h.cls m O F;obtain⟨I,J⟩:=h.gl L;exact⟨z,cl,GT m R F,λp=>Zy I (h.mgK _ _ cl.m) rfl J⟩
theorem HC.pcs  (h:HC T X c n ea C dx x):∀{z },z.all (Hi T.cs c)=da->∀hs ,∃(xs:List Str) (F:List Aa),xs=z.map clsN/\XMany X (gK X.K) xs F/\F.length=z.length/\PA X (unCs z hs) (λ_ H Q=>Q (F.map .ref) H)
 |[],_,_=>⟨[],[],rfl,.nil,rfl,Mm⟩
 |m::z,q,hs=>by
  simp only[Bh,Lc]at q;obtain⟨J,cl,I,pe⟩:=h.ownC q.1;obtain⟨xs,F,e,mn,L,O⟩:=h.pcs q.2 hs.tail;subst e;exact⟨_,J::F,rfl,.cons cl I mn,by simp[L],Jh (pe _) O⟩
def Sy  : rj "isinstance" = ca (.builtin "isinstance"):=ML
def HC.isiT  (h:HC T X c n ea C dx x)(g1:Gl X "isinstance")(g2:(("isinstance" : Str)==("__debug__" : Str))=ia)(mn:XMany X (gK X.K) xs J)(pa:PA X es (λ_ H Q=>Q (J.map .ref) H)) :
  PE X (.Call (.Name "isinstance" p3) [.Name (ac c n) O,.Tuple es F z] [] Y) (λR H Q=>R[n]?=ca (ca (.ref ea))/\J.length<=8/\∀p,H p=la->(∃l,upd H p (.tup (J.map .ref)) dx=ca (.xd l))/\Q (.bl (xs.contains (clsN x.c))) (upd H p (.tup (J.map .ref)))):=by
 have L:X.mg "isinstance" = la:=h.blt _ (by decide)
 have a1:PA X [.Tuple es F z] _:=Jh (My pa) Mm (Ef rfl _ _);have a2:PA X [.Name (ac c n) O,.Tuple es F z] _:=Jh (h.pe) a1 (Ef rfl _ _);have Z:=pU h.me mn h.pin;have hh:uc [.Name (ac c n) O,.Tuple es F z] X.env=(ia,lb (.Name (ac c n) O) X.env)::uc [.Tuple es F z] X.env:=Ef rfl _ _;have I:(Tb Y (uc [.Tuple es F z] X.env)).any (·.1)=ia:=by rw[Ef rfl];rfl
 refine PE.imp (Pv (p:=p3) (pos:=Y) Z g1 L Sy a2 (by decide) g2 hh I) λR H Q ⟨e1,e2,k⟩=>?_
 refine⟨_,e1,?_,λp I=>⟨p,rfl,Xe,(k p I).1,(k p I).2⟩⟩;rw[Bc,Pi];lia
def HC.lit  (h:HC T X c n ea C dx x)(q:okHL T.cs c l=da) hx:PE X (unHL c n l hx) (hB X n ea C dx x λL=>litH x L l)/\PT X (unHL c n l hx) (hT X n ea C dx x λL=>litH x L l):=by
 have O:PE X (unHL c n l hx) (hB X n ea C dx x λL=>litH x L l):=by
  have xa:X.mg "isinstance" = la:=h.blt _ (by decide)
  have za:X.mg "ValueError" = la:=h.blt _ (by decide)
  cases l with
  |v i=>
   have J:((decide (i<c.N.length)&&(kd c (ac c i) .local||kd c (ac c i) .cell||kd c (ac c i) .free) && !(ac c i==("__debug__" : Str)) && !(ac c i==("__classdict__" : Str))))=da:=q;obtain⟨⟨⟨h1,h2⟩,h3⟩,h4⟩:=(⟨⟨ba (ba (ba J).1).1,(ba (ba J).1).2⟩,(ba J).2⟩:((_/\_)/\_)/\_);have vis:Ai X.env.scope (ac c i):=by
    simp only[Bl]at h2;rcases h2 with(z|z)|z
    ·exact .inl (h.loc _ z)
    ·exact .inr (.inl (h.cel _ z).1)
    ·exact(h.fre _ z).elim (λz=>.inr (.inl z)) λz=>.inr (.inr z)
   refine(Ji (by rw[h.hN];exact Kr h1) vis (bn h3) (bn h4)).imp λσ H Q ⟨L,G,b,F,e,k⟩=>?_
   have e':(match L[i]? with|some (ca (U.bl b))=>ca b|_=>la)=ca b:=e
   split at e'
   ·rename_i b' Y;cases e';obtain⟨v,ev,r⟩:=F.sr.2 i _ Y;cases r;exact⟨_,ev,k H F.hr (Fr.refl _ _)⟩
   lia
  |isiV=>
   have J:(Ie c "isinstance" && Ie c "ValueError")=da:=q;obtain⟨R,Z⟩:=h.gl (ba J).1;obtain⟨g3,g4⟩:=h.gl (ba J).2;refine(Pv (qU h.me h.pin) R xa Sy (Jh h.pe (Jh (xF (v:=.ty "ValueError") g3 za (by decide +kernel) rfl (by decide) g4) Mm)) (by decide) Z rfl rfl).imp λσ H Q ⟨L,G,b,F,e,k⟩=>?_
   cases(show da=b from Te e);obtain⟨_,_,_,l,hl,_⟩:=F.xd;exact⟨_,F.en,rfl,⟨l,hl⟩,k H F.hr (Fr.refl _ _)⟩
  |is1 m=>
   have J:(Ie c "isinstance" && Hi T.cs c m)=da:=q;obtain⟨R,Z⟩:=h.gl (ba J).1;obtain⟨C',cl,np,pe⟩:=h.ownC (ba J).2;refine(Pv (nU h.me cl np h.pin) R xa Sy (Jh h.pe (Jh (pe _) Mm)) (by decide) Z rfl rfl).imp λσ H Q ⟨L,G,b,F,e,k⟩=>?_
   have Y:decide (x.c=m)=b:=Te e;have e2:decide (clsN x.c=clsN m)=b:=by
    rw[<- Y];obtain⟨_,m2,_⟩:=Cv (ba J).2;by_cases z:x.c=m
    ·simp[z]
    ·have:clsN x.c≠clsN m:=λy=>z (BF _ h.hi _ m2 y)
     lia
   obtain⟨_,_,_,l,hl,_⟩:=F.xd;exact⟨_,F.en,rfl,⟨l,hl⟩,by rw[e2];exact k H F.hr (Fr.refl _ _)⟩
  |isi ks=>
   have J:(Ie c "isinstance" && ks.all (Hi T.cs c)&&decide (ks.length<=8))=da:=q;obtain⟨R,Z⟩:=h.gl (ba (ba J).1).1;obtain⟨xs,Cs,ja,mn,ln,pa⟩:=h.pcs (ba (ba J).1).2 (cl (hd (cl hx).tail));refine PE.imp (h.isiT R Z mn pa) λσ H Q ⟨L,G,b,F,e,k⟩=>?_;have Y:ks.contains x.c=b:=Te e;have e2:xs.contains (clsN x.c)=b:=by
    rw[<- Y,ja];have all:∀m∈ks,m<6:=λm hm=>(Cv (Qa.mp (ba (ba J).1).2 m hm)).2.1;rw[ak];simp only[List.contains_iff_mem,Fb];constructor
    ·rintro⟨m,hm,em⟩;have:=BF _ (all m hm) _ h.hi em
     lia
    lia
   refine⟨F.en,?_,λp hp=>⟨?_,?_⟩⟩
   ·lia
   ·obtain⟨_,_,_,l,hl,_⟩:=(F.fr (F.hr.newT hp) (Fr.new hp)).xd;exact⟨l,hl⟩
   ·rw[e2];exact k _ (F.hr.newT hp) (Fr.new hp)
 refine⟨O,?_⟩;have tr:∀I,ce (unHL c n l hx) X.env I=(do let v <- I;be (unHL c n l hx).pos;Wb [v] (Bj v)):=by
  intro I;cases l<;>rfl
 refine(wQ O tr).imp λσ H Q ⟨L,G,b,F,e,k⟩=>?_;exact⟨L,G,b,F,e,λH' a f=>⟨b,rfl,k H' a f⟩⟩
def HC.litN  (h:HC T X c n ea C dx x)(q:okHL T.cs c p.2=da) hx:PE X (Im c n p hx) (hB X n ea C dx x λz=>lit1 x z p)/\PT X (Im c n p hx) (hT X n ea C dx x λz=>lit1 x z p):=by
 obtain⟨O,l⟩:=p;cases O with
 |false=>
  obtain⟨J,I⟩:=h.lit q hx;refine⟨PE.imp J λL H Q ⟨z,G,b,F,e,k⟩=>⟨z,G,b,F,?_,k⟩,PT.imp I λL H Q ⟨z,G,b,F,e,k⟩=>⟨z,G,b,F,?_,k⟩⟩ <;>
  ·unfold lit1 at e
   lia
 |true=>
  obtain⟨J,I⟩:=h.lit q (c0 hx);refine⟨PE.imp (lQ J) λL H Q ⟨z,G,b,F,e,k⟩=>⟨z,G,!b,F,?_,λR a f=>⟨!b,rfl,by simp_all⟩⟩,PT.imp (oE I) λL H Q ⟨z,G,b,F,e,k⟩=>⟨z,G,!b,F,?_,λR a f=>by simp_all⟩⟩ <;>
  ·unfold lit1 at e;dsimp only at e;split at e
   ·simp_all
   lia
theorem HC.conds  (h : HC T X c n ea C dx x) k : ∀ as (a : Bool × HL) hx hs pos , okHL T.cs c a.2 = da -> Lm T.cs c as = da ->
    PE X (.BoolOp (zp k) (Im c n a hx :: vv c n as hs) pos) (hB X n ea C dx x λz => Qg x z k a as) /\ PW X (.BoolOp (zp k) (Im c n a hx :: vv c n as hs) pos) (hT X n ea C dx x λz => Qg x z k a as)
  | [], a, hx, hs, pos, q, _ => by
    obtain ⟨h1, Z⟩ := h.litN q hx
    cases k with
    | true => exact ⟨nv h1, pw_and1 Z⟩
    | false => exact ⟨nv h1, pw_or1 Z⟩
  | b :: r, a, hx, hs, pos, q, qs => by
    unfold Lm at qs
    simp only [Bh, Lc] at qs
    obtain ⟨h1, Z⟩ := h.litN q hx
    obtain ⟨r1, r2⟩ := h.conds k r b (hd hs) hs.tail pos qs.1 qs.2
    have Y : ∀ {z : Sg} {t F : Bool}, lit1 x z a = ca t -> Qg x z k a (b :: r) = ca F -> (if t = k then Qg x z k b r else ca t) = ca F := λ{z t F} e1 e2 => by
      have e3 : (match lit1 x z a with | some t => if t = k then Qg x z k b r else ca t | none => la) = ca F := e2
      lia
    have J : ∀ {z : Sg} {F : Bool}, Qg x z k a (b :: r) = ca F -> ∃ t, lit1 x z a = ca t := λ{z F} e2 => by
      have e3 : (match lit1 x z a with | some t => if t = k then Qg x z k b r else ca t | none => la) = ca F := e2
      grind
    cases k with
    | true =>
      refine ⟨PE.imp (KQ h1 r1) λσ H Q ⟨z, G, F, L, e, kk⟩ => ?_, PW.imp (pw_and Z r2) λσ H Q ⟨z, G, F, L, e, kk⟩ => ?_⟩ <;>
      · obtain ⟨t, R⟩ := J e
        have e' := Y R e
        first
          | (refine ⟨z, G, t, L, R, λH' O f => ⟨t, rfl, ?_⟩⟩
             cases t with
             | true => exact ⟨z, G, F, L.fr O f, by lia, λI a b => kk I a (f.trans b)⟩
             | false => simp_all)
          | (refine ⟨z, G, t, L, R, λH' O f => ?_⟩
             cases t with
             | true => exact ⟨z, G, F, L.fr O f, by lia, λI a b => kk I a (f.trans b)⟩
             | false => simp_all)
    | false =>
      refine ⟨PE.imp (vO h1 r1) λσ H Q ⟨z, G, F, L, e, kk⟩ => ?_, PW.imp (pw_or Z r2) λσ H Q ⟨z, G, F, L, e, kk⟩ => ?_⟩ <;>
      · obtain ⟨t, R⟩ := J e
        have e' := Y R e
        first
          | (refine ⟨z, G, t, L, R, λH' O f => ⟨t, rfl, ?_⟩⟩
             cases t with
             | false => exact ⟨z, G, F, L.fr O f, by lia, λI a b => kk I a (f.trans b)⟩
             | true => simp_all)
          | (refine ⟨z, G, t, L, R, λH' O f => ?_⟩
             cases t with
             | false => exact ⟨z, G, F, L.fr O f, by lia, λI a b => kk I a (f.trans b)⟩
             | true => simp_all)
def HC.cond  (h:HC T X c n ea C dx x) k (a:Bool×HL) as hx (q:okHL T.cs c a.2=da)(I:Lm T.cs c as=da) :
  PE X (uv c n k a as hx) (hB X n ea C dx x λF=>Qg x F k a as)/\PT X (uv c n k a as hx) (hT X n ea C dx x λF=>Qg x F k a as):=by
 cases as with
 |nil=>exact h.litN q hx
 |cons b r=>let z:=h.conds k (b::r) a (hd (cl hx)) (cl hx).tail hx.pos q I;exact⟨z.1,z.2.pt⟩
def hV  (X:Cx)(n:Nat)(F C z:Aa)(x:XV)(f:Sg->Gp->K1->Prop):TE:=λI H J=>∃y G Q,Bg X n F C z x I H y G/\f y G Q/\LV X H G Q J
theorem rF      : ∀{l:List (Str×V)} {us },Eb K H us (l.map (·.2))->((l.map (·.1)).zip us).lookup f=ca u->∃v,l.lookup f=ca v/\RU K H u v
 |[],us,_,e=>by simp at e
 |(y,v)::l,[],r,e=>by simp at e
 |(y,v)::l,w::us,r,e=>by
  obtain⟨I,R,F,r1,J⟩:=r;simp only[af,AK]at F;obtain⟨rfl,rfl⟩:=F;simp only[af,WK,oi]at e ⊢;split at e
  ·lia
  ·rename_i z;obtain⟨I,O,L⟩:=rF J e
   simp_all
def XD.get      (F:XD K H C dx x)(e:Vk x (.att f)=ca u):∃l v,H dx=ca (.xd l)/\l.lookup f=ca v/\RU K H u v:=by
 obtain⟨_,_,_,l,J,I,r⟩:=F;have z:((clsF x.c).zip x.fs).lookup f=ca u:=e;rw[<- I]at z;obtain⟨v,O,L⟩:=rF r z
 simp_all
def HC.at  (h:HC T X c n ea C dx x)(q:okHA a=da) hx:PE X (unHA c n a hx) (λI H Y=>∃F G u,Bg X n ea C dx x I H F G/\Vk x a=ca u/\∀v,RU X.K H u v->Y v H):=by
 cases a with
 |str y=>exact PE.imp mE λI H Q ⟨F,G,u,z,e,k⟩=>by cases e;exact k _ rfl
 |att f=>
  have R:f∈fldN:=by simpa[okHA]using q
  refine PE.imp (SS h.me h.pin R h.pe rfl) λI H Q ⟨F,G,u,z,e,k⟩=>?_;obtain⟨l,v,J,O,L⟩:=z.xd.get e;exact⟨_,z.en,rfl,l,v,J,O,k v L⟩
def uR   a hx es env:uc (unHA c n a hx::es) env=(ia,lb (unHA c n a hx) env)::uc es env:=by cases a<;>rfl
theorem HC.ats  (h:HC T X c n ea C dx x):∀{as } (_:as.all okHA=da) hs ,PA X (Xu c n as hs) (λJ H L=>∃F G us,Bg X n ea C dx x J H F G/\atsH x as=ca us/\∀vs,Eb X.K H us vs->L vs H)
 |[],_,_=>λpos z s J H L I ⟨F,G,us,O,e,k⟩=>by cases e;exact Mm pos z s J H L I (k [] rfl)
 |a::r,q,hs=>by
  simp only[Bh,Lc]at q;refine PA.imp (Jh (h.at q.1 (hd hs)) (h.ats q.2 hs.tail) (uR a _ _ _)) λJ H L ⟨F,G,us,O,e,k⟩=>?_;have Z:(match Vk x a,atsH x r with|some u,ca us=>ca (u::us)|_,_=>la)=ca us:=e
  split at Z
  ·rename_i u R e1 e2;cases Z;exact⟨F,G,u,O,e1,λv rv=>⟨F,G,R,O,e2,λvs Y=>k (v::vs) ⟨v,vs,rfl,rv,Y⟩⟩⟩
  lia
theorem kz  : ∀{as } {us },atsH x as=ca us->us.length=as.length
 |[],us,e=>by cases e;rfl
 |a::r,us,e=>by
  have y:(match Vk x a,atsH x r with|some u,ca us=>ca (u::us)|_,_=>la)=ca us:=e
  split at y
  ·rename_i u z I F;cases y;simp[kz F]
  lia
def HC.val  (h:HC T X c n ea C dx x)(q:okHV T.cs c e=da) hx:PE X (unHV c n e hx) (hV X n ea C dx x λJ G Q=>yp x J e G Q):=by
 cases e with
 |cond k a I=>
  have R:(okHL T.cs c a.2&&Lm T.cs c I)=da:=q;refine PE.imp (h.cond k a I hx (ba R).1 (ba R).2).1 λσ H Q0 ⟨J,G,Q,z,e,O⟩=>?_;have F:(match Qg x J k a I with|some b=>Q (.bl b) G|none=>False):=e
  split at F
  ·rename_i b eb;exact⟨J,G,b,z,eb,λH' hr f=>O (.bl b) (.bl b) G H' rfl hr f F⟩
  lia
 |one a=>
  refine PE.imp (h.at (show okHA a=da from q) hx) λσ H Q0 ⟨J,G,Q,z,e,O⟩=>?_;have F:(match Vk x a with|some u=>Q u G|none=>False):=e
  split at F
  ·rename_i u Y;exact⟨J,G,u,z,Y,λv rv=>O.here rv z.hr F⟩
  lia
 |bl b=>exact PE.imp MD λσ H Q0 ⟨J,G,Q,z,e,O⟩=>O.bl z.hr e
 |tup I=>
  have R:(I.all okHA&&decide (I.length<=8))=da:=q;refine PE.imp (My (h.ats (ba R).1 (cl hx))) λσ H Q0 ⟨J,G,Q,z,e,O⟩=>?_;have F:(match atsH x I with|some Z=>Q (.tup Z) G|none=>False):=e
  split at F
  ·rename_i Z Y;refine⟨J,G,Z,z,Y,λvs L=>⟨?_,λp hp=>O.tup hp L z.hr F⟩⟩;have:=of_decide_eq_true (ba R).2;rw[<- L.length,kz Y,Pi];lia
  lia
 |lst I=>
  have R:(I.all okHA&&decide (I.length<=8))=da:=q;refine PE.imp (kE (h.ats (ba R).1 (cl hx))) λσ H Q0 ⟨J,G,Q,z,e,O⟩=>?_;have F:(match atsH x I with|some Z=>newO G (.lst Z) Q|none=>False):=e
  split at F
  ·rename_i Z Y;refine⟨J,G,Z,z,Y,λvs L=>⟨?_,λp hp=>O.lst hp L z.hr F⟩⟩;have:=of_decide_eq_true (ba R).2;rw[<- L.length,kz Y,Pi];lia
  lia
def XE   e hx y p env l:sj [.Name y p] (unHV c n e hx) l env=pure ia/\li [.Name y p] (unHV c n e hx) env=pure la:=by
 cases e with
 |cond k a F=>
  cases F with
  |nil=>
   obtain⟨z,l⟩:=a;cases z<;>cases l<;>exact⟨rfl,rfl⟩
  |cons=>exact⟨rfl,rfl⟩
 |one a=>cases a<;>exact⟨rfl,rfl⟩
 |_=>exact⟨rfl,rfl⟩
def HC.store  (h:HC T X c n ea C dx x)(q:Fk c i=da):PG X (.Name (ac c i) p) (Er i):=by
 have z:(decide (i<c.N.length)&&(kd c (ac c i) .local||kd c (ac c i) .cell))=da:=q;have v:=(ba z).2;simp only[Bl]at v;rcases v with v|v
 ·exact az (by rw[h.hN];exact h.nd) (by rw[h.hN];exact Kr (ba z).1) (.inl (h.loc _ v)) (.inr (h.loc _ v))
 ·exact az (by rw[h.hN];exact h.nd) (by rw[h.hN];exact Kr (ba z).1) (.inr (h.cel _ v).1) (.inl (h.cel _ v).2)
def Bg.set         (h:Bg X n ea C dx x σ H F G)(z:i≠n)(r:RU X.K H u v):Bg X n ea C dx x (σ.set i (ca v)) H (F.set i (ca u)) G:=
 ⟨h.sr.set r i,h.hr,by rw[uj z];exact h.en,h.xd⟩
def HC.asg  (h:HC T X c n ea C dx x)(qi:Fk c i=da)(Z:i≠n)(qe:okHV T.cs c e=da) st :
  PS X (xy c n i e st) (λD O H=>∃(z:Sg) (G:Gp) (k:Sg->Gp->Prop),Bg X n ea C dx x O H z G/\yp x z e G (λu R=>k (z.set i (ca u)) R)/\∀I F G' H',Bg X n ea C dx x F H' I G'->Fr H G H' G'->k I G'->D.nx F H'):=by
 refine PS.imp (Iy (h.val qe (q0 st)) (h.store qi) (XE e _ _ _ _ _).1 (XE e _ _ _ _ 0).2 rfl) λD O H ⟨z,G,k,L,hv,J⟩=>?_;exact⟨z,G,_,L,hv,λu v G' H' r Y f q=>J _ _ G' H' ((L.fr Y f).set Z r) f q⟩
def hS  (X:Cx)(n:Nat)(L C J:Aa)(x:XV)(hs:List HS):L2.TS:=λD R H=>∃O G k,Bg X n L C J x R H O G/\rh x hs O G k/\∀z y I F,Bg X n L C J x y F z I->Fr H G F I->k z I->D.nx y F
theorem HC.stmts  (h:HC T X c n ea C dx x):∀{hs } (_:hs.all (okHS T.cs c n)=da) sts ,Fd X (Hm c n hs sts) (hS X n ea C dx x hs)
 |[],_,_=>Fd.imp bz λD σ H ⟨I,G,k,R,q,J⟩=>J I σ G H R (Fr.refl _ _) q
 |.asg i e::r,q,sts=>by
  simp only[Bh,Lc]at q;have q1:(Fk c i&&decide (i≠n)&&okHV T.cs c e)=da:=q.1;refine Fd.imp (zz (h.asg (ba (ba q1).1).1 (of_decide_eq_true (ba (ba q1).1).2) (ba q1).2 (qh sts)) (h.stmts q.2 sts.tail)) λD σ H ⟨I,G,k,R,hq,J⟩=>?_;exact⟨I,G,λja G1=>rh x r ja G1 k,R,hq,λz F O Y L f q'=>⟨z,O,k,L,q',λxa za G2 H2 st2 f2 q2=>J xa za G2 H2 st2 (f.trans f2) q2⟩⟩
 |.ifa kk a as i e::r,q,sts=>by
  simp only[Bh,Lc]at q;have q1:(okHL T.cs c a.2&&Lm T.cs c as&&Fk c i&&decide (i≠n)&&okHV T.cs c e)=da:=q.1;have p1:=FD (pos:=(qh sts).pos) (h.cond kk a as (q0 (qh sts)) (ba (ba (ba (ba q1).1).1).1).1 (ba (ba (ba (ba q1).1).1).1).2).2 (rS (h.asg (ba (ba (ba q1).1).1).2 (of_decide_eq_true (ba (ba q1).1).2) (ba q1).2 (qh (qa (qh sts))))) bz;refine Fd.imp (zz p1 (h.stmts q.2 sts.tail)) λD σ H ⟨I,G,k,R,hq,J⟩=>?_;have va:∀z F O Y,Bg X n ea C dx x F Y z O->Fr H G Y O->rh x r z O k->hS X n ea C dx x r D F Y:=λz F O Y L f q'=>⟨z,O,k,L,q',λxa za G2 H2 st2 f2 q2=>J xa za G2 H2 st2 (f.trans f2) q2⟩;have Z:(match Qg x I kk a as with|some da=>yp x I e G λu G1=>rh x r (I.set i (ca u)) G1 k|some ia=>rh x r I G k|none=>False):=hq
  split at Z
  ·rename_i ec;refine⟨I,G,da,R,ec,λY hr f=>?_⟩;refine iteT ?_;exact⟨I,G,λja G1=>rh x r ja G1 k,R.fr hr f,Z,λz F O ya L f' q'=>va z F O ya L (f.trans f') q'⟩
  ·rename_i ec;refine⟨I,G,ia,R,ec,λY hr f=>?_⟩;refine iteF ?_;exact va I σ G Y (R.fr hr f) f Z
  lia
end
def SR.hide      (h:SR K H F σ) n o:SR K H (F.set n la) (σ.set n o):=by
 refine⟨by simp[h.1],λi u e=>?_⟩
 by_cases z:i=n
 ·subst z;rw[List.getElem?_set]at e;simp only[if_true]at e;split at e<;>cases e
 ·rw[uj (Ua z)]at e ⊢;exact h.2 i u e

def s_try  {T: Vd}{sts:List Pa}(C:bh T k X c)(hm:decide (m=0)=da)(hg:Ie c (clsN m)=da)(hn:decide (n<c.N.length)=da)(hl:kd c (ac c n) .local=da)(kc:(ac c n==("__debug__" : Str))=ia)(yb:(ac c n==("__classdict__" : Str))=ia)
  (qc:hs.isEmpty=ia) (jd:hs.all (okHS T.cs c n)=da) (hb:∀pins xe ,Wj (Fa X.prog X.w) X.A X.env xe->Fd (X.tryC pins xe) b (lS (X.tryC pins xe) tb)) :
  PS X (.Try b [.ExceptHandler (ca (.Name (clsN m) pt)) (ca (ac c n)) (Hm c n hs sts) ph] [] [] pos)
   (lS X λD ς G=>tb { D with ex:=λx vd G1=>(m=0\/x.c=m)/\rh x hs (vd.set n la) G1 λza G2=>D.nx (za.set n la) G2 } ς G):=by
 intro pins s σ H D I ⟨De,ς,G,hς,hG,h0,ld⟩;obtain⟨s0,sr,xb⟩:∃s0 sr,Hm c n hs sts=s0::sr:=by
  cases hs with
  |nil=>cases qc
  |cons a r=>exact⟨_,_,rfl⟩
 have nd:X.N.Nodup:=by rw[C.hN];exact C.nd
 have hi:X.N[n]?=ca (ac c n):=C.toCok.nm hn;have ya:=C.loc _ hl;obtain⟨qd,vc⟩:=C.toCok.gl hg
 let Y:Ba->Da->Prop:=λe ka=>wpAny (Fa X.prog X.w) X.A (Bw e X.env) (λ_ R=>wpAny (Fa X.prog X.w) X.A (Ip e la) (λ_ Z=>wpAny (Fa X.prog X.w) X.A (handleBy e X.env [.ExceptHandler (ca (.Name (clsN m) pt)) (ca (ac c n)) (Hm c n hs sts) ph]) (SP X pins D) X.xe Z) X.xe R) X.xe ka
 have zb:∀(xa:List (Aa×Obj)) (e:Ba) (s':Da) (x:XV) ja F G' L,La (X.tryC pins Y) xa F L s'->SR X.K L ja F->GC (X.tryC pins Y) L s' e x->HR X.K L G'->Fr H G L G'->((m=0\/x.c=m)/\rh x hs (ja.set n la) G' λza G2=>De.nx (za.set n la) G2)->Y e s':=by
  intro xa e s' x ja F G' L I' jc jb zc f' ⟨hmx,hq⟩;obtain⟨O,C0,dx,rfl,l,xd⟩:=jb;have kb:=xd;obtain⟨x1,x2,xc,lx,wd,yd,rx⟩:=kb;have I0:La (X.tryC pins Y) [] F L s':=I'.pins_of λp hp=>absurd hp (by simp)
  refine Ny (X:=X.tryC pins Y) (E:=X.xe) I0 C.stk.1 C.stk.2 l λh' J l'=>?_;refine wpAny_handleBy_cons ?_ (by intro z;cases z)
  refine codeAny_handlers_test ?_;have J':La ((X.tryC pins Y).inH (.ref O) []) [] F L { s' with heap:=h' }:=J.hIn λq hq=>absurd hq (by simp)
  have zd:∀s2:Da,s2={ s' with heap:=h' }->codeAny (Fa X.prog X.w) (X.A.mark (ca (.ref O))) (Fj.handlers (.ref O) [.ExceptHandler la (ca (ac c n)) (Hm c n hs sts) ph] X.env)
    (λr R=>match r with
     |.ok f=>wpAny (Fa X.prog X.w) X.A (do Cp X.env (ac c n) .none;unbindBehindTheSuite X.env (ac c n) ph) (λ_ Z=>SP X pins D f Z) X.xe R
     |.error y=>cameBackBy (Fa X.prog X.w) X.A X.env X.xe y R) s2:=by
   intro s2 es2;subst es2;rw[xb];refine codeAny_handlers_suite_as ?_;refine uW (X:=X.tryC pins Y) J l' λh2 J2 l2=>?_;obtain⟨oe,g1,g2,g3,⟨vs,g4⟩,g5⟩:=l2.pinned J2;have J3:La ((X.tryC pins Y).inH (.ref O) [(O,oe)]) [] F L { s' with heap:=h2 }:=J2.hIn g5
   refine Wm (X:=(X.tryC pins Y).inH (.ref O) [(O,oe)]) (v:=.ref O) J3 nd hi (.inl ya) rfl (λs3 J4=>?_) (.inr ya);have hc:HC T ((X.tryC pins Y).inH (.ref O) [(O,oe)]) c n O C0 dx x:=⟨C.hN,C.nd,C.loc,C.cel,C.fre,C.glb,C.blt,C.cls,xc,x1,x2,⟨oe,vs,by simp only[Cx.inH];simp_all,g2,g3,g4⟩,C.mgK,of_decide_eq_true hn,hl,kc,yb⟩
   have qe:n<F.length:=by
    have:=J3.len;rw[this];exact(Ka.mp hi).1
   have wc:Bg ((X.tryC pins Y).inH (.ref O) [(O,oe)]) n O C0 dx x (F.set n (ca (.ref O))) L (ja.set n la) G':=⟨jc.hide n _,zc,by simp_all,xd⟩
   rw[<- xb];refine Pe (hc.stmts jd sts [] s3 _ L ⟨λva H2=>D.nx (va.set n la) H2,λ_ _=>False,λ_ _=>False,λ_ _=>False⟩ J4 ⟨_,G',_,wc,hq,λza va G2 H2 st2 f2 q2=>?_⟩) (λfl s4 q4=>?_) λ_ _ z=>Qh z
   ·exact ld.nx _ _ G2 H2 (st2.sr.hide n la) st2.hr (f'.trans f2) q2
   ·cases fl with
    |next=>
     obtain⟨va,H2,J5,q5⟩:=q4;exact LU (X:=X.tryC pins Y) (J5.hOut J.ok) nd hi ya λs5 J6=>⟨va.set n la,H2,J6.tryOut,q5⟩
    |brk=>obtain⟨_,_,_,z⟩:=q4;lia
    |cont=>obtain⟨_,_,_,z⟩:=q4;lia
    |ret u=>obtain⟨_,_,_,_,_,z⟩:=q4;lia
  obtain⟨oe,vs,he,yc,_⟩:=l'.ob;by_cases m0:m=0
  ·obtain⟨D0,N0,fI,mN,mD,B,_⟩:=xc.ex;have vb:X.mg (clsN m)=ca (.ref D0):=by rw[m0];exact C.mgK _ _ B.m
   refine jp J' qd vb ?_ vc;refine xV (X:=X) xc B J'.kIn he yc ?_;exact zd _ rfl
  ·exact absurd (of_decide_eq_true hm) m0
 refine wpAny_Try_except (Pe (hb pins Y uL [] s σ H ⟨D.nx,D.rt,D.bk,D.ct⟩ I.tryIn ⟨_,ς,G,hς,hG,h0,⟨ld.nx,ld.rt,zb⟩⟩) (λfl s1 q1=>?_) λe s1 z=>z);cases fl with
 |next=>
  obtain⟨F,L,J,q⟩:=q1;exact gt ⟨F,L,J.tryOut,q⟩
 |brk=>obtain⟨F,L,J,q⟩:=q1;exact⟨F,L,J.tryOut,q⟩
 |cont=>obtain⟨F,L,J,q⟩:=q1;exact⟨F,L,J.tryOut,q⟩
 |ret u=>obtain⟨v,F,L,J,r,q⟩:=q1;exact⟨v,F,L,J.tryOut,r,q⟩
section
variable {T:Vd}{k:Nat}
def RQ   b:bltN b∈Qj:=by cases b<;>decide
def RP  : ∀n∈qF,rj (Yk n)=ca (.type n)/\Yk n∈Qj/\Yk n ≠ "__name__" := by decide +kernel
abbrev SE  (T:Vd)(k:Nat)(X:Cx)(c:pc)(y:E)(h:Ia):Prop:=PE X (bc T c y h) (lE X (Ra T.gs (Ta T k) y).1)/\PT X (bc T c y h) (lT X (Ra T.gs (Ta T k) y).2)
section
variable {X:Cx}{c:pc}
def gf    (h:PE X e (lE X t))(z:∀y,ce e X.env y=(do let v <- y;be e.pos;Wb [v] (Bj v))):PE X e (lE X t)/\PT X e (lT X (truT t)):=⟨h,pN h z⟩
def zQ   {rest:List Ia}(z:PE X a (lE X p.1)/\PT X a (lT X p.2))(y:PE X (.BoolOp .And (b::rest) pos) (lE X q.1)/\PW X (.BoolOp .And (b::rest) pos) (lT X q.2)) :
  PE X (.BoolOp .And (a::b::rest) pos) (lE X (comb da p q).1)/\PW X (.BoolOp .And (a::b::rest) pos) (lT X (comb da p q).2):=⟨bO z.1 y.1,UP z.2 y.2⟩
def PN   {rest:List Ia}(z:PE X a (lE X p.1)/\PT X a (lT X p.2))(y:PE X (.BoolOp .Or (b::rest) pos) (lE X q.1)/\PW X (.BoolOp .Or (b::rest) pos) (lT X q.2)) :
  PE X (.BoolOp .Or (a::b::rest) pos) (lE X (comb ia p q).1)/\PW X (.BoolOp .Or (a::b::rest) pos) (lT X (comb ia p q).2):=⟨u_or z.1 y.1,oN z.2 y.2⟩
def se_v    (C:Cok T k X c)(q:okE T c (.v i) h=da):SE T k X c (.v i) h:=gf (tN (C.nm (ba (ba (ba q).1).1).1) (C.vis (ba (ba (ba q).1).1).2) (bn (ba (ba q).1).2) (bn (ba q).2)) λ_=>rfl
def se_g    (C:Cok T k X c)(q:okE T c (.g n) h=da):SE T k X c (.g n) h:=by
 have J:=of_decide_eq_true (ba (ba q).1).1;have h2:=of_decide_eq_true (ba (ba q).1).2;have R:T.gn[n]?=ca (T.gn.getD n ""):=by simp_all
 obtain⟨v,w,m,r,F⟩:=C.gls n _ T.gs[n] R (by simp[J])
 obtain⟨z,I⟩:=C.gl (ba q).2;refine gf (PE.imp (u_gl (u:=T.gs[n]) z m r F I) λσ H Q0 ⟨Y,G,Q,E,y,O,h,L,lx⟩=>⟨Y,G,Q,E,y,O,?_,L,lx⟩) λ_=>rfl;have Z:Xm T.gs n λu=>Q u G:=h;unfold Xm at Z
 simp_all
def QN    (C:Cok T k X c)(q:okE T c (.ty n) h=da):SE T k X c (.ty n) h:=by
 obtain⟨y,z⟩:=C.gl (ba q).2;obtain⟨t1,t2,t3⟩:=RP n (by simpa using (ba q).1)
 exact gf (u_ty y (C.blt _ t2) t1 t3 z) λ_=>rfl
def JP     (O:Sn X h.pos (Yh T c es (dk h)) (Zn T c es (cl h)) R)(L:lD X (denD T.gs (Ta T k) es) R)(J:(Yh T c es (dk h)).all (·.isSome)=da)(Y:(Yh T c es (dk h)).length=(Zn T c es (cl h)).length)
  (F:(Yh T c es (dk h)).length<=15):SE T k X c (.dic es) h:=by
 refine gf ?_ λ_=>rfl
 match es,O,L,J,Y,F with
 |.nil,_,_,_,_,_=>exact PE.imp aQ λσ H Q0 ⟨ς,G,Q,E,y,hG,h,lv,lx⟩=>⟨ς,G,Q,E,y,hG,(show([]:List (Vb×U)).length<=15/\newO G (.dK (Rj [])) Q from h).2,lv,lx⟩
 |.cons _ .nil,_,_,_,_,_=>exact λZ s σ H Q0 I ⟨ς,G,Q,E,y,hG,h,lv,lx⟩=>(show False from h).elim
 |.cons d (.cons f es),O,L,J,Y,F=>exact fN O L J Y (λz=>nomatch z) F
def yS     (C:Cok T k X c)(q:okE T c (.call n es) h=da)(z:PA X (unEs T c es (cl h)) (lA X (Cd T.gs (Ta T k) es))):SE T k X c (.call n es) h:=by
 refine gf ?_ λ_=>rfl;have I:=of_decide_eq_true (ba (ba q).1).1;have y:T.funs[n]?=ca T.funs[n]:=by simp[I]
 have F:T.funs[n].name=tw T n:=by unfold tw;rw[y]
 match es,z with
 |.nil,_=>exact WR C y F (ba (ba q).1).2
 |.cons d es,z=>exact VP C y F (ba (ba q).1).2 z (Ef (Jf d _) _ _) (Vm es _ _ _).1
def IP     (C:Cok T k X c)(q:okE T c (.blt b es) h=da)(y:PA X (unEs T c es (cl h)) (lA X (Cd T.gs (Ta T k) es))):SE T k X c (.blt b es) h:=by
 refine gf ?_ λ_=>rfl;obtain⟨z,F⟩:=C.gl (ba (ba q).1).2
 match es,y,q with
 |.nil,_,q=>exact absurd (of_decide_eq_true (ba (ba q).1).1) (Ki 0)
 |.cons d es,y,_=>exact jO (DN C.room C.calm b) z (C.blt _ (RQ b)) y (Ef (Jf d _) _ _) (Vm es _ _ _).1
def zS      (hu:X.A.units+1<Pb)(q:okE T c (.meth m o es) h=da)(F:PE X (bc T c o (c0 (c0 h))) (lE X (Ra T.gs (Ta T k) o).1))(z:PA X (unEs T c es (cl h)) (lA X (Cd T.gs (Ta T k) es))):SE T k X c (.meth m o es) h:=by
 refine gf ?_ λ_=>rfl;have I:=(ba q).2;have y:=of_decide_eq_true (ba (ba q).1).2;have J:=(ba (ba (ba q).1).1).2
 match es,z,y with
 |.nil,_,_=>exact YR (Oy hu m) F (lz I _ _ _) J
 |.cons d es,z,y=>
  refine yE (Oy hu m) F z (lz I _ _ _) ?_ J (Ef (Jf d _) _ _) (Vm es _ _ _).1;have e:=(Vm (T:=T) (c:=c) (.cons d es) (cl h) X.env h.pos).2;show((Tb h.pos (uc (unEs T c (.cons d es) (cl h)) X.env)).all (λx=>!x.1)&&_&&decide ((unEs T c (.cons d es) (cl h)).length+0+0<30))=da;rw[e,Ly];exact decide_eq_true y
def BQ    (h:PT X e (lT X (Ra T.gs (Ta T k) d).2)):PIfs X [e] (dj X.K (denC T.gs (Ta T k) (.cons d .nil))):=by
 refine PIfs.imp (jS (dj.of h)) λY H Z ⟨F,G,Q,L,J,I,R⟩=>⟨F,G,λb z=>Q b z,L,J,?_,R⟩;have O:(Ra T.gs (Ta T k) d).2 F G (λb y=>if b=da then Q da y else Q ia y) (λ_ _=>False):=I
 have e:(λ(b:Bool) (y:Gp)=>if b=da then Q da y else Q ia y)=λb z=>Q b z:=by
  grind
 lia
def AQ  : PIfs X [] (dj X.K (denC T.gs (Ta T k) .nil)):=PIfs.imp iS λL H O ⟨J,G,Q,I,z,y,F⟩=>F da G H z (Fr.refl _ _) y
theorem wD  : ∀y hs ,2*(Yh T c y hs).length<=Hg y
 |.nil,_=>ub _
 |.cons _ .nil,_=>Me _
 |.cons _ (.cons _ y),hs=>by
  have:=wD y hs.tail;show 2*((Yh T c y hs.tail).length+1)<=Hg y+1+1
  lia
def k_le    (h:Hg es<=30):(Yh T c es hs).length<=15:=by
 have:=wD (T:=T) (c:=c) es hs
 lia
end
mutual
theorem sE:∀(J:E) {X:Cx} {c:pc} {h:Ia},Cok T k X c->okE T c J h=da->SE T k X c J h
 |.v _,_,_,_,C,q=>se_v C q
 |.non,_,_,_,_,_=>gf (pp (u:=.non) kQ λ_=>rfl) λ_=>rfl
 |.bl b,_,_,_,_,_=>gf (pp (u:=.bl b) MD λ_=>rfl) λ_=>rfl
 |.int i,_,_,_,_,_=>gf (pp (u:=.int i) iQ λ_=>rfl) λ_=>rfl
 |.str x,_,_,_,_,_=>gf (pp (u:=.str x) mE λ_=>rfl) λ_=>rfl
 |.g _,_,_,_,C,q=>se_g C q
 |.ty _,_,_,_,C,q=>QN C q
 |.bin o a b,_,_,_,C,q=>gf (iO (EQ o) (sE a C (ba q).1).1 (sE b C (ba q).2).1) λ_=>rfl
 |.neg a,_,_,_,C,q=>gf (lN (sE a C q).1) λ_=>rfl
 |.not a,_,_,_,C,q=>⟨nN (sE a C q).1,cQ (sE a C q).2⟩
 |.bop k a es,_,_,h,C,q=>let r:=sB es k C (sE a C (ba q).1) (ba q).2 h.pos;⟨r.1,r.2.pt⟩
 |.cmp o a b,_,_,_,C,q=>⟨eN (bp C.room o) (sE a C (ba (ba q).1).1).1 (sE b C (ba (ba q).1).2).1 (bn (ba q).2),ZP (bp C.room o) (sE a C (ba (ba q).1).1).1 (sE b C (ba (ba q).1).2).1 (bn (ba q).2)⟩
 |.cmp2 o p a b d,_,_,_,C,q=>⟨WP (bp C.room o) (bp C.room p) (sE a C (ba (ba (ba q).1).1).1).1 (sE b C (ba (ba (ba q).1).1).2).1 (sE d C (ba (ba q).1).2).1 (bn (ba q).2),
   PT.imp (XR (bp C.room o) (bp C.room p) (sE a C (ba (ba (ba q).1).1).1).1 (sE b C (ba (ba (ba q).1).1).2).1 (sE d C (ba (ba q).1).2).1 (bn (ba q).2)) λ_ _ _ ⟨ς,G,Q,E,I,Z,h,Y,lx⟩=>⟨ς,G,Q,E,I,Z,h,Y,lx⟩⟩
 |.ife t a b,_,_,_,C,q=>⟨gN (sE t C (ba (ba q).1).1).2 (sE a C (ba (ba q).1).2).1 (sE b C (ba q).2).1,bQ (sE t C (ba (ba q).1).1).2 (sE a C (ba (ba q).1).2).2 (sE b C (ba q).2).2⟩
 |.tup es,_,_,_,C,q=>gf (sN (Jj es C q)) λ_=>rfl
 |.lst es,_,_,_,C,q=>gf (iN (Jj es C q)) λ_=>rfl
 |.dic es,_,_,h,C,q=>let ⟨_,R,O,L,h4⟩:=sD es C h.pos (ba q).1;JP R O L h4 (k_le (of_decide_eq_true (ba q).2))
 |.ix a b,_,_,_,C,q=>gf (u_ix C.hu (sE a C (ba q).1).1 (sE b C (ba q).2).1 (vR (Jf b _))) λ_=>rfl
 |.sl a lo hi,_,_,_,C,q=>gf (u_sl (sE a C (ba (ba q).1).1).1 (sO lo C (ba (ba q).1).2) (sO hi C (ba q).2)) λ_=>rfl
 |.rev a b,_,_,_,C,q=>gf (ED (sE a C (ba q).1).1 (sE b C (ba q).2).1) λ_=>rfl
 |.call _ es,_,_,_,C,q=>yS C q (Jj es C (ba q).2)
 |.app _ _,_,_,_,_,_=>⟨λ_ _ _ _ _ _ ⟨_,_,_,_,_,_,h,_⟩=>(show False from h).elim,λ_ _ _ _ _ _ ⟨_,_,_,_,_,_,h,_⟩=>(show False from h).elim⟩
 |.blt _ es,_,_,_,C,q=>IP C q (Jj es C (ba q).2)
 |.meth _ o es,_,_,_,C,q=>zS C.hu q (sE o C (ba (ba (ba (ba q).1).1).1).1).1 (Jj es C (ba (ba (ba (ba q).1).1).1).2)
 |.lc _ t it ifs d,_,_,_,C,q=>let S:=C.comp (ba (ba (ba (ba (ba (ba q).1).1).1).1).1).1
   gf (u_lc C.calm S.1 (sI it t _ _ C (ba (ba (ba (ba q).1).1).1).2).1 (ba (ba (ba (ba (ba (ba q).1).1).1).1).1).2 (λcl A z y F=>ao (S.2 cl A z y F) t _ (ba (ba (ba (ba (ba q).1).1).1).1).2)
    (λcl A z y F=>sC ifs (S.2 cl A z y F) (of_decide_eq_true (ba (ba q).1).2) (ba (ba (ba q).1).1).2) (λcl A z y F=>Gk.of (sE d (S.2 cl A z y F) (ba q).2).1) (sI it t ⟨[],[]⟩ e0 C (ba (ba (ba (ba q).1).1).1).2).2) λ_=>rfl
 |.mkL d,_,_,_,C,q=>gf (jN (C.gl (ba q).1).1 (C.blt _ (by decide)) (sE d C (ba q).2).1 (Ef (Jf d _) _ _)) λ_=>rfl
 |.mkT d,_,_,_,C,q=>gf (kN (C.gl (ba q).1).1 (C.blt _ (by decide)) (sE d C (ba q).2).1 (Ef (Jf d _) _ _)) λ_=>rfl
 |.rngL d,_,_,_,C,q=>gf (dQ C.calm (C.gl (ba (ba q).1).1).1 (C.blt _ (by decide)) (C.gl (ba (ba q).1).2).1 (C.blt _ (by decide)) (sE d C (ba q).2).1 (Ef (Jf d _) _ _) rfl) λ_=>rfl
theorem sO:∀(y:Eo) {X:Cx} {c:pc} {h:Ia},Cok T k X c->dy T c y h=da->PO X (Rx T c y h) (lO X (denO T.gs (Ta T k) y))
 |.no,_,_,_,_,_=>u_no
 |.so d,_,_,_,C,q=>u_so (sE d C q).1
theorem Jj:∀(y:Es) {X:Cx} {c:pc} {hs:List Ia},Cok T k X c->okEs T c y hs=da->PA X (unEs T c y hs) (lA X (Cd T.gs (Ta T k) y))
 |.nil,_,_,_,_,_=>Jo
 |.cons d y,_,_,_,C,q=>Zo (sE d C (ba q).1).1 (Jj y C (ba q).2) (Ef (Jf d _) _ _)
theorem sB:∀(y:Es) (b:Bool) {X:Cx} {c:pc} {hs:List Ia} {a:Ia} {p:UE×UT},Cok T k X c->PE X a (lE X p.1)/\PT X a (lT X p.2)->okEs T c y hs=da->∀pos:Pos,
  PE X (.BoolOp (zp b) (a::unEs T c y hs) pos) (lE X (denB T.gs (Ta T k) b p y).1)/\PW X (.BoolOp (zp b) (a::unEs T c y hs) pos) (lT X (denB T.gs (Ta T k) b p y).2)
 |.nil,da,_,_,_,_,_,_,ha,_,_=>⟨nv ha.1,pw_and1 ha.2⟩
 |.nil,ia,_,_,_,_,_,_,ha,_,_=>⟨nv ha.1,pw_or1 ha.2⟩
 |.cons d y,da,_,_,_,_,_,C,ha,q,pos=>zQ ha (sB y da C (sE d C (ba q).1) (ba q).2 pos)
 |.cons d y,ia,_,_,_,_,_,C,ha,q,pos=>PN ha (sB y ia C (sE d C (ba q).1) (ba q).2 pos)
theorem sC:∀(y:Es) {X:Cx} {c:pc} {hs:List Ia},Cok T k X c->Hg y<=1->okEs T c y hs=da->PIfs X (unEs T c y hs) (dj X.K (denC T.gs (Ta T k) y))
 |.nil,_,_,_,_,_,_=>AQ
 |.cons d .nil,_,_,_,C,_,q=>BQ (sE d C (ba q).1).2
 |.cons _ (.cons _ es),_,_,_,_,l,_=>absurd l (by show ¬(Hg es+1+1<=1);lia)
theorem sD:∀(y:Es) {X:Cx} {c:pc} {hs gs:List Ia},Cok T k X c->(p:Pos)->gy T c y hs gs=da->∃z,Sn X p (Yh T c y hs) (Zn T c y gs) z/\lD X (denD T.gs (Ta T k) y) z/\(Yh T c y hs).all (·.isSome)=da/\(Yh T c y hs).length=(Zn T c y gs).length
 |.nil,_,_,_,_,_,_,_=>⟨[],nS,uP,rfl,rfl⟩
 |.cons d (.cons f y),_,_,_,_,C,p,q=>let ⟨_,J,I,F,L⟩:=sD y C p (ba q).2;⟨_,BU (sE d C (ba (ba q).1).1).1 (sE f C (ba (ba q).1).2).1 J,MQ I,F,congrArg (·+ 1) L⟩
 |.cons _ .nil,_,_,_,_,_,_,q=>nomatch q
theorem sI:∀(y:It) (t:Tg) (ct:pc) (z:Ia) {X:Cx} {c:pc} {h:Ia},Cok T k X c->fy T c t y h=da->PI X (unTg ct t z) (unI T c y h) (lI X (denI T.gs (Ta T k) y))/\∀x,Qi (unI T c y h) X.env x=pure x
 |.e d,_,_,_,_,_,_,C,q=>⟨u_ie (sE d C q).1,tG (Jf d _) _⟩
 |.r1 d,_,_,_,_,_,_,C,q=>⟨u_r1 (C.gl (ba q).1).1 (C.blt _ (by decide)) (sE d C (ba q).2).1 (Ef (Jf d _) _ _),λ_=>rfl⟩
end
end

noncomputable def Vx  (sb:Bool)(names:List Str)(bk:ScopeKind)(ts vs:List Ia):Sem (Option (List Str)):=
 if (!(ts.length==2||ts.length==3)||vs.length != ts.length||bk != .function)=da then pure la
 else if sb=da then pure la
 else if (names.length != ts.length||names.eraseDups.length != names.length)=da then pure la
 else if vs.all (YA 8)=da then pure la
 else if vs.all (constantsAlone 8)=da then do unsupported "assign.tuple-of-constant-expressions:order-of-the-stores";pure (ca names)
 else pure (ca names)
def Az  (env:Env)(ts:List Ia):List Str:=ts.filterMap fun
  |.Name y pos=>if env.kindOf y==ca .local&&pos.line==rE ts then ca y else la
  |_=>la
def BD     : li [.Tuple ts a p] (.Tuple vs b q) env=Vx (vs.any jv) (Az env ts) env.blockKind ts vs:=by
 have y:jv=fun|.Starred ..=>da|_=>ia:=by funext e;cases e<;>rfl
 with_unfolding_all rfl
def VF  (hk:∀x,env.kindOf x=c.sc.lookup x) ts:Az env ts=We c ts:=by
 unfold We Az;congr 1;funext e;cases e<;>first|rfl|(dsimp only;rw[hk])
def HU  (hk:∀x,env.kindOf x=c.sc.lookup x)(L:env.blockKind=.function)(h:Vz c ts vs=da):li [.Tuple ts a p] (.Tuple vs b q) env=pure la:=by
 rw[BD,VF hk,L];unfold Vx;unfold Vz at h;by_cases J:(!(ts.length==2||ts.length==3)||vs.length != ts.length)=da
 ·rw[if_pos (by rw[J];rfl)]
 ·have y:(!(ts.length==2||ts.length==3)||vs.length != ts.length)=ia:=by simpa using J
  rw[y]at h;rw[if_neg (by rw[y];decide)]
  simp only[GB,Lc,Vs]at h;obtain⟨O,I⟩:=h;rw[if_neg (by rw[O];decide)]
  by_cases F:((We c ts).length != ts.length||(We c ts).eraseDups.length != (We c ts).length)=da
  ·rw[if_pos F]
  ·rw[if_neg F];have z:((We c ts).length != ts.length||(We c ts).eraseDups.length != (We c ts).length)=ia:=by simpa using F
   rw[z]at I;rw[if_pos (by simpa using I)]
def IU  (hk:∀x,env.kindOf x=c.sc.lookup x)(z:env.blockKind=.function)(h:swapped c ts vs=da):li [.Tuple ts a p] (.Tuple vs b q) env=pure (ca (We c ts)):=by
 rw[BD,VF hk,z];unfold Vx;unfold swapped at h;simp only[Lc,Vs]at h;obtain⟨⟨⟨⟨⟨⟨L,J⟩,I⟩,h4⟩,F⟩,Z⟩,y⟩:=h;have R:(!(ts.length==2||ts.length==3)||vs.length != ts.length||(yL != yL))=ia:=by
  have:(vs.length != ts.length)=ia:=by simpa using J
  rw[L,this];rfl
 rw[if_neg (by rw[R];decide),if_neg (by rw[I];decide)]
 have Y:((We c ts).length != ts.length||(We c ts).eraseDups.length != (We c ts).length)=ia:=by
  have O:((We c ts).length != ts.length)=ia:=by simpa using h4
  have z2:((We c ts).eraseDups.length != (We c ts).length)=ia:=by simpa using F
  rw[O,z2];rfl
 rw[if_neg (by rw[Y];decide),if_neg (by rw[Z];decide),if_neg (by rw[y];decide)]
def eU  (hk:∀x,env.kindOf x=c.sc.lookup x)(F:env.blockKind=.function)(h:lcSw c y z p s=da) :
  ii (.ListComp elt gs s p) (ca (.Name y z)) l env=pure da:=by
 unfold lcSw at h;simp only[Lc]at h;unfold ii;dsimp only;show(pure (env.blockKind == .function&&env.kindOf y==ca .local&&z.line==p.line && !(s.names.any λ(n,k)=>n==y&&(k == .local||k == .cell))):Sem Bool)=pure da
 grind
def gU  {c: pc}(hk:∀x,env.kindOf x=c.sc.lookup x)(h:(c.sc.lookup y==ca .local)=ia) :
  sj [.Name y z] (.ListComp elt gs s p) l env=pure ia:=by
 show(pure (env.blockKind == .function&&env.kindOf y==ca .local&&z.line==p.line && !(s.names.any λ(n,k)=>n==y&&(k == .local||k == .cell))):Sem Bool)=pure ia
 grind
section
variable {T:Vd}{k:Nat}
def bh.kindOf    (C:bh T k X c):∀x,X.env.kindOf x=c.sc.lookup x:=λx=>by
 unfold Env.kindOf;rw[C.sc]
def bh.block    (C:bh T k X c):X.env.blockKind=.function:=by
 unfold Env.blockKind;rw[C.kind];rfl
theorem hE   : ∀(is:List Nat) hs ,(unNs c is hs).length=is.length
 |[],_=>rfl
 |_::is,hs=>congrArg (·+ 1) (hE is hs.tail)
def sw2     (h:(We c [.Name x p,.Name y q]).length=2):We c [.Name x p,.Name y q]=[x,y]:=by
 unfold We at h ⊢;simp only[Ex,List.filterMap_nil]at h ⊢;split at h<;>split at h<;>simp_all

def MP     (C:bh T k X c)(q:oo T c (.asg t d) h=da)(hs:PE X (bc T c d (q0 h)) (lE X (Ra T.gs (Ta T k) d).1)):PS X (Hj T c (.asg t d) h) (lS X (denS T.gs (Ta T k) (.asg t d))):=by
 have z:=ao C.toCok t (q1 h) (ba (ba q).1).2;have q3:=(ba q).2;have y:sj [unTg c t (q1 h)] (bc T c d (q0 h)) h.pos.line X.env=pure ia/\li [unTg c t (q1 h)] (bc T c d (q0 h)) X.env=pure la:=by
  cases t with
  |n i=>
   refine⟨?_,uN d _ _ _ _⟩;by_cases F:isLc d=da
   ·cases d with
    |lc=>exact gU C.kindOf (bn q3)
    |_=>cases F
   ·exact cS (by lia) _ _ _ _
  |t ts=>
   cases d with
   |lc=>cases q3
   |tup I=>exact⟨rfl,HU C.kindOf C.block q3⟩
   |_=>exact⟨rfl,rfl⟩
 exact s_asg hs z y.1 y.2 (aS t _ _)
def NP     (C:bh T k X c)(q:oo T c (.par is es) h=da)(J:PA X (unEs T c es (cl (q0 h))) (lA X (Cd T.gs (Ta T k) es))):PS X (Hj T c (.par is es) h) (lS X (denS T.gs (Ta T k) (.par is es))):=by
 have I:=(ba (ba q).1).2;have L:=(ba (ba (ba q).1).1).2;have F:=IU (a:=kk (q1 h)) (b:=kk (q0 h)) (p:=(q1 h).pos) (q:=(q0 h).pos) C.kindOf C.block I;unfold swapped at I;simp only[Lc,Bl,beq_iff_eq]at I;obtain⟨⟨⟨⟨⟨⟨_,y⟩,_⟩,O⟩,_⟩,_⟩,_⟩:=I;rw[Ly,hE]at y;have z:is.length=2:=of_decide_eq_true (ba q).2;have Z:X.N.Nodup:=by rw[C.hN];exact C.nd
 match is,es,z,y,O,F,L,J with
 |[i,j],.cons a (.cons b .nil),_,_,O,F,L,J=>
  have R:=ba L;have Y:=ba R.2;refine s_par2 C.calm Z (C.nm (ba (ba R.1).1).1) (C.nm (ba (ba Y.1).1).1) (by simp_all) (C.loc _ (ba (ba R.1).1).2) (C.loc _ (ba (ba Y.1).1).2) J ?_ rfl
  rw[<- sw2 O];exact F
 |[],_,z,_,_,_,_,_=>exact absurd z (by simp)
 |[_],_,z,_,_,_,_,_=>exact absurd z (by simp)
 |_::_::_::_,_,z,_,_,_,_,_=>exact absurd z (by simp)
 |[_,_],.nil,_,y,_,_,_,_=>exact absurd y (by simp[Hg])
 |[_,_],.cons _ .nil,_,y,_,_,_,_=>exact absurd y (by simp[Hg])
 |[_,_],.cons _ (.cons _ (.cons _ _)),_,y,_,_,_,_=>exact absurd y (by simp[Hg])
def FS     (C:bh T k X c)(q:oo T c (.asgC i d) h=da):PS X (Hj T c (.asgC i d) h) (lS X (denS T.gs (Ta T k) (.asgC i d))):=by
 have R:=(ba (ba (ba q).1).1);have O:=(ba q).2;have Y:=C.nm (ba (ba q).1).2;have Z:=eq_of_beq (ba (ba O).1).1;cases d with
 |lc pick t L J d=>
  have F:=R.2;have S:=C.toCok.comp (ba (ba (ba (ba (ba (ba F).1).1).1).1).1).1;exact s_lc (by rw[C.hN];exact C.nd) Y (by rw[C.sc];exact Z) C.calm S.1 (sI L t _ _ C.toCok (ba (ba (ba (ba F).1).1).1).2).1 (ba (ba (ba (ba (ba (ba F).1).1).1).1).1).2
   (λcl A z y I=>ao (S.2 cl A z y I) t _ (ba (ba (ba (ba (ba F).1).1).1).1).2) (λcl A z y I=>sC J (S.2 cl A z y I) (of_decide_eq_true (ba (ba F).1).2) (ba (ba (ba F).1).1).2)
   (λcl A z y I=>Gk.of (sE d (S.2 cl A z y I) (ba F).2).1) (eU C.kindOf C.block O) (bS L _ _)
 |_=>cases R.1
def cU     (C:bh T k X c)(q:oo T c (.raise n es) h=da):PS X (Hj T c (.raise n es) h) (lS X (denS T.gs (Ta T k) (.raise n es))):=by
 have y:(Hi T.cs c n&&decide (0<Hg es)&&okEs T c es (cl (qr h)))=da:=q
 match es,y with
 |.nil,y=>exact absurd (of_decide_eq_true (ba (ba y).1).2) (Ki 0)
 |.cons d es,y=>exact s_raise C.toCok (ba (ba y).1).1 (Jj (.cons d es) C.toCok (ba y).2) (Ef (Jf d _) _ _) (Vm es _ _ _).1
def bh.tryC    (C:bh T k X c)(z:Wj (Fa X.prog X.w) X.A X.env xe):bh T k (X.tryC pins xe) c:=
 ⟨⟨C.hN,C.nd,C.loc,C.cel,C.fre,C.glb,C.room,C.calm,z,C.blt,C.fns,C.gls,C.room2,C.cls,C.mgK⟩,C.sc,C.kind,C.stk⟩
mutual
theorem sS:∀(y:S) {X:Cx} {c:pc} {h:Pa},bh T k X c->oo T c y h=da->PS X (Hj T c y h) (lS X (denS T.gs (Ta T k) y))
 |.expr d,_,_,_,C,q=>s_expr (sE d C.toCok (ba q).1).1 (ZR (bn (ba q).2) _ _ _)
 |.asg _ d,_,_,_,C,q=>MP C q (sE d C.toCok (ba (ba q).1).1).1
 |.asgC _ _,_,_,_,C,q=>FS C q
 |.setS o i d,_,_,_,C,q=>s_set C.toCok.hu (sE d C.toCok (ba (ba q).1).1).1 (sE o C.toCok (ba (ba q).1).2).1 (sE i C.toCok (ba q).2).1 (zE d _ _ _ _ _ _).1 (zE d _ _ _ _ _ 0).2 rfl (eT (Jf i _) _ _)
 |.par _ es,_,_,_,C,q=>NP C q (Jj es C.toCok (ba (ba (ba q).1).1).1)
 |.aug _ _ d,_,_,_,C,q=>let s:=C.toCok.store (ba (ba q).1).2;s_aug (by rw[C.hN];exact C.nd) (C.nm (ba (ba q).1).1) s.1 s.2 (sE d C.toCok (ba q).2).1
 |.augS a i _ d,_,_,_,C,q=>s_augS C.toCok.hu (sE a C.toCok (ba (ba q).1).1).1 (sE i C.toCok (ba (ba q).1).2).1 (sE d C.toCok (ba q).2).1 (fT (Jf i _))
 |.ite t a b,_,_,_,C,q=>s_if (sE t C.toCok (ba (ba q).1).1).2 (Ij a C (ba (ba q).1).2) (Ij b C (ba q).2)
 |.fr t it b,_,_,_,C,q=>s_for C.po C.calm (sI it t _ _ C.toCok (ba (ba q).1).2).1 (ao C.toCok t _ (ba (ba q).1).1) (Ij b C (ba q).2) (sI it t ⟨[],[]⟩ e0 C.toCok (ba (ba q).1).2).2
 |.wh t b,_,_,_,C,q=>s_wh C.po (sE t C.toCok (ba q).1).2 (Ij b C (ba q).2)
 |.ret d,_,_,_,C,q=>s_ret (sE d C.toCok q).1
 |.raise _ _,_,_,_,C,q=>cU C q
 |.tr b _ _ _,_,_,_,C,q=>s_try C (ba (ba (ba (ba (ba (ba (ba (ba q).1).1).1).1).1).1).1).2 (ba (ba (ba (ba (ba (ba (ba q).1).1).1).1).1).1).2 (ba (ba (ba (ba (ba (ba q).1).1).1).1).1).2 (ba (ba (ba (ba (ba q).1).1).1).1).2 (bn (ba (ba (ba (ba q).1).1).1).2) (bn (ba (ba (ba q).1).1).2) (bn (ba (ba q).1).2) (ba q).2
   λ_ _ z=>Ij b (C.tryC z) (ba (ba (ba (ba (ba (ba (ba (ba q).1).1).1).1).1).1).1).1
theorem Ij:∀(y:Ss) {X:Cx} {c:pc} {hs:List Pa},bh T k X c->okSs T c y hs=da->Fd X (unSs T c y hs) (lS X (Dc T.gs (Ta T k) y))
 |.nil,_,_,_,_,_=>s_nil
 |.cons s r,_,_,_,C,q=>s_cons (t:=denS T.gs (Ta T k) s) (u:=Dc T.gs (Ta T k) r) (sS s C (ba q).1) (Ij r C (ba q).2)
end
end
section
variable {T:Vd}{k:Nat}{X:Cx}{c:pc}
structure CloU (X:Cx)(f:Aa)(Ψ:List U->Gp->K1->KX->Prop):Prop where
 fn:∀(pins:List (Aa×Obj)) (σ:St) (H:Hp) (s:Da),La X pins σ H s->PySem.W.FnAt f s.heap
 run:∀(pins:List (Aa×Obj)) (σ:St) (H:Hp) (s:Da) (us:List Ba) (vs:List V) (Q0:VK) (E0:XK),La X pins σ H s->Vals vs us->Gg X.K Ψ vs H Q0 E0->
  codeAny (Fa X.prog X.w) X.A (.call (.ref f) ⟨us,[]⟩) (CR (ed X.prog X.w) X.stack X.prog X.w H s Q0 E0) s
def appD  (i:Nat)(f:Aa)(F:List U->Gp->K1->KX->Prop)(ts:UA):UE:=λy G Q E=>slot y i λu=>u=.loc f/\ts y G (λI z=>F I z Q E) E
def Wr     (h:slot z i y):∃u,z[i]?=ca (ca u)/\y u:=by
 unfold slot at h
 grind
def eO          (A:CloU X f Ψ)(hN:X.N[i]?=ca x)(hv:Ai X.env.scope x)(hd:(x==("__debug__" : Str))=ia)(Z:(x==("__classdict__" : Str))=ia)
  (ha:PA X (e::es) (lA X ts)) (he:uc (e::es) X.env=(ia,lb e X.env)::uc es X.env) (xa:(Tb pos (uc es X.env)).any (·.1)=ia) :
  PE X (.Call (.Name x p) (e::es) [] pos) (lE X (appD i f Ψ ts)):=by
 intro y s z H Q0 I ⟨ς,G,Q,E,hς,hG,h,lv,lx⟩;obtain⟨u,hu,rfl,h⟩:=Wr h;obtain⟨v,ev,rv⟩:=hς.2 i _ hu;obtain rfl:v=.ref f:=rv;refine rl (Db (Ji hN hv hd Z y s z H (λv' R=>v'=.ref f/\R=H) I ⟨_,ev,rfl,rfl⟩) λu0 s0 ⟨v0,H0,I0,r0,e1,e2⟩=>?_);subst e1;subst e2;obtain rfl:u0=Ae f:=r0;have h':lA X ts z H0 λY J=>Gg X.K Ψ Y J Q0 (EB X z):=⟨ς,G,_,E,hς,hG,h,λus Y G1 J rs za f1 h1=>⟨us,G1,Q,E,rs,za,h1,lv.fr f1,λx G' R C dx xd hr f q y L s' I' l=>(lx.fr f1) y (.ref L) s' x G' R I' ⟨L,C,dx,rfl,l,xd⟩ hr f q⟩,lx⟩;refine PySem.W.callWith_F (first:=[]) (A.fn y z H0 s0 I0) (Db (ha pos y s0 z H0 _ I0 h') λus s1 ⟨Y,J,O,r,q⟩=>⟨A.fn y z J s1 O,?_⟩) he xa
 refine Ms (Qp (A.run y z J s1 us Y Q0 (EB X z) O r q) λr s' F=>?_);cases r with
 |error e=>
  obtain⟨L,R,ja,dx,rfl,I',l,q⟩:=ed.back O F;exact q y L s' I' l
 |ok fl=>
  cases fl with
  |ret u=>exact O.after F
  |next=>exact Qh F
  |brk=>exact Qh F
  |cont=>exact Qh F
noncomputable abbrev es2  (a b:Nat):Es:=.cons (.v a) (.cons (.v b) .nil)
abbrev ltS1  (w:Nat):S:=.asg (.n w) (.lst (.cons (.tup (es2 0 1)) .nil))
noncomputable abbrev Pu  (w n:Nat):S:=.asg (.t (.cons (.n n) (.cons (.n (n+1)) .nil))) (.meth .pop (.v w) .nil)
abbrev mh  (a d:Nat):S:=.ite (.cmp .IsNot (.v d) .non) (.cons (.raise 1 (es2 d a)) .nil) .nil
abbrev lK  : S:=.asg (.n 8) (.app 2 (es2 7 6))
abbrev kK  : S:=.expr (.meth .extend (.v 4) (.cons (.rev (.app 3 (es2 7 6)) (.neg (.int 1))) .nil))
abbrev SA  : Ss:=.cons (Pu 4 6) (.cons lK (.cons (mh 5 8) (.cons kK (.cons (.aug 5 .Add (.int 1)) .nil))))
def irLT  : Ss:=.cons (ltS1 4) (.cons (.asg (.n 5) (.int 0)) (.cons (.wh (.v 4) SA) (.cons (.ret (.bl da)) .nil)))
def sq  (t u:US):US:=λD F G=>t { D with nx:=λy z=>u D y z } F G
def Ei  : US:=λD y G=>D.nx y G
section
variable (gs:List U)(Δ:Cl)(f g:Aa)(Ψ Φ:List U->Gp->K1->KX->Prop)
def ltBD:US:=λD F G=>appD 2 f Ψ (Cd gs Δ (es2 7 6)) F G (λu y=>Qc (.n 8) u F λz=>D.nx z y) λx y=>D.ex x F y
def ltEE:UE:=λF G Q X=>(Ra gs Δ (.v 4)).1 F G (λx I=>match Oe .extend x I with
 |some _=>appD 3 g Φ (Cd gs Δ (es2 7 6)) F I (λz J=>(Ra gs Δ (.neg (.int 1))).1 F J (λy O=>revU z y O λr L=>Yd .extend x [r] L Q) X) X
 |none=>False) X
def ltED:US:=λD z G=>ltEE gs Δ g Φ z G (λ_ y=>D.nx z y) λx y=>D.ex x z y
def Nu:US:=sq (denS gs Δ (Pu 4 6)) (sq (ltBD gs Δ f Ψ) (sq (denS gs Δ (mh 5 8)) (sq (ltED gs Δ g Φ) (sq (denS gs Δ (.aug 5 .Add (.int 1))) Ei))))
def gD:US:=λD L G=>∃W:Nat->Sg->Gp->Prop,(∃m,W m L G)/\∀m y z,W m y z->
 (Ra gs Δ (.v 4)).2 y z (λt J=>if t=da then Nu gs Δ f g Ψ Φ { D with nx:=λF O=>∃I,I<m/\W I F O } y J else D.nx y J) λx z=>D.ex x y z
def jD:US:=sq (denS gs Δ (ltS1 4)) (sq (denS gs Δ (.asg (.n 5) (.int 0))) (sq (gD gs Δ f g Ψ Φ) (Dc gs Δ (.cons (.ret (.bl da)) .nil))))
end
def s_sq   {rest:List Pa}(z:PS X st (lS X t))(y:Fd X rest (lS X u)):Fd X (st::rest) (lS X (sq t u)):=s_cons (t:=t) (u:=u) z y
def s_sqN  : Fd X [] (lS X Ei):=s_nil
def JE      (C:Cok T k X c)(A:CloU X f Ψ)(q:okE T c (.app i (es2 a b)) h=da):PE X (bc T c (.app i (es2 a b)) h) (lE X (appD i f Ψ (Cd T.gs (Ta T k) (es2 a b)))):=
 eO (p:=(c0 h).pos) (pos:=h.pos) A (C.nm (ba (ba (ba (ba q).1).1).1).1) (C.vis (ba (ba (ba (ba q).1).1).1).2) (bn (ba (ba (ba q).1).1).2) (bn (ba (ba q).1).2) (Jj (T:=T) (k:=k) (es2 a b) C (ba q).2) (Ef (Jf (.v a) _) _ _) (Vm (.cons (.v b) .nil) _ _ _).1
def OQ     (C:bh T k X c)(A:CloU X f Ψ)(B:CloU X g Φ)(q:okSs T c irLT hs=da):Fd X (unSs T c irLT hs) (lS X (jD T.gs (Ta T k) f g Ψ Φ)):=by
 have y:=(ba q).2;have z:=(ba y).2;have qw:=(ba z).1;have J:=(ba qw).2;have q2:=(ba J).2;have q3:=(ba q2).2;have q4:=(ba q3).2;have hB:PS X (Hj T c lK (qh (qa (qh hs.tail.tail)).tail)) (lS X (ltBD T.gs (Ta T k) f Ψ)):=by
  have I:=(ba q2).1;exact s_asg (JE C.toCok A (ba (ba I).1).1) (ao C.toCok (.n 8) _ (ba (ba I).1).2) rfl rfl rfl
 have Z:PS X (Hj T c kK (qh (qa (qh hs.tail.tail)).tail.tail.tail)) (lS X (ltED T.gs (Ta T k) g Φ)):=by
  have Y:=(ba q4).1;have F:=(ba Y).1;have h6:=(ba F).2;have h4:=(ba (ba (ba F).1).1).2;have qo:=(ba (ba (ba (ba F).1).1).1).1;have L:=(ba (ba (ba (ba (ba F).1).1).1).2).1;exact s_expr (yE (Oy C.toCok.hu .extend) (sE (.v 4) C.toCok qo).1 (Zo (ED (JE C.toCok B (ba L).1) (sE (.neg (.int 1)) C.toCok (ba L).2).1) Jo (Ef (Jf (.rev (.app 3 (es2 7 6)) (.neg (.int 1))) _) _ _)) (lz h6 _ _ _) rfl h4 (Ef (Jf (.rev (.app 3 (es2 7 6)) (.neg (.int 1))) _) _ _) rfl) rfl
 have R:Fd X (unSs T c SA (qa (qh hs.tail.tail))) (lS X (Nu T.gs (Ta T k) f g Ψ Φ)):=
  s_sq (sS (Pu 4 6) C (ba J).1) (s_sq hB (s_sq (sS (mh 5 8) C (ba q3).1) (s_sq Z (s_sq (sS (.aug 5 .Add (.int 1)) C (ba (ba q4).2).1) s_sqN))))
 have O:PS X (Hj T c (.wh (.v 4) SA) (qh hs.tail.tail)) (lS X (gD T.gs (Ta T k) f g Ψ Φ)):=s_wh C.po (sE (.v 4) C.toCok (ba qw).1).2 R;exact s_sq (sS (ltS1 4) C (ba q).1) (s_sq (sS (.asg (.n 5) (.int 0)) C (ba y).1) (s_sq O (Ij (.cons (.ret (.bl da)) .nil) C (ba z).2)))
end
noncomputable def sk  : Nat->Nat->Es
 |_,0=>.nil
 |i,n+1=>.cons (.v i) (sk (i+1) n)
abbrev ltVe  (y:Nat):S:=.expr (.meth .extend (.v 2) (.cons (.rev (.call y (es2 5 4)) (.neg (.int 1))) .nil))
def ltVw  (m fi y:Nat):Ss:=.cons (Pu 2 4) (.cons (.asg (.n 6) (.call fi (.cons (.v 5) (.cons (.v 4) (sk 7 m))))) (.cons (mh 3 6) (.cons (ltVe y) (.cons (.aug 3 .Add (.int 1)) .nil))))
def iD  (m fi y:Nat):Ss:=.cons (ltS1 2) (.cons (.asg (.n 3) (.int 0)) (.cons (.wh (.v 2) (ltVw m fi y)) (.cons (.ret (.bl da)) .nil)))
section
variable {gs:List U}{Δ Δ':Cl}
def DS      (e:z[i]?=ca (ca u)):slot z i y=y u:=by unfold slot;rw[e]
theorem AE     : ∀{cs } {i } {Q },(∀j u,cs[j]?=ca u->y[i+j]?=ca (ca u))->Cd gs Δ (sk i cs.length) y G Q X=Q cs G
 |[],_,_,_=>rfl
 |u::cs,i,Q,e=>by
  show(slot y i λx=>Cd gs Δ (sk (i+1) cs.length) y G (λz F=>Q (x::z) F) X)=_;rw[DS (show y[i]?=ca (ca u)from e 0 u rfl)];exact AE (λj v I=>by rw[show i+1+j=i+(j+1) by lia];simp_all)
noncomputable def ig  (y st w a:U)(n h d:Option U)(cs:List U):Sg:=ca y::ca st::ca w::ca a::n::h::d::cs.map ca
noncomputable def lg  (y st:U)(f g:Aa)(w a:U)(n h d:Option U):Sg:=[ca y,ca st,ca (.loc f),ca (.loc g),ca w,ca a,n,h,d]
def VM      j u (e:cs[j]?=ca u):(ig y st w a n h d cs)[7+j]?=ca (ca u):=by
 show(ca y::ca st::ca w::ca a::n::h::d::cs.map ca)[7+j]?=_;rw[show 7+j=j+1+1+1+1+1+1+1 by lia]
 simp only[wL,Lf,e];rfl

def PQ  {ex: KX}(hk:∀w a x y d G,O (ig F st w a (ca x) (ca y) (ca d) cs) G=R (lg F st f g w a (ca x) (ca y) (ca d)) G) :
  Dc gs Δ (ltVw cs.length fi I) ⟨O,rt,λx _ G'=>ex x G'⟩ (ig F st w a n h d cs) G=Nu gs Δ' f g (λus G Q E=>Δ fi (us++cs) G Q E) (λus G Q E=>Δ I us G Q E) ⟨R,rt,λx _ G'=>ex x G'⟩ (lg F st f g w a n' h' d') G:=by
 have eF:∀x y d G,Dc gs Δ (.cons (.aug 3 .Add (.int 1)) .nil) ⟨O,rt,λx _ G'=>ex x G'⟩ (ig F st w a (ca x) (ca y) (ca d) cs) G=sq (denS gs Δ' (.aug 5 .Add (.int 1))) Ei ⟨R,rt,λx _ G'=>ex x G'⟩ (lg F st f g w a (ca x) (ca y) (ca d)) G:=λx y d G=>by
  show(fj .Add a (.int 1) G λz L=>O (ig F st w z (ca x) (ca y) (ca d) cs) L)=(fj .Add a (.int 1) G λz L=>R (lg F st f g w z (ca x) (ca y) (ca d)) L);exact congrArg (fj .Add a (.int 1) G) (funext λz=>funext λL=>hk w z x y d L)
 have eE:∀x y d G,Dc gs Δ (.cons (ltVe I) (.cons (.aug 3 .Add (.int 1)) .nil)) ⟨O,rt,λx _ G'=>ex x G'⟩ (ig F st w a (ca x) (ca y) (ca d) cs) G =
   sq (ltED gs Δ' g λus G Q E=>Δ I us G Q E) (sq (denS gs Δ' (.aug 5 .Add (.int 1))) Ei) ⟨R,rt,λx _ G'=>ex x G'⟩ (lg F st f g w a (ca x) (ca y) (ca d)) G:=λx y d G=>by
  show(match Oe .extend w G with
   |some _=>Δ I [y,x] G (λz L=>negU (.int 1) L λo G3=>revU z o G3 λr G4=>Yd .extend w [r] G4 λ_ Z=>Dc gs Δ (.cons (.aug 3 .Add (.int 1)) .nil) ⟨O,rt,λx _ G'=>ex x G'⟩ (ig F st w a (ca x) (ca y) (ca d) cs) Z) ex
   |none=>False)=(match Oe .extend w G with
   |some _=>U.loc g=.loc g/\Δ I [y,x] G (λz L=>negU (.int 1) L λo G3=>revU z o G3 λr G4=>Yd .extend w [r] G4 λ_ Z=>sq (denS gs Δ' (.aug 5 .Add (.int 1))) Ei ⟨R,rt,λx _ G'=>ex x G'⟩ (lg F st f g w a (ca x) (ca y) (ca d)) Z) ex
   |none=>False)
  simp only[eF,true_and]
 have eC:∀x y d G,Dc gs Δ (.cons (mh 3 6) (.cons (ltVe I) (.cons (.aug 3 .Add (.int 1)) .nil))) ⟨O,rt,λx _ G'=>ex x G'⟩ (ig F st w a (ca x) (ca y) (ca d) cs) G =
   sq (denS gs Δ' (mh 5 8)) (sq (ltED gs Δ' g λus G Q E=>Δ I us G Q E) (sq (denS gs Δ' (.aug 5 .Add (.int 1))) Ei)) ⟨R,rt,λx _ G'=>ex x G'⟩ (lg F st f g w a (ca x) (ca y) (ca d)) G:=λx y d G=>by
  show(cmpU .IsNot d .non G λc=>truU (.bl c) G λt=>if t=da then ([d,a].length=(clsF 1).length/\ex ⟨1,[d,a]⟩ G) else Dc gs Δ (.cons (ltVe I) (.cons (.aug 3 .Add (.int 1)) .nil)) ⟨O,rt,λx _ G'=>ex x G'⟩ (ig F st w a (ca x) (ca y) (ca d) cs) G) =
   (cmpU .IsNot d .non G λc=>truU (.bl c) G λt=>if t=da then ([d,a].length=(clsF 1).length/\ex ⟨1,[d,a]⟩ G) else sq (ltED gs Δ' g λus G Q E=>Δ I us G Q E) (sq (denS gs Δ' (.aug 5 .Add (.int 1))) Ei) ⟨R,rt,λx _ G'=>ex x G'⟩ (lg F st f g w a (ca x) (ca y) (ca d)) G)
  simp only[eE]
 have eB:∀x y d G,Dc gs Δ (.cons (.asg (.n 6) (.call fi (.cons (.v 5) (.cons (.v 4) (sk 7 cs.length))))) (.cons (mh 3 6) (.cons (ltVe I) (.cons (.aug 3 .Add (.int 1)) .nil)))) ⟨O,rt,λx _ G'=>ex x G'⟩ (ig F st w a (ca x) (ca y) d cs) G =
   sq (ltBD gs Δ' f λus G Q E=>Δ fi (us++cs) G Q E) (sq (denS gs Δ' (mh 5 8)) (sq (ltED gs Δ' g λus G Q E=>Δ I us G Q E) (sq (denS gs Δ' (.aug 5 .Add (.int 1))) Ei))) ⟨R,rt,λx _ G'=>ex x G'⟩ (lg F st f g w a (ca x) (ca y) d') G:=λx y d G=>by
  show(Cd gs Δ (sk 7 cs.length) (ig F st w a (ca x) (ca y) d cs) G (λzs Y=>Δ fi (y::x::zs) Y (λu L=>Dc gs Δ (.cons (mh 3 6) (.cons (ltVe I) (.cons (.aug 3 .Add (.int 1)) .nil))) ⟨O,rt,λx _ G'=>ex x G'⟩ (ig F st w a (ca x) (ca y) (ca u) cs) L) ex) ex) =
   (U.loc f=.loc f/\Δ fi ([y,x]++cs) G (λu L=>sq (denS gs Δ' (mh 5 8)) (sq (ltED gs Δ' g λus G Q E=>Δ I us G Q E) (sq (denS gs Δ' (.aug 5 .Add (.int 1))) Ei)) ⟨R,rt,λx _ G'=>ex x G'⟩ (lg F st f g w a (ca x) (ca y) (ca u)) L) ex)
  rw[AE VM];simp only[eC,true_and];rfl
 show(match Oe .pop w G with
  |some _=>Yd .pop w [] G λu Y=>Qc (.t (.cons (.n 4) (.cons (.n 5) .nil))) u (ig F st w a n h d cs) λJ=>Dc gs Δ (.cons (.asg (.n 6) (.call fi (.cons (.v 5) (.cons (.v 4) (sk 7 cs.length))))) (.cons (mh 3 6) (.cons (ltVe I) (.cons (.aug 3 .Add (.int 1)) .nil)))) ⟨O,rt,λx _ G'=>ex x G'⟩ J Y
  |none=>False)=(match Oe .pop w G with
  |some _=>Yd .pop w [] G λu Y=>Qc (.t (.cons (.n 6) (.cons (.n 7) .nil))) u (lg F st f g w a n' h' d') λJ=>sq (ltBD gs Δ' f λus G Q E=>Δ fi (us++cs) G Q E) (sq (denS gs Δ' (mh 5 8)) (sq (ltED gs Δ' g λus G Q E=>Δ I us G Q E) (sq (denS gs Δ' (.aug 5 .Add (.int 1))) Ei))) ⟨R,rt,λx _ G'=>ex x G'⟩ J Y
  |none=>False)
 have eA:∀u Y,(Qc (.t (.cons (.n 4) (.cons (.n 5) .nil))) u (ig F st w a n h d cs) λJ=>Dc gs Δ (.cons (.asg (.n 6) (.call fi (.cons (.v 5) (.cons (.v 4) (sk 7 cs.length))))) (.cons (mh 3 6) (.cons (ltVe I) (.cons (.aug 3 .Add (.int 1)) .nil)))) ⟨O,rt,λx _ G'=>ex x G'⟩ J Y) =
   (Qc (.t (.cons (.n 6) (.cons (.n 7) .nil))) u (lg F st f g w a n' h' d') λJ=>sq (ltBD gs Δ' f λus G Q E=>Δ fi (us++cs) G Q E) (sq (denS gs Δ' (mh 5 8)) (sq (ltED gs Δ' g λus G Q E=>Δ I us G Q E) (sq (denS gs Δ' (.aug 5 .Add (.int 1))) Ei))) ⟨R,rt,λx _ G'=>ex x G'⟩ J Y):=λu Y=>by
  cases u with
  |tup us=>
   match us with
   |[]=>rfl
   |[_]=>rfl
   |x::y::r=>exact congrArg (r=[]/\·) (eB x y d Y)
  |_=>rfl
 simp only[eA]
noncomputable def Rt  (cs:List U):Sg->Sg
 |th::st::_::_::w::a::n::h::d::_=>th::st::w::a::ca (n.getD .non)::ca (h.getD .non)::ca (d.getD .non)::cs.map ca
 |ς=>ς
def yP  {ex: KX}(h:Dc gs Δ (iD cs.length fi Y) ⟨n0,rt,λx _ G'=>ex x G'⟩ (ig J st .non .non (ca .non) (ca .non) (ca .non) cs) G) :
  jD gs Δ' f g (λus G Q E=>Δ fi (us++cs) G Q E) (λus G Q E=>Δ Y us G Q E) ⟨n1,rt,λx _ G'=>ex x G'⟩ [ca J,ca st,ca (.loc f),ca (.loc g),la,la,la,la,la] G:=by
 obtain⟨R,L,h⟩:=h;refine⟨R,L,λp I n=>?_⟩;have h:=h p I n;obtain⟨W,⟨m,w0⟩,O⟩:=h;refine⟨λm Z G=>(∃w a n h d,Z=lg J st f g w a n h d)/\W m (Rt cs Z) G,⟨m,⟨_,_,_,_,_,rfl⟩,w0⟩,?_⟩;rintro m _ I ⟨⟨w,a,n,h,d,rfl⟩,hw⟩;have t:=O m _ I hw;have e:∀G,Dc gs Δ (ltVw cs.length fi Y) ⟨λz G'=>∃F,F<m/\W F z G',rt,λx _ G'=>ex x G'⟩ (Rt cs (lg J st f g w a n h d)) G=Nu gs Δ' f g (λus G Q E=>Δ fi (us++cs) G Q E) (λus G Q E=>Δ Y us G Q E) ⟨λz G'=>∃F,F<m/\(∃w a n h d,z=lg J st f g w a n h d)/\W F (Rt cs z) G',rt,λx _ G'=>ex x G'⟩ (lg J st f g w a n h d) G:=λG=>
  PQ (w:=w) (a:=a) λw a x y d G=>propext ⟨λ⟨F,R,L⟩=>⟨F,R,⟨_,_,_,_,_,rfl⟩,L⟩,λ⟨F,R,_,L⟩=>⟨F,R,L⟩⟩
 have t:truU w I λb=>if b=da then Dc gs Δ (ltVw cs.length fi Y) ⟨λz G'=>∃F,F<m/\W F z G',rt,λx _ G'=>ex x G'⟩ (Rt cs (lg J st f g w a n h d)) I else rt (.bl da) I:=t
 simp only[e]at t;exact t
end
def fv  {T:Vd}{n:Nat}(h:T.funs[n]?=ca d):(T.funs++T.vf)[n]?=ca d:=by
 grind
def Qm  {T:Vd}(hd:(T.funs++T.vf)[n]?=ca d){E:KX}(h:Ta T (k+1) n us G Q E) :
  us.length=d.ps.length/\Dc T.gs (Ta T k) d.body ⟨λ_ G'=>Q .non G',Q,λx _ G'=>E x G'⟩ (Qb d.N.length us) G:=by
 have y:(match (T.funs++T.vf)[n]? with|some d=>us.length=d.ps.length/\Dc T.gs (Ta T k) d.body ⟨λ_ G'=>Q .non G',Q,λx _ G'=>E x G'⟩ (Qb d.N.length us) G|none=>False):=h
 lia
def Jy     (e:a=b)(h:Fd X a t):Fd X b t:=e ▸ h
def Wv       (r:Eb K H us vs):SR K H (Qb N.length us) (L2.start N vs):=by
 unfold Qb L2.start;refine⟨by simp[r.length],λi u e=>?_⟩
 by_cases y:i<us.length
 ·rw[Qn (by simp_all),Lf]at e
  cases q:us[i]? with
  |none=>simp_all
  |some w=>
   rw[q]at e;have:w=u:=by simpa using e
   subst this;obtain⟨v,z,I⟩:=r.get q;have F:i<vs.length:=by rw[<- r.length];exact y
   exact⟨v,by rw[Qn (by simpa using F),Lf,z];rfl,I⟩
 ·rw[At (by simpa using y),mx]at e
  split at e<;>cases e
structure PF (T:Vd)(P:Ib)(w:ib)(K:Hb)(mg:Str->Option Ba)(base:Va)(k:Nat):Prop where
 blt:∀x∈Qj,mg x=la
 fns:∀(n:Nat) (d:Fun),T.funs[n]?=ca d->VL P w K mg base k d (Ta T k n)
 gls:∀(n:Nat) (x:Str) (u:U),T.gn[n]?=ca x->T.gs[n]?=ca u->∃v w,mg x=ca w/\RelV v w/\∀H,RU K H u v
 cls:∀n∈T.cs,1<=n->∃C,XCls K (gK K) (clsN n) (clsF n) C
 mgK:∀x v,gK K x=ca v->mg x=ca v
def La.tsU    {z:St}(I:La X pins z H s):TS X.H₀ H:=⟨I.base.tups,λa o e=>I.base.frzs a o _ e⟩

def EN  {T: Vd}{cl:List (Str×Aa)}{n:Nat} 
  (F:PF T X.prog X.w X.K X.mg X.base (j-1)) (jc:X.ex=[]) (ho:X.s₀.heap.get? f=ca (AB name qual params body scope cl zb pm Z vb)) (hn:X.H₀ f=la) (za:f∉X.fs) (hc:X.H₀ Z=ca (frzC oc)) (ya:uy oc qual) (S:CloScope d.N ps scope)
  (L:∀x c,cl.lookup x=ca c->scope.names.lookup x=ca .free/\(∃v,X.s₀.heap.IsCell c v)/\X.H₀ c=la/\c∉X.fs) (inj:∀x y c,cl.lookup x=ca c->cl.lookup y=ca c->x=y) (has:∀x,scope.names.lookup x=ca .free->∃c,cl.lookup x=ca c)
  (hv:∀i x v,d.N[ps.length+i]?=ca x->cvs[i]?=ca v->scope.names.lookup x=ca .free/\∃c u,cl.lookup x=ca c/\RelV v u/\X.s₀.heap.IsCell c (ca u))
  (rc:Eb X.K X.H₀ cs cvs) (zc:d.ps.length=ps.length+cs.length) (xc:d.ps.length<=d.N.length)
  (hb:∀(s:Da) (us:List Ba),us.length=ps.length->Jd s (PySem.W.fnX name qual params body scope cl .none .none zb pm la (.ref Z) vb) ⟨us,[]⟩ (ps.zip us))
  (hr:Room (j+2) X.A) (hd:(T.funs++T.vf)[n]?=ca d) (ok:okSs T ⟨d.N,scope.names⟩ d.body body=da) (un:unSs T ⟨d.N,scope.names⟩ d.body body=body) :
  CloU X f λus G Q E=>Ta T j n (us++cs) G Q E:=by
 have Y:∀b,b∉X.ex:=λb z=>by simp_all
 have R:∀{J:List (Aa×Obj)} {σ:St} {H:Hp} {s:Da} {x:Str} {c:Aa} {v:Option Ba},La X J σ H s->cl.lookup x=ca c->X.s₀.heap.IsCell c v->s.heap.IsCell c v:=λ{J σ H s x c v} I e ⟨o,h1,h2⟩=>
  ⟨o,I.base.keep c o h1 (L x c e).2.2.1 (L x c e).2.2.2 (Y c),h2⟩
 refine⟨λJ σ H s I=>⟨_,_,_,_,I.base.keep f _ ho hn za (Y f)⟩,λJ σ H s us vs Q0 E0 I r va=>?_⟩;obtain⟨zs,G,Q,E,rz,hG,h,lv,lx⟩:=va;obtain _|k:=j
 ·exact(show False from h).elim
 obtain⟨hl,h⟩:=Qm hd h;rw[Ke]at hl;have ja:vs.length=ps.length:=by rw[<- rz.length];lia
 have yb:H Z=ca (frzC oc):=I.base.frzs Z oc _ hc;obtain⟨xa,_⟩:=I.hok Z _ yb;obtain⟨wv,wt,w1,w2⟩:=ya;have jb:=rc.ts (La.tsU I);refine PR (k:=k+2) (cvs:=cvs) (N:=d.N) (ps:=ps) (I.base.keep f _ ho hn za (Y f)) rfl ⟨Z,oc,wv,wt,rfl,xa,w1,w2⟩ S hr I.env0 (hb s us (by rw[<- r.length];exact ja)) r ja (by rw[<- rc.length];lia)
  (λx c e=>⟨(L x c e).1,let ⟨v,z⟩:=(L x c e).2.1;⟨v,R I e z⟩,let ⟨_,o,h1,_⟩:=(L x c e).2.1;I.base.free c o h1 (L x c e).2.2.1 (Y c)⟩) inj has
  (λi x v e1 e2=>let ⟨a,c,u,e,rv,z⟩:=hv i x v e1 e2;⟨a,c,u,e,rv,R I e z⟩) λO=>?_
 refine⟨_,Jy un (Ij d.body (k:=k) (c:=⟨d.N,scope.names⟩) (hs:=body) ⟨⟨rfl,S.nd,λx z=>eq_of_beq z,λx z=>⟨eq_of_beq z,by show(scope.names.lookup x != ca .free)=da;rw[eq_of_beq z];rfl⟩,λx z=>.inr (eq_of_beq z),λx z=>eq_of_beq z,O.mono (by lia),rfl,Yu,F.blt,F.fns,F.gls,O,F.cls,F.mgK⟩,rfl,S.kind,rfl,rfl⟩ ok),?_⟩
 exact⟨_,_,G,Wv (rz.append jb),hG,h,⟨λqc kb G' H' a b c q=>lv .non .non G' H' rfl b c q,λw v G' H' a b c q=>lv w v G' H' a b c q,λJ e s' x qc kb G' H' I sr ka xb f q=>by obtain⟨ea,C0,dx,rfl,l,xd⟩:=ka;exact ed.outC I l (lx x G' H' C0 dx xd xb f q)⟩⟩
def HR.tabNew         (h:HR K H G)(hU:∀t∈tabs,∀t'∈tabs,t.1=t'.1->t=t')(ht:(P,pos,q)∈tabs)(n:OD H H' P pos q c L):HR K H' G/\Fr H G H' G:=by
 obtain⟨Z,J,rfl|⟨O,hn,rfl⟩⟩:=n
 ·exact⟨h,Fr.refl _ _⟩
 have I:∀b,b≠P->b≠c->L2.upd (L2.upd H c (frzC L)) P (.tbl #[Sb pos.line,Sb pos.col,.ref c]) b=H b:=λb h1 h2=>by rw[Ac h1,Ac h2]
 have F:∀{b u},H b=ca u->b≠c:=λ{b u} e z=>by lia
 have ts:TS H (L2.upd (L2.upd H c (frzC L)) P (.tbl #[Sb pos.line,Sb pos.col,.ref c])):=⟨λa Y e=>by grind,λa Y e=>by grind⟩
 refine⟨⟨λa o g=>?_,λt R=>?_⟩,⟨λa o e g nt=>⟨?_,g⟩⟩⟩
 ·have m:=h a o g;obtain⟨ho,e⟩:=m.there;exact m.keep (I a (λz=>by rw[z,h.tblNone O]at g;cases g) (F e)) ts
 ·by_cases e:t.1=P
  ·obtain rfl:=hU t R _ ht e;exact .inr ⟨c,L,Xe,Z,J⟩
  ·rcases h.tab t R with e1|⟨c2,oc2,e1,e2,q2⟩
   ·exact .inl (by simp_all)
   ·exact .inr ⟨c2,oc2,by simp_all,ts.cod _ _ e2,q2⟩
 ·rw[I a (λz=>by rw[z,O]at e;cases e;cases nt) (F e)];exact e
end Z

namespace Z
open PySem L2
noncomputable def nDef  (st:Pa):Pa:=(Yc st).getD 0 (.Pass ⟨0,0,0,0⟩)
noncomputable def capE  : List Nat->Es->Es
 |[],r=>r
 |i::is,r=>.cons (.v i) (capE is r)
noncomputable abbrev five  (r:Es):Es:=.cons .non (.cons .non (.cons .non (.cons .non (.cons .non r))))
structure NestS (T:Vd)(sts:List Pa)(d:Fun)(st:Pa)(z:KC)(dff:Fun)(stff:Pa)(dv dc:Fun):Prop where
 sc:FnScope d.N d.ps (Xb st)
 body:d.body=.cons (.ret (.call z.vi (.cons z.e1 (.cons z.e2 (five (capE z.caps .nil)))))) .nil
 text:∃pos p1 p3 p4 p5 p6 h1 h2,Yc st=[.FunctionDef z.fn (og (nDef st)) (Yc (nDef st)) [] la [] (Xb (nDef st)) la z.fn pos,.Return (ca (.Call (.Name dff.name p1) [h1,h2,.Name z.fn p3,.Name z.sn p4] [] p5)) p6]/\(z.P,pos,d.name ++ ".<locals>." ++ z.fn)∈tabs/\
  okE T ⟨d.N,(Xb st).names⟩ z.e1 h1=da/\bc T ⟨d.N,(Xb st).names⟩ z.e1 h1=h1/\okE T ⟨d.N,(Xb st).names⟩ z.e2 h2=da/\bc T ⟨d.N,(Xb st).names⟩ z.e2 h2=h2
 fi:d.N[z.fni]?=ca z.fn
 fl:(Xb st).names.lookup z.fn=ca .local
 gl:(Xb st).names.lookup dff.name=ca .globalImplicit
 gs:(Xb st).names.lookup z.sn=ca .globalImplicit
 dbg:(z.sn==("__debug__" : Str))=ia/\(z.fn==("__debug__" : Str))=ia/\(z.fn==("__classdict__" : Str))=ia/\(dff.name==("__debug__" : Str))=ia
 caps:∀(i j:Nat),z.caps[i]?=ca j->j<d.ps.length/\∃x,d.N[j]?=ca x/\dc.N[2+i]?=ca x/\(Xb (nDef st)).names.lookup x=ca .free/\(Xb st).names.lookup x=ca .cell
 fge:d.ps.length<=z.fni
 frees:∀y∈(Xb (nDef st)).names,y.2=.free->(Xb st).names.lookup y.1=ca .cell
 as2:z.as'.length=2
 cs:CloScope dc.N z.as' (Xb (nDef st))
 args:(og (nDef st)).defaults=[]/\(og (nDef st)).kw_defaults=[]
 ann:∀env,annTrees (og (nDef st)) la env=[]
 bind:∀(qual:Str) (cl:List (Str×Aa)) (doc pm cv ctv u v:Ba),Gs (PySem.W.fnX z.fn qual (og (nDef st)) (Yc (nDef st)) (Xb (nDef st)) cl .none .none doc pm la cv ctv) ⟨[u,v],[]⟩=pure (z.as'.zip [u,v])
 ff:T.funs[z.ff]?=ca dff
 ffs:sts[z.ff]?=ca stff
 ffb:dff.body=irLT
 ffp:dff.ps.length=4
 ffl:dff.N.length=9
 hdv:(T.funs++T.vf)[z.vi]?=ca dv
 dvb:dv.body=iD z.caps.length z.fi z.si
 dvN:dv.N.length=z.caps.length+7
 hdc:(T.funs++T.vf)[z.fi]?=ca dc
 dcp:dc.ps.length=2+z.caps.length
 dcN:dc.ps.length<=dc.N.length
 ok:okSs T ⟨dc.N,(Xb (nDef st)).names⟩ dc.body (Yc (nDef st))=da
 un:unSs T ⟨dc.N,(Xb (nDef st)).names⟩ dc.body (Yc (nDef st))=Yc (nDef st)
 hs:∃ds,T.funs[z.si]?=ca ds/\ds.name=z.sn
 nz:∀(gs:List U) (Δ:Cl) (ς:Sg) (G:Gp) (Q1:U->U->Gp->Prop) (E:KX),(∀n us G Q E,¬Δ n us G Q E)->¬(Ra gs Δ z.e1).1 ς G (λu1 G1=>(Ra gs Δ z.e2).1 ς G1 (λu2 G2=>Q1 u1 u2 G2) E) E
theorem cF        : ∀{is } {Q },Cd gs Δ (capE is r) y G Q X->∃cs ,cs.length=is.length/\(∀(i j:Nat),is[i]?=ca j->∃u,cs[i]?=ca u/\y[j]?=ca (ca u))/\Cd gs Δ r y G (λus G'=>Q (cs++us) G') X
 |[],_,h=>⟨[],rfl,λ_ _ e=>by simp at e,h⟩
 |i::is,Q,h=>by
  have z:slot y i λx=>Cd gs Δ (capE is r) y G (λF J=>Q (x::F) J) X:=h;obtain⟨u,e,z⟩:=Wr z;obtain⟨cs,L,R,I⟩:=cF z;refine⟨u::cs,by simp[L],λa j O=>?_,I⟩
  cases a with
  |zero=>simp_all
  |succ a=>simp_all
def QG  {n i:Nat}(h:(Qb n us)[i]?=ca (ca u)):us[i]?=ca u:=by
 unfold Qb at h;by_cases y:i<us.length
 ·rw[Qn (by simpa using y),Lf]at h
  cases e:us[i]? with
  |none=>rw[e]at h;cases h
  |some a=>rw[e]at h;simpa using h
 ·rw[At (by simpa using y),mx]at h
  split at h<;>cases h
def dU    {i:Nat}(h:vs[i]?=ca v):(L2.start N vs)[i]?=ca (ca v):=by
 unfold L2.start;have y:=(Ka.mp h).1;rw[Qn (by simpa using y),Lf,h]
 rfl
def OP    : Qb (cs.length+7) (y::st::.non::.non::.non::.non::.non::cs)=ig y st .non .non (ca .non) (ca .non) (ca .non) cs:=by
 unfold Qb ig;simp
theorem mG      (r:Eb K H us vs):∀{is:List Nat} {cs },cs.length=is.length->(∀(i j:Nat),is[i]?=ca j->∃u,cs[i]?=ca u/\us[j]?=ca u)->∃cvs ,Eb K H cs cvs/\cvs.length=is.length/\∀(i j:Nat) v ,is[i]?=ca j->cvs[i]?=ca v->vs[j]?=ca v
 |[],[],_,_=>⟨[],rfl,rfl,λ_ _ _ e=>by simp at e⟩
 |[],_::_,h,_=>by simp at h
 |_::_,[],h,_=>by simp at h
 |j::is,c::cs,hl,h=>by
  obtain⟨u,R,O⟩:=h 0 j rfl;have:c=u:=by simp_all
  subst this;obtain⟨v,L,I⟩:=r.get O;obtain⟨cvs,r2,J,F⟩:=mG r (is:=is) (cs:=cs) (by simp_all) λi y e=>by simpa using h (i+1) y (by simpa using e)
  refine⟨v::cvs,⟨v,cvs,rfl,I,r2⟩,by simp[J],λi y w e z=>?_⟩
  cases i with
  |zero=>simp at e z;subst e;subst z;exact L
  |succ i=>exact F i y w (by simpa using e) (by simpa using z)
def QR     {d:Fun}(F:L2.Fun X.K d.name d.name st g xa)(O:FnOk X.prog X.w X.K X.mg X.base (ed X.prog X.w) j g fd d.ps (Gg X.K t))(R:Binds X.K fd d.ps [])(hr:Room j X.A):CloU X g t:=
 ⟨λJ σ H s I=>let ⟨_,_,_,_,_,_,_,_,_,_,Y,_⟩:=F.ex;⟨_,_,_,_,I.kIn _ _ Y⟩,λJ σ H s L vs Q0 E0 I r z=>by
  have Z:=O.len _ _ _ _ z;have y:=R s L I.kIn (by rw[Li,<- r.length];exact Z)
  rw[Li]at y;exact O.run X.A X.stack s H ⟨L,[]⟩ L vs Q0 E0 hr I.env0 y r z⟩

def TQ  {T: Vd}{sts:List Pa}{d L dv dc ds:Fun}(N:NestS T sts d st z L O dv dc)(hU:∀t∈tabs,∀t'∈tabs,t.1=t'.1->t=t')(zc:FnScope L.N L.ps (Xb O))(ze:okSs T ⟨L.N,(Xb O).names⟩ L.body (Yc O)=da)(yg:unSs T ⟨L.N,(Xb O).names⟩ L.body (Yc O)=Yc O)
  (F:L2.Fun K d.name d.name st f fd) (qf:L2.Fun K L.name L.name O jb xf) (xj:mg L.name=ca (.ref jb)) (wh:Binds K xf L.ps []) (yb:∃c,fd.code=.ref c/\JK base c z.P) (hB:BmAt mg base) (pf:PF T P w K mg base (j-1)) (va:PF T P w K mg base (j+1)) (hd:(T.funs++T.vf)[n]?=ca d)
  (Fg:L2.Fun K ds.name ds.name vj g yk) (zg:FnOk P w K mg base (ed P w) (j+2) g zi ds.ps (Gg K (Ta T j z.si))) (jh:mg ds.name=ca (.ref g)) (bg:Binds K zi ds.ps []) (ji:ds.name=z.sn) :
  FnOk P w K mg base (ed P w) (j+4) f fd d.ps (Gg K (Ta T (j+2) n)):=by
 have vb:∀vs H Q E,Gg K (Ta T (j+2) n) vs H Q E->vs.length=d.ps.length:=λvs H Q E ⟨us,G,Q',E',r,hG,h,lv,lx⟩=>by rw[<- r.length];exact(Qm hd h).1
 refine⟨vb,λA vc s H yj kj vs Q E hr e0 hb r jc=>F.runX (k:=j+3) N.sc hr e0 hb r (vb _ _ _ _ jc) λvg we za=>?_⟩;have xk:=vb _ _ _ _ jc;obtain⟨us,G,Q',E',ru,hG,h,lv,lx⟩:=jc;obtain⟨zk,h⟩:=Qm hd h;rw[N.body]at h;have h:(Ra T.gs (Ta T (j+1)) z.e1).1 (Qb d.N.length us) G (λu1 G1=>(Ra T.gs (Ta T (j+1)) z.e2).1 (Qb d.N.length us) G1 (λu2 G2=>Cd T.gs (Ta T (j+1)) (capE z.caps .nil) (Qb d.N.length us) G2 (λzs G3=>Ta T (j+1) z.vi (u1::u2::.non::.non::.non::.non::.non::zs) G3 Q' λx G'=>E' x G') λx G'=>E' x G') λx G'=>E' x G') λx G'=>E' x G':=h;obtain⟨c,kh,wg⟩:=yb;obtain⟨pos,p1,p3,p4,p5,p6,h1,h2,he,ka,qi,jd,yi,kc⟩:=N.text
 let R:=Ym P w K mg base d.N d.name (Xb st) f vg A vc s H E
 have S:=N.sc;have C0:Cok T (j+1) R ⟨d.N,(Xb st).names⟩:=⟨rfl,S.nd,λx z=>eq_of_beq z,λx z=>⟨eq_of_beq z,rfl⟩,λx z=>.inr (eq_of_beq z),λx z=>eq_of_beq z,za.mono (by lia),rfl,Yu,va.blt,va.fns,va.gls,za,va.cls,va.mgK⟩
 have xi:PE R h1 (lE R (Ra T.gs (Ta T (j+1)) z.e1).1):=jd ▸ (sE z.e1 C0 qi).1;have qg:PE R h2 (lE R (Ra T.gs (Ta T (j+1)) z.e2).1):=kc ▸ (sE z.e2 C0 yi).1;have je:Rk h1=da:=jd ▸ Jf (T:=T) (c:=⟨d.N,(Xb st).names⟩) z.e1 h1;have qd:Rk h2=da:=kc ▸ Jf (T:=T) (c:=⟨d.N,(Xb st).names⟩) z.e2 h2;refine⟨λD wd H'=>wd=L2.start d.N vs/\H'=H/\D.rt=Q,λja s1 hj H1 D I ⟨e1,e2,e3⟩=>?_,rfl,rfl,rfl⟩;subst e1;subst e2;subst e3;rw[he];have hq:nl R.env z.fn z.fn=d.name ++ ".<locals>." ++ z.fn:=by
  unfold nl;have:R.env.kindOf z.fn=ca .local:=N.fl;rw[this];rfl
 refine On (mT (X:=R) (c:=c) (P:=z.P) (i:=z.fni) I N.sc.nd N.fi (.inl N.fl) (.inr N.fl) (we.symm.trans kh) wg hB (by rw[hq];exact hG.tab _ ka) N.args.1 N.args.2 (N.ann _)
  (λy hy hf=>I.ok.has y.1 (.inl (N.frees y hy hf))) λf' c' oc zf ye H' s2 tn J=>?_)
 rw[hq]at tn J;obtain⟨qc,ya⟩:=hG.tabNew hU ka tn
 let xa:St:=(L2.start d.N vs).set z.fni (ca (.ref f'))
 have zh:xa[z.fni]?=ca (ca (.ref f')):=by
  show((L2.start d.N vs).set z.fni (ca (.ref f')))[z.fni]?=_;rw[Rp (by have:=I.len;rw[this];exact(Ka.mp N.fi).1)]
 have yd:SR K H' (Qb d.N.length us) xa:=by
  obtain⟨l0,g0⟩:=Wv (N:=d.N) (ru.ts (ya.ts hG));refine⟨by rw[l0];simp[xa],λi u e=>?_⟩
  obtain⟨v,ev,rv⟩:=g0 i u e;refine⟨v,?_,rv⟩;have kg:z.fni≠i:=λq=>by
   have:=(Ka.mp (QG e)).1;have:=N.fge
   lia
  show((L2.start d.N vs).set z.fni (ca (.ref f')))[i]?=_;rw[uj kg];exact ev
 have xe:∀{H9:Hp} {G9:Gp},Fr H1 G H9 G9->LX R xa H9 G9 λx G'=>E' x G':=λ{H9 G9} fr ja e s' x G' H' I1 zb xc fx q=>by
  obtain⟨ea,C1,dx,rfl,l,xd⟩:=zb;exact ed.out1 I1 l (lx x G' H' C1 dx xd xc (fr.trans fx) q)
 have kb:wpAny (Fa R.prog R.w) R.A (lb (.Call (.Name L.name p1) [h1,h2,.Name z.fn p3,.Name z.sn p4] [] p5) R.env) (EP R (ja++[(f',AB z.fn (d.name ++ ".<locals>." ++ z.fn) (og (nDef st)) (Yc (nDef st)) (Xb (nDef st)) (ng R.env.cells (Xb (nDef st)).names []) zf ((mg "__name__").getD .none) c' ye)]) xa D.rt) R.xe s2:=by
  have pa:PA R [h1,h2,.Name z.fn p3,.Name z.sn p4] (Jr (lE R (Ra T.gs (Ta T (j+1)) z.e1).1) (Jr (lE R (Ra T.gs (Ta T (j+1)) z.e2).1) (Jr (tVar z.fni) (Jr (tC (.ref g)) tNil)))):=
   Jh xi (Jh qg (Jh (Ji N.fi (.inl N.fl) N.dbg.2.1 N.dbg.2.2.1) (Jh (Zy N.gs (by rw[<- ji];exact jh) rfl N.dbg.1) Mm)) (Ef qd _ _)) (Ef je _ _)
  refine rl (jp J N.gl xj ?_ N.dbg.2.2.2);refine UB (h₀:=base) J.ok.mod.kin qf.kp (Db (pa p5 _ s2 xa H' (λvd H3=>∃u1 u2 v1 v2 G3,vd=[v1,v2,.ref f',.ref g]/\RU K H3 u1 v1/\RU K H3 u2 v2/\HR K H3 G3/\Fr H' G H3 G3/\
    Cd T.gs (Ta T (j+1)) (capE z.caps .nil) (Qb d.N.length us) G3 (λzs G3=>Ta T (j+1) z.vi (u1::u2::.non::.non::.non::.non::.non::zs) G3 Q' λx G'=>E' x G') λx G'=>E' x G') J
   ⟨_,G,_,_,yd,qc,h,λu1 v1 G1 H1 r1 qe f1 q1=>⟨_,G1,_,_,yd.ts (f1.ts qc),qe,q1,λu2 v2 G2 H2 r2 wf f2 q2=>⟨_,zh,u1,u2,v1,v2,G2,rfl,r1.ts (f2.ts qe),r2,wf,f1.trans f2,q2⟩,xe (ya.trans f1)⟩,xe ya⟩) λke s3 ⟨vd,H3,J3,r3,u1,u2,v1,v2,G3,e1,hg,ki,vf,jf,q3⟩=>⟨J3.kIn,?_⟩) (Ef je _ _) (by rw[Ef qd];rfl)
  subst e1;have yc:=ya.trans jf;obtain⟨cs,wc,jj,q3⟩:=cF q3;obtain⟨cvs,kf,jk,wi⟩:=mG ru wc λi j e=>let ⟨u,a,b⟩:=jj i j e;⟨u,a,QG b⟩
  have q3:Ta T (j+1) z.vi (u1::u2::.non::.non::.non::.non::.non::(cs++[])) G3 Q' λx G'=>E' x G':=q3;rw[Li]at q3;obtain⟨_,q3⟩:=Qm N.hdv q3;rw[N.dvb,N.dvN,<- wc,OP]at q3;have l3:ke.length=L.ps.length:=by rw[<- r3.length,N.ffp];rfl
  have zd:=wh s3 ke J3.kIn (by simp_all)
  rw[Li]at zd;refine Ms (Qp (qf.runX (k:=j+2) (Q:=D.rt) (E:=EB R xa) zc za J3.env0 zd r3 (by rw[N.ffp];rfl) λxb _ Y=>?_) λr s' hq=>?_)
  ·have hp:=J3.pin (f',AB z.fn (d.name ++ ".<locals>." ++ z.fn) (og (nDef st)) (Yc (nDef st)) (Xb (nDef st)) (ng R.env.cells (Xb (nDef st)).names []) zf ((mg "__name__").getD .none) c' ye) (Ag _ (Ag _ (Ea.mpr rfl)));obtain⟨xg,hh,zj,jg,_⟩:=hp;have nofs:∀b,b≠R.env.locals->b∉R.fs->b∉uf R.stack:=λb h1 h2 hb=>(Oc.mp (J3.stkSub b hb)).elim h1 h2;have Z:∀x c,(ng R.env.cells (Xb (nDef st)).names []).lookup x=ca c->R.env.cells.lookup x=ca c/\(x,Ue)∈(Xb (nDef st)).names:=λx c e=>(AF e).elim id λz=>by cases z
   obtain⟨m,ql,ve⟩:=J3.loc;have qj:=EN (T:=T) (j:=j) (X:=Ym P w K mg base L.N L.name (Xb O) jb xb R.A R.stack s3 H3 (EB R xa)) (d:=dc) (n:=z.fi) (cs:=cs) (cvs:=cvs) (ps:=z.as') pf rfl xg hh (nofs f' zj jg) ((jf.ts qc).cod _ _ tn.1) tn.2.1 N.cs
    (λx c e=>⟨N.cs.frees x (Z x c e).2,J3.cell x c (Z x c e).1,J3.freeC x c (Z x c e).1,nofs c (J3.cne x c (Z x c e).1) λhb=>by
     obtain⟨_,o,ho,_⟩:=J3.ok.funs.mem hb;exact absurd (Nc ho) (Ub.mpr (J3.ok.cab x c rfl (Z x c e).1))⟩)
    (λx y c e1 e2=>J3.ok.inj x y c (Z x c e1).1 (Z y c e2).1)
    (λx e=>by
     have hm:=cg e;obtain⟨c,hc⟩:=J3.ok.has x (.inl (N.frees _ hm rfl));exact⟨c,Sz hc hm⟩)
    (λi x v e1 e2=>by
     have hi:i<z.caps.length:=by grind
     obtain⟨jl,y,g1,g2,g3,g4⟩:=N.caps i z.caps[i] (by simp[hi])
     have:x=y:=by
      have:=N.as2
      simp_all
     subst this;refine⟨g3,?_⟩;have ev:=wi i z.caps[i] v (by simp[hi]) e2
     have es:xa[z.caps[i]]?=ca (ca v):=by
      show((L2.start d.N vs).set z.fni (ca (.ref f')))[z.caps[i]]?=_;rw[uj (by have:=N.fge;lia)]
      exact dU ev
     obtain⟨u,rv,lk⟩:=ve z.caps[i] x v g1 es (.inr (.inl g4));rcases lk with⟨k1,_⟩|⟨_,c,hc,hcell⟩
     ·have k2:(Xb st).names.lookup x=ca .local:=k1
      lia
     ·exact⟨c,u,Sz hc (cg g3),rv,hcell⟩)
    (kf.ts (yc.ts hG)) (by rw[N.dcp,wc,N.as2]) N.dcN (λs us hl=>by
     have:=N.as2;obtain _|⟨u,_|⟨v,_|⟨_,_⟩⟩⟩:=us
     ·rw[this]at hl;cases hl
     ·rw[this]at hl;cases hl
     ·exact .of_eq (N.bind _ _ _ _ _ _ _ _)
     ·rw[this]at hl;simp at hl) Y N.hdc N.ok N.un
   have yf:=QR (X:=Ym P w K mg base L.N L.name (Xb O) jb xb R.A R.stack s3 H3 (EB R xa)) Fg zg bg Y;refine⟨_,Jy yg (by
    rw[N.ffb]at ze ⊢;exact OQ (T:=T) (k:=j-1) (c:=⟨L.N,(Xb O).names⟩) ⟨⟨rfl,zc.nd,λx z=>eq_of_beq z,λx z=>⟨eq_of_beq z,rfl⟩,λx z=>.inr (eq_of_beq z),λx z=>eq_of_beq z,Y.mono (by lia),rfl,Yu,pf.blt,pf.fns,pf.gls,Y.mono (by lia),pf.cls,pf.mgK⟩,rfl,zc.kind,rfl,rfl⟩ qj yf ze),?_⟩
   have xh:Eb K H3 [u1,u2,.loc f',.loc g] [v1,v2,.ref f',.ref g]:=⟨_,_,rfl,hg,_,_,rfl,ki,_,_,rfl,rfl,_,_,rfl,rfl,rfl⟩;have sr:=Wv (N:=L.N) xh;rw[N.ffl]at sr;refine⟨⟨λ_ _=>False,Q',λx _ G'=>E' x G'⟩,_,G3,sr,vf,yP q3,⟨λ_ _ _ _ _ _ _ q=>q.elim,λw v G' H' a b c q=>lv w v G' H' a b (yc.trans c) q,λja e s' x qk wd G' H' I1 sr zb xc fx q=>?_⟩⟩;obtain⟨ea,C1,dx,rfl,l,xd⟩:=zb;exact ed.out1 I1 l λyh wj vk vi vh=>ed.out1 vi vh (lx x G' H' C1 dx xd xc (yc.trans fx) q)
  ·cases r with
   |error e=>
    obtain⟨ea,H',wk,dx,rfl,I',l,q⟩:=ed.back J3 hq;exact q _ ea s' I' l
   |ok fl=>
    cases fl with
    |ret u=>exact J3.after hq
    |next=>exact Qh hq
    |brk=>exact Qh hq
    |cont=>exact Qh hq
 refine On (wpAny_Return_some (Db kb λu s3 ⟨v,H3,I3,rv,q⟩=>?_));exact⟨v,xa,H3,I3.unpinned,rv,q⟩
noncomputable def Bk  (N ps:List Str)(sc:Cc):Bool:=
 decide (sc.kind=.function) && !sc.isCoroutine && !sc.isGenerator&&decide N.Nodup&&(N.take ps.length==ps)&&ps.all (λx=>sc.names.lookup x==ca .local||sc.names.lookup x==ca .cell)&&sc.names.all (λy=>y.2 != .free)
def Gr    (h:Bk N ps sc=da):FnScope N ps sc:=by
 unfold Bk at h;simp only[Lc,decide_eq_true_eq,Vs]at h;obtain⟨⟨⟨⟨⟨⟨J,I⟩,F⟩,L⟩,z⟩,Y⟩,O⟩:=h;refine⟨J,I,F,L,eq_of_beq z,λx R=>?_,λy Z=>?_⟩
 ·simp_all
 grind
noncomputable def cloB  (N ps:List Str)(sc:Cc):Bool:=
 decide (sc.kind=.function) && !sc.isCoroutine && !sc.isGenerator&&decide N.Nodup&&(N.take ps.length==ps)&&ps.all (λx=>sc.names.lookup x==ca .local)&&sc.names.all (λy=>y.2 != .cell)&&sc.names.all (λy=>y.2 != .free||sc.names.lookup y.1==ca .free)
def zP    (h:cloB N ps sc=da):CloScope N ps sc:=by
 unfold cloB at h;simp only[Lc,decide_eq_true_eq,Vs]at h;obtain⟨⟨⟨⟨⟨⟨⟨L,I⟩,F⟩,O⟩,z⟩,Z⟩,R⟩,Y⟩:=h;refine⟨L,I,F,O,eq_of_beq z,λx J=>?_,λy hy=>?_,λx J=>?_⟩
 ·simp_all
 ·grind
 grind
noncomputable def Mj  (T:Vd):Nat->List Fun->List Pa->Bool
 |_,[],[]=>da
 |i,d::ds,st::sts=>Bk d.N d.ps (Xb st)&&((T.ns.lookup i).isSome||okSs T ⟨d.N,(Xb st).names⟩ d.body (Yc st))&&Mj T (i+1) ds sts
 |_,_,_=>ia
def Hk  (T:Vd)(all:List Pa):Nat->List Fun->List Pa->Prop
 |_,[],_=>True
 |i,d::ds,st::sts=>(match T.ns.lookup i with
  |none=>unSs T ⟨d.N,(Xb st).names⟩ d.body (Yc st)=Yc st
  |some z=>T.ns.lookup z.ff=la/\∃F y dv I,NestS T all d st z F y dv I)/\Hk T all (i+1) ds sts
 |_,_::_,[]=>False
theorem Um {T:Vd}{all:List Pa}:∀{i:Nat} {ds:List Fun} {sts:List Pa},Mj T i ds sts=da->Hk T all i ds sts->∀{n:Nat} {d:Fun},ds[n]?=ca d->∃st,sts[n]?=ca st/\Bk d.N d.ps (Xb st)=da/\(match T.ns.lookup (i+n)with
  |none=>okSs T ⟨d.N,(Xb st).names⟩ d.body (Yc st)=da/\unSs T ⟨d.N,(Xb st).names⟩ d.body (Yc st)=Yc st
  |some z=>T.ns.lookup z.ff=la/\∃J y dv R,NestS T all d st z J y dv R)
 |_,[],_,_,_,_,_,e=>by simp at e
 |_,_::_,[],h,_,_,_,_=>by unfold Mj at h;cases h
 |i,d::ds,st::sts,h,g,n,d',e=>by
  unfold Mj at h;unfold Hk at g;simp only[Lc]at h;cases n with
  |zero=>
   simp at e;subst e;refine⟨st,rfl,h.1.1,?_⟩;have F:=g.1;have L:=h.1.2;rw[Nat.add_zero];cases q:T.ns.lookup i with
   |none=>rw[q]at F L;exact⟨by simpa using L,F⟩
   |some z=>rw[q]at F;exact F
  |succ n=>
   obtain⟨I,O,q⟩:=Um h.2 g.2 (n:=n) (by simpa using e)
   rw[show i+1+n=i+(n+1) by lia]at q
   exact⟨I,by simpa using O,q⟩
noncomputable def Ur  (K:Hb)(v:Ba)(P:Aa):Bool:=match v with
 |.ref c=>(match K.lookup c with
  |some ⟨.type t,_,.fields vs,_⟩=>t == "code" && (match (vs[11]?:Option Ba)with|some (.ref Q)=>Q==P|_=>ia)&&(match vs.getD 18 .none with|.str _ _=>da|_=>ia)&&(match vs.getD 7 .none with|.int _ _=>da|_=>ia)
   && (match vs.getD 9 .none with|.bool _=>da|_=>ia)&&(match vs.getD 10 .none with|.int _ _=>da|_=>ia)&&c != P
  |_=>ia)
 |_=>ia
def IT      (X:K.In h)(q:Ur K v P=da):∃c,v=.ref c/\JK h c P:=by
 unfold Ur at q;split at q
 ·rename_i c;split at q
  ·rename_i t J I R hk;simp only[Lc]at q;obtain⟨⟨⟨⟨⟨⟨q1,q2⟩,q3⟩,q4⟩,q5⟩,q6⟩,q7⟩:=q;refine⟨c,rfl,⟨.type t,J,.fields I,R⟩,I,?_⟩;have O:=X c _ hk;split at q2
   ·rename_i Q y;obtain rfl:Q=P:=by lia
    split at q3
    ·rename_i s1 t1 z;split at q4
     ·rename_i s2 t2 Z;split at q5
      ·rename_i b L;split at q6
       ·rename_i Y t3 F;exact⟨s1,t1,s2,t2,b,Y,t3,O,by rw[eq_of_beq q1],rfl,y,by rw[Array.getD_eq_getD_getElem?,y];rfl,z,Z,L,F,by simpa using q7⟩
       lia
      lia
     lia
    lia
   lia
  lia
 lia
section
variable {T:Vd}{P:Ib}{w:ib}{K:Hb}{mg:Str->Option Ba}{base:Va}
def Lv  {j n:Nat}{t:List U->Gp->K1->KX->Prop}(z:∀us G Q E,¬t us G Q E):FnOk P w K mg base (ed P w) j f fd ps (Gg K t):=
 ⟨λI H Q E ⟨_,_,_,_,_,_,h,_⟩=>(z _ _ _ _ h).elim,λA y s H F us I Q E _ _ _ _ ⟨_,_,_,_,_,_,h,_⟩=>(z _ _ _ _ h).elim⟩
def OF       (F:L2.Fun K d.name d.name st f fd)(h1:Bk d.N d.ps (Xb st)=da)(h2:okSs T ⟨d.N,(Xb st).names⟩ d.body (Yc st)=da)(h3:unSs T ⟨d.N,(Xb st).names⟩ d.body (Yc st)=Yc st)
  (y:PF T P w K mg base k) (hd:T.funs[n]?=ca d):FnOk P w K mg base (ed P w) (k+3) f fd d.ps (Gg K (Ta T (k+1) n)):=by
 have S:=Gr h1;refine F.okX S (λvs H Q E ⟨us,G,Q',E',r,hG,h,R,lx⟩=>by rw[<- r.length];exact(Qm (fv hd) h).1) λya A xa s H vs Q E hr O=>?_
 obtain⟨us,G,Q',E',r,hG,h,R,lx⟩:=O;obtain⟨hl,h⟩:=Qm (fv hd) h;refine⟨_,Jy h3 (Ij d.body (k:=k) (c:=⟨d.N,(Xb st).names⟩) (hs:=Yc st) ⟨⟨rfl,S.nd,λx z=>eq_of_beq z,λx z=>⟨eq_of_beq z,rfl⟩,λx z=>.inr (eq_of_beq z),λx z=>eq_of_beq z,hr.mono (by lia),rfl,Yu,y.blt,y.fns,y.gls,hr,y.cls,y.mgK⟩,rfl,S.kind,rfl,rfl⟩ h2),?_⟩
 exact⟨_,_,G,Wv r,hG,h,⟨λja za J L a b c q=>R .non .non J L rfl b c q,λw v J L a b c q=>R w v J L a b c q,λva e s' x ja za J L I sr Y Z f q=>by obtain⟨ea,C0,dx,rfl,l,xd⟩:=Y;exact ed.out1 I l (lx x J L C0 dx xd Z f q)⟩⟩
abbrev LC  (T:Vd)(K:Hb)(mg:Str->Option Ba)(sts:List Pa):Prop:=∀(n:Nat) (d:Fun) (st:Pa),T.funs[n]?=ca d->sts[n]?=ca st->∃(f:Aa) (fd:Bp),L2.Fun K d.name d.name st f fd/\mg d.name=ca (.ref f)/\Binds K fd d.ps []/\∀z,T.ns.lookup n=ca z->Ur K fd.code z.P=da
def oS  {sts:List Pa}(I:Mj T 0 T.funs sts=da)(O:Hk T sts 0 T.funs sts)(J:LC T K mg sts)(hU:∀t∈tabs,∀t'∈tabs,t.1=t'.1->t=t')(ka:K.In base)(hB:BmAt mg base)
  (hb:∀x∈Qj,mg x=la) (hg:∀(n:Nat) x u ,T.gn[n]?=ca x->T.gs[n]?=ca u->∃v w,mg x=ca w/\RelV v w/\∀H,RU K H u v) (hc:∀n∈T.cs,1<=n->∃C,XCls K (gK K) (clsN n) (clsF n) C) (hm:∀x v,gK K x=ca v->mg x=ca v) :
  ∀k ,PF T P w K mg base k:=by
 intro k
 induction k using Nat.strongRecOn with
 |ind k ih=>
  refine⟨hb,λn d hd=>?_,hg,hc,hm⟩;obtain⟨st,e,h1,R⟩:=Um I O hd;obtain⟨f,fd,F,m,b,hz⟩:=J n d st hd e;refine⟨f,fd,?_,m,F.kp,b⟩;rw[Rw]at R;cases q:T.ns.lookup n with
  |none=>
   rw[q]at R;obtain _|k:=k
   ·exact Lv (n:=n) λ_ _ _ _ h=>h
   ·exact OF F h1 R.1 R.2 (ih k (by lia)) hd
  |some z=>
   rw[q]at R;obtain⟨ja,za,Z,dv,dc,N⟩:=R;obtain _|_|j:=k
   ·exact Lv (n:=n) λ_ _ _ _ h=>h
   ·refine Lv (n:=n) λus G Q E h=>?_;obtain⟨_,h⟩:=Qm (fv hd) h;rw[N.body]at h;exact N.nz T.gs (Ta T 0) (Qb d.N.length us) G (λu1 u2 G2=>Cd T.gs (Ta T 0) (five (capE z.caps .nil)) (Qb d.N.length us) G2 (λzs G3=>Ta T 0 z.vi (u1::u2::zs) G3 Q λx Y=>E x Y) λx Y=>E x Y) (λx Y=>E x Y) (λ_ _ _ _ _ h=>h) h
   ·obtain⟨st2,e2,g1,g2⟩:=Um I O N.ff;rw[Rw,ja]at g2;obtain⟨qc,yb,va,xb,vb,_⟩:=J z.ff za st2 N.ff e2;have:st2=Z:=by rw[N.ffs]at e2;lia
    subst this;obtain⟨ds,L,jb⟩:=N.hs;obtain⟨st3,e3,_,_⟩:=Um I O L;obtain⟨g,xc,Fg,xa,bg,_⟩:=J z.si ds st3 L e3;obtain⟨g',kb,ya,y,_,zb⟩:=(ih j (by lia)).fns z.si ds L
    have eg:g'=g:=by rw[xa]at y;simpa using y.symm
    subst eg;exact TQ N hU (Gr g1) g2.1 g2.2 F va xb vb (IT ka (hz z q)) hB (ih (j-1) (by lia)) (ih (j+1) (by lia)) (fv hd) Fg ya xa zb jb
noncomputable def G0  (a:Aa)(ns:List Int):Gp:=λb=>if b=a then ca (.fro (ns.map .int)) else la
theorem aF   : ∀ns:List Int,Eb K H (ns.map .int) (ns.map V.int)
 |[]=>rfl
 |_::r=>⟨_,_,rfl,rfl,aF r⟩
def law_sp        (hT:∀t∈tabs,t.1∈tb)(y:Uu tb H)(fr:H a=ca (.frz o (.lst (ns.map V.int))))(h:Ta T k n [.loc a] (G0 a ns) (λu _=>u=.bl da) λ_ _=>False) :
  Gg K (Ta T k n) [.ref a] H (λv _=>v=.bl da) λ_ _ _=>False:=by
 refine⟨[.loc a],G0 a ns,_,_,⟨_,_,rfl,rfl,rfl⟩,⟨λb F e=>?_,λt I=>.inl ?_⟩,h,λw v J L r _ _ q=>?_,λ_ _ _ _ _ _ _ _ z=>z.elim⟩
 ·unfold G0 at e;split at e
  ·rename_i z;subst z;cases e;exact⟨o,_,fr,aF ns⟩
  lia
 ·have:=y t.1
  grind
 ·subst q;exact r
end

def OV  {T: Vd}{sts:List Pa}(F:L2.Fun K d.name d.name st f fd)(y:Mj T 0 T.funs sts=da)(z:Hk T sts 0 T.funs sts)(J:LC T K mg sts)(hU:∀t∈tabs,∀t'∈tabs,t.1=t'.1->t=t')(L:K.In base)(hB:BmAt mg base)
  (O:∀x∈Qj,mg x=la) (hg:∀(n:Nat) x u ,T.gn[n]?=ca x->T.gs[n]?=ca u->∃v w,mg x=ca w/\RelV v w/\∀H,RU K H u v) (R:∀n∈T.cs,1<=n->∃C,XCls K (gK K) (clsN n) (clsF n) C) (hm:∀x v,gK K x=ca v->mg x=ca v) (hd:T.funs[n]?=ca d) (hs:sts[n]?=ca st) (Z:T.ns.lookup n=la) :
  FnOk P w K mg base (ed P w) (k+2) f fd d.ps (Gg K (Ta T k n)):=by
 cases k with
 |zero=>exact Lv (n:=n) λ_ _ _ _ h=>h
 |succ k=>
  obtain⟨xa,e,Y,I⟩:=Um y z hd;rw[hs]at e;cases e;rw[Rw,Z]at I;exact OF F Y I.1 I.2 (oS y z J hU L hB O hg R hm k) hd

def NM    (h:gK K x=ca v):yh K Ud x=ca (ca v):=by
 unfold gK at h;cases q:yh K Ud x with
 |none=>simp_all
 |some o=>simp_all
def BO    (X:K.In h)(G:h.Ns Ud mg):∀x v,gK K x=ca v->mg x=ca v:=λ_ _ e=>Ys X G (NM e)
def tD    (h:yh K Ud x=ca (ca v)):gK K x=ca v:=by unfold gK;rw[h];rfl
noncomputable def ky  : List Str:=["__module__", "__firstlineno__", "__static_attributes__", "__weakref__", "__doc__"]
noncomputable def kD  : List Str:=["__module__", "__firstlineno__", "__init__", "__static_attributes__", "__doc__"]
def offB  (z:List Str):Bool:=offN.all λy=>!z.contains y
def iE   {m:Str->Option Ba}(h:offB F=da)(z:∀x,x∉F->m x=la):∀y∈offN,m y=la:=λy I=>z y (by
 have:=Qa.mp h y I
 simp_all)
def jU     {hd Y:Bool}(a:yh K Ud "PlanError" = ca (ca (.ref D)))(R:oj K (.ref D)=da)
  (l:K.lookup D=ca (vn "PlanError" q D F bs mj hd sn sub Y col dd k0 k1 k2 k3 k5 J)) (n:Vo K F=ca z) (I:offB z=da) (Z:z.contains ("__init__" : Str)=ia):∃O,XBase K (gK K) D O:=by
 obtain⟨m,L,y,_⟩:=pD n;exact⟨m,tD a,R,⟨_,_,_,_,_,_,_,_,_,_,_,_,_,_,_,l,L⟩,iE I y,y _ (by simp_all)⟩
def fS               (B:XBase K (gK K) D mD)(a:yh K Ud x=ca (ca (.ref C)))(kp:oj K (.ref C)=da)
  (l:K.lookup C=ca (vn x q C N bs (.ref D::mj) da sn sub ab col dd k0 k1 k2 k3 k5 "ValueError.__new__")) (n:Vo K N=ca ks) (h1:offB ks=da) (i:yh K N "__init__" = ca (ca (.ref O))) (F:L2.Fun K "__init__" qual st O fd) (lf:K.lookup O=ca ⟨.type "function",od,.func fd,xa⟩)
  (S:Bk (("self" : Str)::fs) ("self" :: fs) (Xb st)=da) (b:Binds K fd (("self" : Str)::fs) []) (z:((("self" : Str)::fs).all λy=>(Xb st).names.lookup y==ca .local)=da)
  (bd:(∃f p1 R L pos,fs=[f]/\Yc st=[.Assign [.Attribute (.Name "self" p1) f R] (.Name f L) pos])\/∃f I p1 R L pos q1 q2 q3 Z,fs=[f,I]/\f≠I/\Yc st=[.Assign [.Attribute (.Name "self" p1) f R] (.Name f L) pos,.Assign [.Attribute (.Name "self" q1) I q2] (.Name I q3) Z]):XCls K (gK K) x fs C:=by
 obtain⟨m,hn,J,Y⟩:=pD n;exact⟨tD a,kp,D,N,O,m,mD,B,⟨_,_,_,_,_,_,_,_,_,_,_,_,l⟩,hn,iE h1 J,Y _ _ i,st,qual,fd,F,⟨_,_,lf⟩,Gr S,b,λy hy=>eq_of_beq (Qa.mp z y hy),bd⟩
def WE     : Td (Td G a o) a u=Td G a u:=by funext b;unfold Td;lia
def Sm  (f:Aa)(G G':Gp):Prop:=∀b o,b≠f->G b=ca o->G' b=ca o
def Sa  (G G':Gp):Prop:=∀b o,G b=ca o->G' b=ca o
def Sm.refl    : Sm f G G:=λ_ _ _ h=>h
def Sa.refl   : Sa G G:=λ_ _ h=>h
def Sm.trans    (a:Sm f G G1)(b:Sm f G1 G2):Sm f G G2:=λc o n h=>b c o n (a c o n h)
def Sa.trans   (a:Sa G G1)(b:Sa G1 G2):Sa G G2:=λc o h=>b c o (a c o h)
def Sa.sm    (a:Sa G G'):Sm f G G':=λc o _ h=>a c o h
def Sa.new     (h:G p=la):Sa G (Td G p o):=λc u e=>by
 rw[Ii (λz=>by lia)];exact e
def Sm.put     : Sm f G (Td G f o):=λc u n e=>by rw[Ii n];exact e
def Xy  {G:Gp}(h:G a=ca o)(y:G p=la):p≠a:=λz=>by lia
def Wh.at     (n:Wh G p o G'):G' p=ca o:=by rw[n.eq];exact Lh
def Wh.sa     (n:Wh G p o G'):Sa G G':=by rw[n.eq];exact Sa.new n.no
def Dh.at     (n:Dh G p o G'):G' p=ca o:=by rw[n.eq];exact Lh
def Dh.sm     (n:Dh G p o G'):Sm p G G':=by rw[n.eq];exact Sm.put
mutual
noncomputable def pd:U->Ma
 |.non=>.none
 |.bl b=>.bool b
 |.int i=>.int i
 |.str x=>.str x
 |.tup y=>.tuple (Gi y)
 |.loc _=>.none
 |.fn _=>.none
 |.ty _=>.none
 |.exc _ _=>.none
 |.own _=>.none
 |.clo _ _=>.none
noncomputable def Gi:List U->List Ma
 |[]=>[]
 |u::us=>pd u::Gi us
end
mutual
noncomputable def bare:U->Bool
 |.non=>da
 |.bl _=>da
 |.int _=>da
 |.str _=>da
 |.tup y=>bares y
 |.loc _=>ia
 |.fn _=>ia
 |.ty _=>ia
 |.exc _ _=>ia
 |.own _=>ia
 |.clo _ _=>ia
noncomputable def bares:List U->Bool
 |[]=>da
 |u::us=>bare u&&bares us
end
mutual
theorem JM {G:Gp}:∀{u:U},bare u=da->DU G u (pd u)
 |.non,_=>.non
 |.bl b,_=>.bl b
 |.int i,_=>.int i
 |.str x,_=>.str x
 |.tup _,h=>.tup (By h)
 |.loc _,h=>nomatch h
 |.fn _,h=>nomatch h
 |.ty _,h=>nomatch h
 |.exc _ _,h=>nomatch h
 |.own _,h=>nomatch h
 |.clo _ _,h=>nomatch h
theorem By {G:Gp}:∀{us:List U},bares us=da->Og G us (Gi us)
 |[],_=>.nil
 |_::_,h=>.cons (JM (ba h).1) (By (ba h).2)
end
structure Ct (n:Nat)(u:U):Prop where
 b:bare u=da
 l:(pd u).canLay0=da
 d:(pd u).depth<=n
def Ct.int   i:Ct 0 (.int i):=⟨rfl,rfl,ub _⟩
theorem smls   : ∀{us },(∀u∈us,Ct n u)->bares us=da/\xx (Gi us)=da/\Rh (Gi us)<=n
 |[],_=>⟨rfl,rfl,Me _⟩
 |u::us,h=>by
  obtain⟨F,y,I⟩:=smls λv z=>h v (Le _ z);have hu:=h u Uf;refine⟨?_,?_,?_⟩
  ·show(bare u&&bares us)=da;rw[hu.b,F];rfl
  ·show((pd u).canLay0&&xx (Gi us))=da;rw[hu.l,y];rfl
  ·show max (pd u).depth (Rh (Gi us))<=n;exact Dj.mpr ⟨hu.d,I⟩
def HP       (ga:G a=ca (.lst us))(J:G b=ca (.lst []))(h:∀u∈us,Ct n u)(O:n<100)(q:k us.isEmpty):eqU (.loc a) (.loc b) G k:=by
 obtain⟨F,z,L⟩:=smls h;have y:Ad G a=ca us:=by unfold Ad;rw[ga]
 have I:Ad G b=ca []:=by unfold Ad;rw[J]
 refine⟨.list (Gi us),.list [],.lst y (By F),.lst I .nil,⟨z,?_⟩,⟨rfl,by decide⟩,?_⟩
 ·show Rh (Gi us)+1<=100
  lia
 ·have e:Ce (.list (Gi us)) (.list [])=us.isEmpty:=by
   show Pp (Gi us) []=_;rw[UV];cases us<;>rfl
  lia
theorem Df     : ∀{xs } (I:Nat->Sg->Gp->Prop) (_:∀z G,I xs.length z G->ok G/\k z G)
  (_:∀i x z G K ,xs[i]?=ca x->I i z G->(∀F G',I (i+1) F G'->K F G')->ok G/\b x z G K) {z } {G } (_:I 0 z G),forL ok b xs z G k
 |[],_,h0,_,_,_,h=>h0 _ _ h
 |x::_,I,h0,h1,_,_,h=>h1 0 x _ _ _ rfl h λ_ _ L=>Df (λi=>I (i+1)) h0 (λi y z G K e J hk=>h1 (i+1) y z G K e J hk) L
theorem Rg     : ∀{xs } (I:Nat->List U->Gp->Prop) (_:∀acc G,I xs.length acc G->ok G/\k acc G)
  (_:∀i x acc G K ,xs[i]?=ca x->I i acc G->(∀u G',I (i+1) (acc++[u]) G'->K (ca u) G')->(∀G',I (i+1) acc G'->K la G')->ok G/\b x G K) {acc } {G } (_:I 0 acc G),Kk ok b xs acc G k
 |[],_,h0,_,_,_,h=>h0 _ _ h
 |x::_,I,h0,h1,_,_,h=>h1 0 x _ _ _ rfl h (λ_ _ J=>Rg (λi=>I (i+1)) h0 (λi y a G K e F hk z=>h1 (i+1) y a G K e F hk z) J) (λ_ J=>Rg (λi=>I (i+1)) h0 (λi y a G K e F hk z=>h1 (i+1) y a G K e F hk z) J)
theorem Xr       f (z:ok G):∀{xs } (_:∀x∈xs,∀K ,K (ca (f x)) G->b x G K) {acc } (_:k (acc++xs.map f) G),Kk ok b xs acc G k
 |[],_,acc,q=>⟨z,by simpa using q⟩
 |x::xs,hb,acc,q=>⟨z,hb x Uf _ (Xr f z (λy F=>hb y (Le _ F)) (by simpa using q))⟩
def Sf   i n:(rngU i n).length=n:=by unfold rngU;simp
def Kh    (h:(rngU 0 n)[i]?=ca x):i<n/\x=.int i:=by
 unfold rngU at h;rw[Lf]at h;by_cases y:i<n
 ·rw[QB y]at h;exact⟨y,by simpa using h.symm⟩
 ·rw[cC (by simpa using y)]at h
  cases h
def jz   (f:α->y)(l:List α) i:atI (l.map f) i=(atI l i).map f:=by
 unfold atI;rw[Bc];cases Mh l.length i with
 |none=>rfl
 |some j=>simp
def He   (a:α) l:atI (a::l) 0=ca a:=Pm (xs:=a::l) (j:=0) rfl
def Fc   (a b:α) l:atI (a::b::l) 1=ca b:=Pm (xs:=a::b::l) (j:=1) rfl
def nD   (a b c:α) l:atI (a::b::c::l) 2=ca c:=Pm (xs:=a::b::c::l) (j:=2) rfl
def QD   {l:List α}{r:Int}(h0:0<=r)(z:r<l.length):∃x,x∈l/\atI l r=ca x:=by
 obtain⟨j,rfl⟩:=pi h0;have y:j<l.length:=by lia
 exact⟨l[j],vt y,Pm (Sh y)⟩
noncomputable def Kd  (c:Aa)(a l t:Int):List (Vb×U):=[(.inr "cells",.loc c),(.inr "at",.int a),(.inr "left",.int l),(.inr "turn",.int t)]
def k_ca  : ¬((Bb ("cells" : Str):Vb)=Bb ("at" : Str)):=by decide +kernel
def k_cl  : ¬((Bb ("cells" : Str):Vb)=Bb ("left" : Str)):=by decide +kernel
def k_ct  : ¬((Bb ("cells" : Str):Vb)=Bb ("turn" : Str)):=by decide +kernel
def k_al  : ¬((Bb ("at" : Str):Vb)=Bb ("left" : Str)):=by decide +kernel
def k_at  : ¬((Bb ("at" : Str):Vb)=Bb ("turn" : Str)):=by decide +kernel
def k_lt  : ¬((Bb ("left" : Str):Vb)=Bb ("turn" : Str)):=by decide +kernel

def tR  : dGet (Kd c a l t) (.inr "cells")=ca (.loc c):=by simp[dGet,Kd]
def g_at  : dGet (Kd c a l t) (.inr "at")=ca (.int a):=by simp[dGet,Kd,k_ca,-nn]
def eP  : dGet (Kd c a l t) (.inr "left")=ca (.int l):=by simp[dGet,Kd,k_cl,k_al,-nn]
def Fy  : dGet (Kd c a l t) (.inr "turn")=ca (.int t):=by simp[dGet,Kd,k_ct,k_at,k_lt,-nn]
def JQ   x:dPut (Kd c a l t) (.inr "turn") (.int x)=Kd c a l x:=by simp[dPut,Kd,k_ct,k_at,k_lt,-nn]
def p_at   x:dPut (Kd c a l t) (.inr "at") (.int x)=Kd c x l t:=by simp[dPut,Kd,k_ca,Ua k_al,Ua k_at,-nn]
def jE   x:dPut (Kd c a l t) (.inr "left") (.int x)=Kd c a x t:=by simp[dPut,Kd,k_cl,k_al,Ua k_lt,-nn]
def AO   : Rj [((Bb ("cells" : Str):Vb),U.loc p),(.inr "at",.int 0),(.inr "left",.int 0),(.inr "turn",.int 0)]=Kd p 0 0 0:=by
 simp[Rj,dPut,Kd,k_ca,k_cl,k_ct,k_al,k_at,k_lt,-nn]
def bv  : (Kd c a l t).length<Wa:=by show 4<Wa;decide
def Sm.nw     (s:Sm f G G1)(n:Wh G1 p o G2):Sm f G G2:=s.trans n.sa.sm
def cX         i:(Ra gs Δ (.v i)).1 y G Q X=(slot y i λu=>Q u G):=rfl
def VW         i:(Ra gs Δ (.v i)).2 z G R X=(Ra gs Δ (.v i)).1 z G (λx y=>truU x y λb=>R b y) X:=rfl
def D_non         : (Ra gs Δ (.non)).1 y G Q X=(Q .non G):=rfl
def D_bl         b:(Ra gs Δ (.bl b)).1 y G Q X=(Q (.bl b) G):=rfl
def D_int         i:(Ra gs Δ (.int i)).1 y G Q X=(Q (.int i) G):=rfl
def D_str         x:(Ra gs Δ (.str x)).1 y G Q X=(Q (.str x) G):=rfl
def dX         n:(Ra gs Δ (.g n)).1 y G Q X=(Xm gs n λu=>Q u G):=rfl
def WW         n:(Ra gs Δ (.g n)).2 z G R X=(Ra gs Δ (.g n)).1 z G (λx y=>truU x y λb=>R b y) X:=rfl
def D_ty         n:(Ra gs Δ (.ty n)).1 y G Q X=(Q (.ty n) G):=rfl
def T_ty         n:(Ra gs Δ (.ty n)).2 z G R X=(Ra gs Δ (.ty n)).1 z G (λx y=>truU x y λb=>R b y) X:=rfl
def D_bin         o a b:(Ra gs Δ (.bin o a b)).1 z G Q X=((Ra gs Δ a).1 z G (λx F=>(Ra gs Δ b).1 z F (λy I=>binU o x y I Q) X) X):=rfl
def T_bin         o a b:(Ra gs Δ (.bin o a b)).2 z G R X=(Ra gs Δ (.bin o a b)).1 z G (λx y=>truU x y λb=>R b y) X:=rfl
def D_neg         a:(Ra gs Δ (.neg a)).1 z G Q X=((Ra gs Δ a).1 z G (λx y=>negU x y Q) X):=rfl
def D_cmp         o a b:(Ra gs Δ (.cmp o a b)).1 F G Q X=((Ra gs Δ a).1 F G (λx I=>(Ra gs Δ b).1 F I (λy z=>cmpU o x y z λc=>Q (.bl c) z) X) X):=rfl
def T_cmp         o a b:(Ra gs Δ (.cmp o a b)).2 z G R X=(Ra gs Δ (.cmp o a b)).1 z G (λx y=>truU x y λb=>R b y) X:=rfl
def D_cmp2         o p a b c:(Ra gs Δ (.cmp2 o p a b c)).1 I G Q X=((Ra gs Δ a).1 I G (λx L=>(Ra gs Δ b).1 I L (λy F=>cmpU o x y F λt=>if t=da then (Ra gs Δ c).1 I F (λz J=>cmpU p y z J λt'=>Q (.bl t') J) X else Q (.bl ia) F) X) X):=rfl
def T_cmp2         o p a b c:(Ra gs Δ (.cmp2 o p a b c)).2 z G R X=(Ra gs Δ (.cmp2 o p a b c)).1 z G (λx y=>truU x y λb=>R b y) X:=rfl
def D_tup         es:(Ra gs Δ (.tup es)).1 z G Q X=(Cd gs Δ es z G (λus y=>us.length<=Wa/\Q (.tup us) y) X):=rfl
def D_lst         es:(Ra gs Δ (.lst es)).1 z G Q X=(Cd gs Δ es z G (λus y=>us.length<=Wa/\newO y (.lst us) Q) X):=rfl
def D_dic         es:(Ra gs Δ (.dic es)).1 z G Q X=(denD gs Δ es z G (λkvs y=>kvs.length<=15/\newO y (.dK (Rj kvs)) Q) X):=rfl
def D_ix         a b:(Ra gs Δ (.ix a b)).1 z G Q X=((Ra gs Δ a).1 z G (λx F=>(Ra gs Δ b).1 z F (λy I=>tf x y I Q) X) X):=rfl
def T_ix         a b:(Ra gs Δ (.ix a b)).2 z G R X=(Ra gs Δ (.ix a b)).1 z G (λx y=>truU x y λb=>R b y) X:=rfl
def D_sl         a lo hi:(Ra gs Δ (.sl a lo hi)).1 y G Q X=((Ra gs Δ a).1 y G (λx z=>denO gs Δ lo y z (λl F=>denO gs Δ hi y F (λh I=>Wi x l h I Q) X) X) X):=rfl
def D_rev         a b:(Ra gs Δ (.rev a b)).1 z G Q X=((Ra gs Δ a).1 z G (λx F=>(Ra gs Δ b).1 z F (λy I=>revU x y I Q) X) X):=rfl
def D_call         n es:(Ra gs Δ (.call n es)).1 z G Q X=(Cd gs Δ es z G (λus y=>Δ n us y Q X) X):=rfl
def T_call         n es:(Ra gs Δ (.call n es)).2 z G R X=(Ra gs Δ (.call n es)).1 z G (λx y=>truU x y λb=>R b y) X:=rfl
def D_blt         b es:(Ra gs Δ (.blt b es)).1 z G Q X=(Cd gs Δ es z G (λus y=>bltU b us y Q) X):=rfl
def T_blt         b es:(Ra gs Δ (.blt b es)).2 z G R X=(Ra gs Δ (.blt b es)).1 z G (λx y=>truU x y λb=>R b y) X:=rfl
def D_meth {gs:List U}{y:Cl}{z:Sg}{G:Gp}{Q:K1}{X:KX}(m:Mth)(o:E)(I:Es):(Ra gs y (.meth m o I)).1 z G Q X=((Ra gs y o).1 z G (λx F=>match Oe m x F with|some _=>Cd gs y I z F (λus J=>Yd m x us J Q) X|none=>False) X):=rfl
def D_lc         pick t it ifs e:(Ra gs Δ (.lc pick t it ifs e)).1 z G Q X=(denI gs Δ it z G (λxs ok I=>xs.length<=Wa/\Kk ok (λx L k=>Qc t x (Ih pick z) λy=>denC gs Δ ifs y L (λb F=>if b=da then (Ra gs Δ e).1 y F (λu O=>k (ca u) O) (λ_ _=>False) else k la F)) xs [] I λus J=>newO J (.lst us) Q) X):=rfl
def D_mkL         e:(Ra gs Δ (.mkL e)).1 z G Q X=((Ra gs Δ e).1 z G (λx y=>rg x y λxs _=>newO y (.lst xs) Q) X):=rfl
def D_mkT         e:(Ra gs Δ (.mkT e)).1 z G Q X=((Ra gs Δ e).1 z G (λx y=>rg x y λxs _=>Q (.tup xs) y) X):=rfl
def D_not         a:(Ra gs Δ (.not a)).1 z G Q X=((Ra gs Δ a).1 z G (λx y=>truU x y λb=>Q (.bl (!b)) y) X):=rfl
def T_not         a:(Ra gs Δ (.not a)).2 z G R X=((Ra gs Δ a).2 z G (λb y=>R (!b) y) X):=rfl
def D_ife         c a b:(Ra gs Δ (.ife c a b)).1 y G Q X=((Ra gs Δ c).2 y G (λt z=>if t=da then (Ra gs Δ a).1 y z Q X else (Ra gs Δ b).1 y z Q X) X):=rfl
def T_ife         c a b:(Ra gs Δ (.ife c a b)).2 y G R X=((Ra gs Δ c).2 y G (λt z=>if t=da then (Ra gs Δ a).2 y z R X else (Ra gs Δ b).2 y z R X) X):=rfl
def D_bop0      : Ra gs Δ (.bop k a .nil)=Ra gs Δ a:=rfl
def D_and          : (Ra gs Δ (.bop da a (.cons b es))).1 z G Q X=(Ra gs Δ a).1 z G (λx y=>truU x y λc=>if c=da then (Ra gs Δ (.bop da b es)).1 z y Q X else Q x y) X:=rfl
def D_or          : (Ra gs Δ (.bop ia a (.cons b es))).1 z G Q X=(Ra gs Δ a).1 z G (λx y=>truU x y λc=>if c=da then Q x y else (Ra gs Δ (.bop ia b es)).1 z y Q X) X:=rfl
def T_and          : (Ra gs Δ (.bop da a (.cons b es))).2 z G R X=(Ra gs Δ a).2 z G (λc y=>if c=da then (Ra gs Δ (.bop da b es)).2 z y R X else R ia y) X:=rfl
def T_or          : (Ra gs Δ (.bop ia a (.cons b es))).2 z G R X=(Ra gs Δ a).2 z G (λc y=>if c=da then R da y else (Ra gs Δ (.bop ia b es)).2 z y R X) X:=rfl
def O_no        : denO gs Δ .no y G Q X=Q la G:=rfl
def O_so {gs:List U}{y:Cl}{z:Sg}{G:Gp}{X:KX}{Q:Option Int->Gp->Prop}{e:E}:denO gs y (.so e) z G Q X=(Ra gs y e).1 z G (λx F=>match x with|.int i=>Q (ca i) F|_=>False) X:=rfl
def A_nil        : Cd gs Δ .nil y G Q X=Q [] G:=rfl
def A_cons          : Cd gs Δ (.cons e es) y G Q X=(Ra gs Δ e).1 y G (λx z=>Cd gs Δ es y z (λxs F=>Q (x::xs) F) X) X:=rfl
def C_nil       : denC gs Δ .nil y G Q=Q da G:=rfl
def C_cons         : denC gs Δ (.cons e es) z G Q=(Ra gs Δ e).2 z G (λb y=>if b=da then denC gs Δ es z y Q else Q ia y) (λ_ _=>False):=rfl
def P_nil        : denD gs Δ .nil y G Q X=Q [] G:=rfl
def P_cons {gs:List U}{z:Cl}{F:Sg}{G:Gp}{X:KX}{Q:List (Vb×U)->Gp->Prop}{e f:E}{I:Es}:denD gs z (.cons e (.cons f I)) F G Q X=(Ra gs z e).1 F G (λx J=>(Ra gs z f).1 F J (λy L=>match kU x with|some k=>denD gs z I F L (λkvs O=>Q ((k,y)::kvs) O) X|none=>False) X) X:=rfl
def ZW         : denI gs Δ (.e e) z G Q X=(Ra gs Δ e).1 z G (λx y=>rg x y λxs ok=>Q xs ok y) X:=rfl
def I_r1 {gs:List U}{y:Cl}{z:Sg}{G:Gp}{X:KX}{Q:List U->(Gp->Prop)->Gp->Prop}{e:E}:denI gs y (.r1 e) z G Q X=(Ra gs y e).1 z G (λx F=>match x with|.int j=>-(2 ^ 62)<=j/\j<2 ^ 62/\Q (rngU 0 j.toNat) (λ_=>True) F|_=>False) X:=rfl
def F_nil        : denF gs Δ .nil y G Q X=Q [] G:=rfl
def F_cons          : denF gs Δ (.cons e es) y G Q X=(Ra gs Δ e).1 y G (λx F=>pK x λz=>denF gs Δ es y F (λJ I=>Q (z::J) I) X) X:=rfl
def S_expr        : denS gs Δ (.expr e) D z G=(Ra gs Δ e).1 z G (λ_ y=>D.nx z y) λx y=>D.ex x z y:=rfl
def S_asg         : denS gs Δ (.asg t e) D F G=(Ra gs Δ e).1 F G (λu y=>Qc t u F λz=>D.nx z y) λx y=>D.ex x F y:=rfl
def S_asgC         : denS gs Δ (.asgC i e) D z G=(Ra gs Δ e).1 z G (λu y=>D.nx (z.set i (ca u)) y) λx y=>D.ex x z y:=rfl
def S_setS        : denS gs Δ (.setS o i e) D F G=(Ra gs Δ e).1 F G (λv z=>(Ra gs Δ o).1 F z (λx I=>(Ra gs Δ i).1 F I (λy L=>setU x y v L λJ=>D.nx F J) (λx z=>D.ex x F z)) (λx z=>D.ex x F z)) (λx z=>D.ex x F z):=rfl
def S_par         : denS gs Δ (.par is es) D z G=Cd gs Δ es z G (λus y=>us.length=is.length/\D.nx ((is.zip us).foldl (λs p=>s.set p.1 (ca p.2)) z) y) λx y=>D.ex x z y:=rfl
def S_aug          : denS gs Δ (.aug i o e) D F G=slot F i λx=>(Ra gs Δ e).1 F G (λy I=>fj o x y I λz J=>D.nx (F.set i (ca z)) J) λx I=>D.ex x F I:=rfl
def S_ite         : denS gs Δ (.ite c a b) D z G=(Ra gs Δ c).2 z G (λt y=>if t=da then Dc gs Δ a D z y else Dc gs Δ b D z y) λx y=>D.ex x z y:=rfl
def S_fr          : denS gs Δ (.fr t it b) D I G=denI gs Δ it I G (λxs ok y=>forL ok (λx z J k=>Qc t x z λF=>Dc gs Δ b { D with nx:=k } F J) xs I y D.nx) λx y=>D.ex x I y:=rfl
def S_ret        : denS gs Δ (.ret e) D y G=(Ra gs Δ e).1 y G D.rt λx z=>D.ex x y z:=rfl
def S_raise         : denS gs Δ (.raise c es) D z G=Cd gs Δ es z G (λus y=>us.length=(clsF c).length/\D.ex ⟨c,us⟩ z y) λx y=>D.ex x z y:=rfl
def S_tr          : denS gs Δ (.tr b c n h) D J G=Dc gs Δ b { D with ex:=λx y F=>(c=0\/x.c=c)/\rh x h (y.set n la) F λz I=>D.nx (z.set n la) I } J G:=rfl
def B_nil       : Dc gs Δ .nil D y G=D.nx y G:=rfl
def B_cons         : Dc gs Δ (.cons s r) D z G=denS gs Δ s { D with nx:=λy G'=>Dc gs Δ r D y G' } z G:=rfl
def S_wh         : denS gs Δ (.wh c b) D L G=∃W:Nat->Sg->Gp->Prop,(∃m,W m L G)/\∀m y z,W m y z->(Ra gs Δ c).2 y z (λt J=>if t=da then Dc gs Δ b { D with nx:=λF G'=>∃I,I<m/\W I F G' } y J else D.nx y J) λx z=>D.ex x y z:=rfl
def V_add     : binU .Add (.int i) (.int j) G Q=Q (.int (i+j)) G:=rfl
def V_cat     : binU .Add (.tup xs) (.tup ys) G Q=(xs.length+ys.length<=Wa/\Q (.tup (xs++ys)) G):=rfl
def V_catL     : binU .Add (.loc a) (.loc b) G Q=∃xs y,G a=ca (.lst xs)/\G b=ca (.lst y)/\xs.length+y.length<=Wa/\newO G (.lst (xs++y)) Q:=rfl
def V_sub     : binU .Sub (.int i) (.int j) G Q=Q (.int (i-j)) G:=rfl
def V_mul     : binU .Mult (.int i) (.int j) G Q=(CMul i j/\Q (.int (i*j)) G):=rfl
def V_mulL      : binU .Mult (.loc a) (.int k) G Q=∃xs,G a=ca (.lst xs)/\-(2 ^ 63)<=k/\k<2 ^ 63/\xs.length*k.toNat<=Wa/\newO G (.lst (Ab k.toNat xs).flatten) Q:=rfl
def V_mulT      : binU .Mult (.tup xs) (.int k) G Q=(xs≠[]/\0<=k/\k<2 ^ 62/\xs.length*k.toNat<=Wa/\Q (.tup (Ab k.toNat xs).flatten) G):=rfl
def V_fdiv     : binU .FloorDiv (.int i) (.int j) G Q=(0<j/\j<1073741824/\Q (.int (i/j)) G):=rfl
def V_mod     : binU .Mod (.int i) (.int j) G Q=(0<j/\Q (.int (i%j)) G):=rfl
def V_pow     : binU .Pow (.int i) (.int j) G Q=(CPow i j/\Q (.int (i ^ j.toNat)) G):=rfl
def V_neg     : negU (.int i) G Q=Q (.int (-i)) G:=rfl
def W_eqI     : cmpU .Eq (.int i) (.int j) G k=k (decide (i=j)):=rfl
def W_neI     : cmpU .NotEq (.int i) (.int j) G k=k (!decide (i=j)):=rfl
def W_eqS     : cmpU .Eq (.str i) (.str j) G k=k (decide (i=j)):=rfl
def W_neS     : cmpU .NotEq (.str i) (.str j) G k=k (!decide (i=j)):=rfl
def W_lt     : cmpU .Lt (.int i) (.int j) G k=k (decide (i<j)):=rfl
def W_le     : cmpU .LtE (.int i) (.int j) G k=k (decide (i<=j)):=rfl
def W_gt     : cmpU .Gt (.int i) (.int j) G k=k (decide (j<i)):=rfl
def W_ge     : cmpU .GtE (.int i) (.int j) G k=k (decide (j<=i)):=rfl
def W_neT     : cmpU .NotEq (.tup xs) (.tup []) G k=k (!xs.isEmpty):=rfl
def W_eqT      : cmpU .Eq (.tup xs) (.tup (y::ys)) G k=eqU (.tup xs) (.tup (y::ys)) G k:=rfl
def W_eqT0     : cmpU .Eq (.tup xs) (.tup []) G k=k xs.isEmpty:=rfl
def W_neL     : cmpU .NotEq (.loc a) (.loc b) G k=((∃us,G a=ca (.lst us)/\G b=ca (.lst [])/\k (!us.isEmpty))\/eqU (.loc a) (.loc b) G λb=>k (!b)):=rfl
def W_eqL     : cmpU .Eq (.loc a) (.loc b) G k=eqU (.loc a) (.loc b) G k:=rfl
def W_in     : cmpU .In x y G k=Wg x y G k:=rfl
def W_nin     : cmpU .NotIn x y G k=Wg x y G λb=>k (!b):=rfl
def W_is     : cmpU .Is x y G k=lj x y k:=rfl
def W_isn     : cmpU .IsNot x y G k=lj x y λb=>k (!b):=rfl
def Y_bl     : truU (.bl b) G k=k b:=rfl
def Y_non    : truU .non G k=k ia:=rfl
def Y_int     : truU (.int i) G k=k (i != 0):=rfl
def Y_tup     : truU (.tup xs) G k=k (!xs.isEmpty):=rfl
def J_tup     : rg (.tup xs) G k=k xs λ_=>True:=rfl
def X_tup      : Wi (.tup xs) z y G Q=Q (.tup (cut xs z y)) G:=rfl
def F_len     : bltU .len us G Q=lenU us G Q:=rfl
def F_repr     : bltU .repr us G Q=Ho us G Q:=rfl
def F_min     : bltU .min us G Q=minU us G Q:=rfl
def F_sum     : bltU .sum us G Q=sumU us G Q:=rfl
def F_all     : bltU .all us G Q=allU us G Q:=rfl
def F_int     : bltU .int us G Q=intU us G Q:=rfl
def F_isi     : bltU .isi us G Q=Lo us G Q:=rfl
def X_str      : Wi (.str x) z y G Q=(x.length<=Wa/\Q (.str (Aw x z y)) G):=rfl
def V_addB      : binU .Add (.bl b) (.int j) G Q=Q (.int ((if b=da then (1:Int) else 0)+j)) G:=rfl
def V_subB      : binU .Sub (.bl b) (.int j) G Q=Q (.int ((if b=da then (1:Int) else 0)-j)) G:=rfl
def V_subI      : binU .Sub (.int i) (.bl b) G Q=Q (.int (i-if b=da then (1:Int) else 0)) G:=rfl
def F_lenT     : lenU [.tup xs] G Q=Q (.int xs.length) G:=rfl
def F_min2     : minU [.int i,.int j] G Q=Q (.int (if j<i then j else i)) G:=rfl
def F_max2     : maxU [.int i,.int j] G Q=Q (.int (if j>i then j else i)) G:=rfl
def F_intB     : intU [.bl b] G Q=Q (.int (if b then 1 else 0)) G:=rfl
def F_intI     : intU [.int i] G Q=Q (.int i) G:=rfl
def bX      : Qc (.n i) u y k=k (y.set i (ca u)):=rfl
def aX      : Qc (.t ts) (.tup us) y k=tgsU ts us y k:=rfl
def G_nil     : tgsU .nil us y k=(us=[]/\k y):=rfl
def G_cons        : tgsU (.cons t ts) (u::r) z k=Qc t u z λy=>tgsU ts r y k:=rfl
def sl_0   {y:Sg}:slot (ca u::y) 0 k=k u:=rfl
def sl_s   {y:Sg}:slot (o::y) (i+1) k=slot y i k:=rfl
def Iv      : putO G a o Q=Q (Td G a o):=propext ⟨λh=>h.at,λh y p=>by rw[p.eq];exact h⟩
def ix_t       (h:atI xs i=ca u):tf (.tup xs) (.int i) G Q=Q u G:=by unfold tf;lia
def ix_l        (g:G a=ca (.lst xs))(h:atI xs i=ca u):tf (.loc a) (.int i) G Q=Q u G:=by unfold tf;lia
def ix_d        (g:G a=ca (.dK kvs))(h:dGet kvs (.inr x)=ca u):tf (.loc a) (.str x) G Q=Q u G:=by unfold tf;dsimp only;rw[g];show(match dGet kvs (.inr x)with|some u=>Q u G|none=>False)=_;rw[h]
def Mv       (g:G a=ca (.lst xs))(h0:0<=r)(y:r<xs.length)(q:∀u∈xs,Q u G):tf (.loc a) (.int r) G Q:=by
 obtain⟨u,hu,e⟩:=QD h0 y;rw[ix_l g e];exact q u hu
def Jg  (y:List Int){r:Int}(g:G a=ca (.lst (y.map .int)))(h0:0<=r)(F:r<y.length)(q:∀z∈y,Q (.int z) G):tf (.loc a) (.int r) G Q:=
 Mv g h0 (by simp_all) λu hu=>by
  grind
theorem KF  : ∀y ,Mk (y.map .int)=ca y
 |[]=>rfl
 |x::r=>by show(match Mk (r.map .int)with|some l=>ca (x::l)|none=>la)=_;rw[KF r]
def in_l       (g:G a=ca (.lst ys))(z:flat x=da)(F:ys.all flat=da)(q:k (ys.any λy=>Xg y x)):Wg x (.loc a) G k:=by
 cases x<;>first|(cases z;done)|(unfold Wg;lia)
def Pk      (g:G a=ca (.lst xs)):lenU [.loc a] G Q=Q (.int xs.length) G:=by unfold lenU;lia
def it_l      (g:G a=ca (.lst xs)):rg (.loc a) G k=k xs λG'=>Ad G' a=ca xs:=by unfold rg;dsimp only;have e:Ad G a=ca xs:=(by unfold Ad;rw[g]);rw[e]
def Ro       (g:G a=ca (.lst xs)):Yd .append (.loc a) [v] G Q=(xs.length<Wa/\putO G a (.lst (xs++[v])) (Q .non)):=by unfold Yd dz;dsimp only;rw[g]
def Xo     (g:G a=ca (.lst xs)):Oe .append (.loc a) G=ca ("list", "list.append"):=by unfold Oe;lia
def Hr        (g:G a=ca (.dK kvs)):setU (.loc a) (.str x) v G Q=(kvs.length<Wa/\putO G a (.dK (dPut kvs (.inr x) v)) Q):=by unfold setU;dsimp only;rw[g];rfl
def DR   (h:j<n):Mh n (j:Int)=ca j:=by unfold Mh;simp_all
noncomputable def Ru  : Nat->Ss->Ss
 |0,s=>s
 |_+1,.nil=>.nil
 |n+1,.cons _ r=>Ru n r
def dr_0   : Ru 0 s=s:=rfl
def dr_s     : Ru (n+1) (.cons s r)=Ru n r:=rfl
def pk_nil   : Ih [] y=[]:=rfl
def pk_none    : Ih (la::r) y=la::Ih r y:=rfl
def pk_some     : Ih (ca j::r) y=(y[j]?).join::Ih r y:=rfl
def K_str   : kU (.str x)=ca (.inr x):=rfl
def K_int   : kU (.int i)=ca (.inl i):=rfl
def sl_f       (g:G a=ca (.fro xs)):Wi (.loc a) z y G Q=newO G (.lst (cut xs z y)) Q:=by unfold Wi;dsimp only;have e:Ad G a=ca xs:=(by unfold Ad;rw[g]);rw[e]
def sl_l       (g:G a=ca (.lst xs)):Wi (.loc a) z y G Q=newO G (.lst (cut xs z y)) Q:=by unfold Wi;dsimp only;have e:Ad G a=ca xs:=(by unfold Ad;rw[g]);rw[e]
def TR   (f:α->y)(xs:List α) lo hi:cut (xs.map f) lo hi=(cut xs lo hi).map f:=by unfold cut;simp_all
def av   (xs:List α)(n:Nat):cut xs la (ca (n:Int))=xs.take n:=by
 unfold cut;rw[HT.sIx_none,HT.sIx_nat,rB,Nat.sub_zero,List.take_eq_take_iff]
 lia
def tz   (xs:List α)(n:Nat):cut xs (ca (n:Int)) la=xs.drop n:=by
 unfold cut;rw[HT.sIx_none,HT.sIx_nat];by_cases h:n<=xs.length
 ·rw[Nat.min_eq_left h,tL (by simp)]
 ·rw[Nat.min_eq_right (by lia),sL (ub _),sL (by lia),List.take_nil]
def fx_cells      : tf (.loc f) (.str "cells") (Td G f (.dK (Kd c a l t))) Q=Q (.loc c) (Td G f (.dK (Kd c a l t))):=ix_d Lh tR
def fx_at      : tf (.loc f) (.str "at") (Td G f (.dK (Kd c a l t))) Q=Q (.int a) (Td G f (.dK (Kd c a l t))):=ix_d Lh g_at
def fx_left      : tf (.loc f) (.str "left") (Td G f (.dK (Kd c a l t))) Q=Q (.int l) (Td G f (.dK (Kd c a l t))):=ix_d Lh eP
def fs_at      : setU (.loc f) (.str "at") (.int x) (Td G f (.dK (Kd c a l t))) Q=Q (Td G f (.dK (Kd c x l t))):=by rw[Hr Lh,p_at,Iv,WE];exact propext ⟨λh=>h.2,λh=>⟨bv,h⟩⟩
def fs_left      : setU (.loc f) (.str "left") (.int x) (Td G f (.dK (Kd c a l t))) Q=Q (Td G f (.dK (Kd c a x t))):=by rw[Hr Lh,jE,Iv,WE];exact propext ⟨λh=>h.2,λh=>⟨bv,h⟩⟩
end Z

namespace Y
open PySem L2
noncomputable def nO  : Obj:=⟨.none,la,.fields ⟨[]⟩,⟨[]⟩⟩
noncomputable def tO  (v:List Ba):Obj:=⟨.type "tuple",la,.seq ⟨v⟩ 0,⟨[]⟩⟩
noncomputable def sO  (c:Ba)(v:List Ba):Obj:=⟨c,la,.fields ⟨v⟩,⟨[]⟩⟩
noncomputable def rO  (v:List (Option Ba)):Obj:=⟨.type "frame",la,.plain,⟨v⟩⟩
noncomputable def gO  (x q:Str)(s:Pa):Obj:=⟨.none,la,.func { name:=x,qualname:=q,params:=og s,body:=.stmts (Yc s),scope:=Xb s,globals:=0,closure:=[],defaults:=.none,kwdefaults:=.none },⟨[]⟩⟩
noncomputable def fO  (x q:Str)(s:Pa)(m:Ba)(c:Nat):Obj:=⟨.type "function",la,.func (ah x q (og s) (Yc s) (Xb s) .none .none .none m la (.ref c) .none),⟨[]⟩⟩
noncomputable def kO  (fi x q:Str)(t:Nat)(l a f:Int)(r:Nat)(b:Bool)(u v w:Ba)(z:Nat):Obj:=⟨.type "code",la,.fields ⟨[.str x t,.str q (t+1),.str fi (t+2),.int l 0,.int a 0,.int 0 0,.int 0 0,.int f 0,.ref r,.bool b,.int 181 0,.ref (r+1),.none,u,v,w,.int z 0,.int l 0,.str fi (z+1)]⟩,⟨[]⟩⟩
noncomputable def dE  (P:Za)(x:Str)(t:Nat)(v:Ba):Xk:=⟨Ma.keyHash P x,.str x t,v⟩
noncomputable def dO  (e:List Xk)(n:Nat):Obj:=⟨.type "dict",la,.dict ⟨e⟩ n,⟨[]⟩⟩
noncomputable def cO  (x:Str)(b m:List Ba)(n:Nat)(u:List Ba)(s:List (Option Ba)):Obj:=⟨.type "type",la,.cls { name:=x,bases:=b,mro:=m,ns:=n,qualname:=x,subclasses:=u },⟨s⟩⟩
def tE  : Obj:=tO []
noncomputable abbrev bE  : nj:=.nil
noncomputable abbrev bN  (o:Obj)(l r:nj):nj:=.node o l r
noncomputable abbrev bL  (o:Obj):nj:=.node o .nil .nil
end Y
namespace Z
open PySem L2
noncomputable def argB  (ps:List Str)(a:ww):Bool:=a.posonlyargs.isEmpty&&(a.args.map (·.arg)==ps)&&a.vararg.isNone&&a.kwonlyargs.isEmpty&&a.kwarg.isNone
def vP  : ∀{ps:List Str} {us:List Ba},us.length=ps.length->ps.Nodup->(ps.filterMap λn=>((ps.zip us).lookup n).map (n,·))=ps.zip us/\∀n∈ps,((ps.zip us).lookup n).isSome=da:=by
 have I:∀{l:List Str} {vs:List Ba} {L:List (Str×Ba)},vs.length=l.length->l.Nodup->(∀(i:Nat) n v,l[i]?=ca n->vs[i]?=ca v->L.lookup n=ca v)->(l.filterMap λn=>(L.lookup n).map (n,·))=l.zip vs/\∀n∈l,(L.lookup n).isSome=da:=by
  intro l
  induction l with
  |nil=>simp_all
  |cons x l F=>
   intro vs L z y J;obtain _|⟨v,vs⟩:=vs
   ·cases z
   ·have h0:=J 0 x v rfl rfl;obtain⟨Z,R⟩:=F (L:=L) (vs:=vs) (by simp_all) (Cb.mp y).2 λi n v a b=>J (i+1) n v a b
    refine⟨?_,λn Y=>?_⟩
    ·simp_all
    grind
 intro ps us z y;refine I z y λi n v a b=>?_;have O:(ps.zip us)[i]?=ca (n,v):=fc.mpr ⟨a,b⟩;have:∀(l:List (Str×Ba)),(l.map (·.1)).Nodup->(n,v)∈l->l.lookup n=ca v:=by
  intro l
  induction l with
  |nil=>simp_all
  |cons p l F=>
   intro y h;obtain⟨m,u⟩:=p;rw[oi];by_cases e:n=m
   ·subst e;rw[beq_self_eq_true];rcases Oc.mp h with h|h
    ·cases h;rfl
    ·exact absurd (Fb.mpr ⟨_,h,rfl⟩) (Cb.mp y).1
   ·rw[beq_eq_false_iff_ne.mpr e];rcases Oc.mp h with h|h
    ·cases h;exact absurd rfl e
    ·exact F (Cb.mp y).2 h
 exact this _ (by rw[eL (by lia)];exact y) (Ze O)
def mz    (h:argB ps a=da)(Y:ps.Nodup){kV y Z:Ba}(F:us.length=ps.length) :
  Gs (ah x q a b sc .none kV y Z an I ct) ⟨us,[]⟩=pure (ps.zip us):=by
 obtain⟨po,z,va,ko,kd,ka,df⟩:=a;unfold argB at h;simp only[Lc,cL,Option.isNone_iff_eq_none,beq_iff_eq]at h;obtain⟨⟨⟨⟨rfl,rfl⟩,rfl⟩,rfl⟩,rfl⟩:=h;obtain⟨R,J⟩:=vP F Y;have O:(List.filter (λn=>(mi n ((z.map (·.arg)).zip us)).isNone) (z.map (·.arg)))=[]:=List.filter_eq_nil_iff.mpr λn L=>by
  have:=J n L
  simp_all
 have e0:seqItems? uh=pure la:=rfl;unfold Gs;dsimp only;rw[e0];generalize z.map (·.arg)=ns at *;have e4:ns.take (ns.length-0)=ns:=by simp_all
 simp[F,R,O,e4]

abbrev FL:=List (Aa×Aa×Ba)
noncomputable def refB  (v:Option (Option Ba))(f:Aa):Bool:=match v with
 |some (ca (.ref a))=>a==f
 |_=>ia
def pv    (h:refB v f=da):v=ca (ca (.ref f)):=by
 unfold refB at h
 lia
noncomputable def dynB  (T:Vd)(K:Hb):Nat->FL->List Fun->List Pa->Bool
 |_,[],[],[]=>da
 |i,x::fs,d::ds,s::ss=>refB (yh K Ud d.name) x.1&&Zj K (.ref x.2.1) d.name&&(match T.ns.lookup i with|none=>da|some z=>Ur K (.ref x.2.1) z.P)&&argB d.ps (og s)&&dynB T K (i+1) fs ds ss
 |_,_,_,_=>ia
noncomputable def Go  : FL->List Fun->List Pa->List (Option Obj)
 |x::fs,d::ds,s::ss=>ca (Y.fO d.name d.name s x.2.2 x.2.1)::Go fs ds ss
 |_,_,_=>[]
theorem Cy  {T:Vd}:∀{i } {fs } {ds } {ss },dynB T K i fs ds ss=da->fs.map (λx=>K.lookup x.1)=Go fs ds ss->∀{n } {d } {s },ds[n]?=ca d->ss[n]?=ca s->
  ∃x:Aa×Aa×Ba,yh K Ud d.name=ca (ca (.ref x.1))/\K.lookup x.1=ca (Y.fO d.name d.name s x.2.2 x.2.1)/\Zj K (.ref x.2.1) d.name=da/\(∀z,T.ns.lookup (i+n)=ca z->Ur K (.ref x.2.1) z.P=da)/\argB d.ps (og s)=da
 |_,_,[],_,_,_,_,_,_,e,_=>by simp at e
 |_,_,_::_,[],_,_,_,_,_,_,e=>by simp at e
 |_,[],_::_,_::_,h,_,_,_,_,_,_=>by unfold dynB at h;cases h
 |i,x::fs,d::ds,s::ss,h,g,n,d',s',e1,e2=>by
  unfold dynB at h;simp only[Lc]at h;obtain⟨⟨⟨⟨L,J⟩,R⟩,O⟩,I⟩:=h;unfold Go at g;rw[af]at g;injection g with g1 g2
  cases n with
  |zero=>
   cases(Te e1:d=d');cases(Te e2:s=s');exact⟨x,pv L,g1,J,λz F=>by lia,O⟩
  |succ n=>
   obtain⟨y,q1,q2,q3,q4,q5⟩:=Cy I g2 (n:=n) e1 e2;exact⟨y,q1,q2,q3,λz F=>q4 z (by rw[show i+1+n=i+(n+1) by lia];exact F),q5⟩
def yy    (h:Bk N ps sc=da):ps.Nodup:=by
 have S:=Gr h;rw[<- S.pre];exact S.nd.sublist (lC _ _)
def Uy        (h:K.lookup f=ca ⟨c,d,.func fd,y⟩):oj K (.ref f)=da:=by
 unfold oj
 lia
section
variable {T:Vd}{K:Hb}{h:Va}{mg:Str->Option Ba}
def DP   {sts:List Pa}(X:K.In h)(G:h.Ns Ud mg)(y:Mj T 0 T.funs sts=da)(I:Hk T sts 0 T.funs sts)(hB:dynB T K 0 fs T.funs sts=da)(R:fs.map (λx=>K.lookup x.1)=Go fs T.funs sts):LC T K mg sts:=by
 intro n d st L J;obtain⟨x,q1,q2,q3,q4,q5⟩:=Cy hB R L J;have F:=Ey (st:=st) q2 q3 (Uy q2);obtain⟨Z,e,Y,_⟩:=Um y I L;cases J.symm.trans e;exact⟨_,_,F,Ys X G q1,F.binds λ_ _ _ _ _ _ us O=>mz q5 (yy Y) O,λz hz=>q4 z (by lia)⟩
def bltB  (K:Hb):Bool:=Qj.all λx=>match yh K Ud x with
 |some la=>da
 |_=>ia
def BN  (X:K.In h)(G:h.Ns Ud mg)(y:bltB K=da):∀x∈Qj,mg x=la:=λx z=>by
 have:=Qa.mp y x z;refine PySem.W.mg_none_of X G ?_
 lia
noncomputable def Fs  (K:Hb):List Str->List U->Bool
 |[],[]=>da
 |x::xs,u::us=>(match u,yh K Ud x with
  |.int i,ca (ca (.int j _))=>i==j
  |.str i,ca (ca (.str j _))=>i==j
  |_,_=>ia)&&Fs K xs us
 |_,_=>ia
theorem uD  (X:K.In h)(G:h.Ns Ud mg):∀{xs } {us },Fs K xs us=da->∀(n:Nat) x u ,xs[n]?=ca x->us[n]?=ca u->∃v w,mg x=ca w/\RelV v w/\∀H,RU K H u v
 |[],_,_,_,_,_,e,_=>by simp at e
 |_::_,[],_,_,_,_,_,e=>by simp at e
 |x::xs,u::us,hb,n,x',u',e1,e2=>by
  unfold Fs at hb;rw[Lc]at hb;cases n with
  |zero=>
   cases(Te e1:x=x');cases(Te e2:u=u');have y:=hb.1;split at y
   ·rename_i i j t q;cases eq_of_beq y;exact⟨.int i,_,Ys X G q,⟨_,rfl⟩,λ_=>rfl⟩
   ·rename_i i j t q;cases eq_of_beq y;exact⟨.str i,_,Ys X G q,⟨_,rfl⟩,λ_=>rfl⟩
   lia
  |succ n=>exact uD X G hb.2 n x' u' e1 e2
def Ht  (K:Hb):List Nat->Prop
 |[]=>True
 |n::r=>(∃C,XCls K (gK K) (clsN n) (clsF n) C)/\Ht K r
theorem xD  : ∀{l },Ht K l->∀n∈l,1<=n->∃C,XCls K (gK K) (clsN n) (clsF n) C
 |[],_,_,hn,_=>absurd hn Je
 |m::r,hc,n,hn,h1=>by
  unfold Ht at hc;rcases Oc.mp hn with rfl|hn
  ·exact hc.1
  ·exact xD hc.2 n hn h1
def all2  {l:fC}{sts:List Pa}{d:Fun}(X:K.In h)(G:h.Ns Ud mg)(J:mg "law" = ca (.ref fa))(y:Mj T 0 T.funs sts=da)(I:Hk T sts 0 T.funs sts)
  (hU:∀t∈tabs,∀t'∈tabs,t.1=t'.1->t=t') (hB:dynB T K 0 fs T.funs sts=da) (hL:fs.map (λx=>K.lookup x.1)=Go fs T.funs sts) (hb:bltB K=da) (hg:Fs K T.gn T.gs=da) (hc:Ht K T.cs)
  (hd:T.funs[n]?=ca d) (hs:sts[n]?=ca st) (hn:T.ns.lookup n=la) (O:d.name = "law") (z:d.ps=[("_law_script" : Str)]) :
  ∃fd ,(∀(s:Da) v ,Jd s fd ⟨[v],[]⟩ [("_law_script",v)])/\∀base ,K.In base->base.Ns Ud mg->BmAt mg base->FnOk l.prog w K mg base (ed l.prog w) (k+2) fa fd ["_law_script"] (Gg K (Ta T k n)):=by
 have Y:=DP X G y I hB hL;obtain⟨x,q1,q2,q3,q4,q5⟩:=Cy hB hL hd hs;obtain⟨xa,e,L,_⟩:=Um y I hd;cases hs.symm.trans e;have F:=Ey (st:=st) q2 q3 (Uy q2);rw[O]at q1;cases J.symm.trans (Ys X G q1);refine⟨ah d.name d.name (og st) (Yc st) (Xb st) .none .none .none x.2.2 la (.ref x.2.1) .none,λs v=>.of_eq ((mz (us:=[v]) q5 (yy L) (by rw[z];rfl)).trans (by rw[z];rfl)),λbase Z _ R=>?_⟩
 rw[<- z];exact OV F y I Y hU Z R (BN X G hb) (uD X G hg) (xD hc) (BO X G) hd hs hn
end

def EM  (x:Str)(D N b t t':Nat)(u:List Ba):Obj:=Y.cO x [.type "ValueError"] (.ref D::mj) N u [ca (.ref b),la,ca (.str x t),ca (.str x t'),ca (.builtin "ValueError.__new__"),ca (.bool da)]
def clsO  (x:Str)(C D N b t t':Nat):Obj:=Y.cO x [.ref D] (.ref C::.ref D::mj) N [] [ca (.ref b),la,ca (.str x t),ca (.str x t'),ca (.builtin "ValueError.__new__"),ca (.bool da)]
def xb_mk   D N b t t' u (l:K.lookup D=ca (EM "PlanError" D N b t t' u))(h:(refB (yh K Ud "PlanError") D&&oj K (.ref D)&&(Vo K N==ca ky)&&offB ky && !ky.contains ("__init__" : Str))=da):∃J,XBase K (gK K) D J:=by
 simp only[Lc,Vs]at h;obtain⟨⟨⟨⟨I,F⟩,z⟩,L⟩,y⟩:=h;exact jU (pv I) F l (eq_of_beq z) L y
def xc_mk   (B:∃mD,XBase K (gK K) D mD) x qual fs st (C N b t t' Z c:Nat)(m:Ba)(l1:K.lookup C=ca (clsO x C D N b t t'))(L:K.lookup Z=ca (Y.fO "__init__" qual st m c))
  (h:(refB (yh K Ud x) C&&oj K (.ref C)&&(Vo K N==ca kD)&&offB kD&&refB (yh K N "__init__") Z&&Zj K (.ref c) qual&&Bk (("self" : Str)::fs) ("self" :: fs) (Xb st)&&((("self" : Str)::fs).all λy=>(Xb st).names.lookup y==ca .local)&&argB (("self" : Str)::fs) (og st))=da)
  (bd:(∃f R I J pos,fs=[f]/\Yc st=[.Assign [.Attribute (.Name "self" R) f I] (.Name f J) pos])\/∃f z R I J pos q1 q2 q3 O,fs=[f,z]/\f≠z/\Yc st=[.Assign [.Attribute (.Name "self" R) f I] (.Name f J) pos,.Assign [.Attribute (.Name "self" q1) z q2] (.Name z q3) O]):∃C,XCls K (gK K) x fs C:=by
 obtain⟨mD,B⟩:=B;simp only[Lc]at h;obtain⟨⟨⟨⟨⟨⟨⟨⟨h1,h2⟩,h3⟩,h4⟩,h5⟩,h6⟩,h7⟩,h8⟩,h9⟩:=h;have F:=Ey (st:=st) L h6 (Uy L);exact⟨C,fS B (pv h1) h2 l1 (eq_of_beq h3) h4 (pv h5) F L h7 (F.binds λ_ _ _ _ _ _ us hl=>mz h9 (yy h7) hl) h8 bd⟩
section
local macro_rules
 |`(#[])=>`(.nil)
 |`(#[$x])=>`(.cons $x .nil)
 |`(#[$x,$xs,*])=>`(.cons $x #[$xs,*])
noncomputable abbrev Zv  : Nat:=0
noncomputable abbrev Zr  : Nat:=1
noncomputable abbrev cG  : Nat:=2
noncomputable abbrev fW  : Nat:=3
noncomputable abbrev bA  : Nat:=4
noncomputable abbrev AA  : Nat:=5
noncomputable abbrev aA  : Nat:=6
noncomputable abbrev GG  : Nat:=7
noncomputable abbrev zG  : Nat:=8
noncomputable abbrev Lz  : Nat:=9
noncomputable abbrev uI  : Nat:=10
noncomputable abbrev Nz  : Nat:=11
noncomputable abbrev HH  : Nat:=12
noncomputable abbrev bw  : Nat:=13
noncomputable abbrev TH  : Nat:=14
noncomputable abbrev yI  : Nat:=15
noncomputable abbrev vW  : Nat:=16
noncomputable abbrev zA  : Nat:=17
noncomputable abbrev GJ  : Nat:=19
noncomputable abbrev tI  : Nat:=20
noncomputable abbrev BG  : Nat:=21
noncomputable abbrev MW  : Nat:=22
noncomputable abbrev JI  : Nat:=23
noncomputable abbrev LG  : Nat:=24
noncomputable abbrev SH  : Nat:=25
noncomputable abbrev xI  : Nat:=26
noncomputable abbrev AG  : Nat:=27
noncomputable abbrev Kc  : Nat:=28
noncomputable abbrev Mz  : Nat:=29
noncomputable abbrev oA  : Nat:=30
noncomputable abbrev vI  : Nat:=31
noncomputable abbrev wI  : Nat:=32
noncomputable abbrev oJ  : Nat:=33
noncomputable abbrev vJ  : Nat:=34
noncomputable abbrev Tk  : Nat:=35
noncomputable abbrev XI  : Nat:=36
noncomputable abbrev wA  : Nat:=37
noncomputable abbrev xA  : Nat:=38
noncomputable abbrev Dz  : Nat:=39
noncomputable abbrev HI  : Nat:=40
noncomputable abbrev HJ  : Nat:=41
noncomputable abbrev FH  : Nat:=42
noncomputable abbrev GH  : Nat:=43
noncomputable abbrev KG  : Nat:=44
noncomputable abbrev HG  : Nat:=45
noncomputable abbrev Uz  : Nat:=46
noncomputable abbrev RH  : Nat:=47
noncomputable abbrev QA  : Nat:=48
noncomputable abbrev aw  : Nat:=49
noncomputable abbrev JG  : Nat:=50
noncomputable abbrev pJ  : Nat:=51
noncomputable abbrev IJ  : Nat:=52
noncomputable abbrev II  : Nat:=53
noncomputable abbrev GI  : Nat:=54
noncomputable abbrev IG  : Nat:=55
noncomputable abbrev my  : Nat:=56
noncomputable def ZG  : Fun:=⟨"is_whole",["thing"],["thing"],#[.ret (.bop da (.blt .isi #[.v 0,.ty "int"]) #[.not (.blt .isi #[.v 0,.ty "bool"])])]⟩
def KH  : Fun:=⟨"is_within",["thing", "least", "most"],["thing", "least", "most"],#[.ret (.bop da (.call Zv #[.v 0]) #[.cmp2 .LtE .LtE (.v 1) (.v 0) (.v 2)])]⟩
noncomputable def DF  : Fun:=⟨"top_of",["plan", "period", "s"],["plan", "period", "s", "word", "one", "other", "low", "high"],#[.asg (.t #[.n 3,.n 4,.n 5,.n 6,.n 7]) (.ix (.ix (.v 0) (.int 1)) (.v 2)),.ret (.ife (.cmp .Eq (.v 3) (.str "span")) (.v 7) (.bin .Sub (.v 1) (.v 7)))]⟩
def DH  : Fun:=⟨"window_of",["plan", "period", "s"],["plan", "period", "s", "low"],#[.asg (.n 3) (.ix (.ix (.ix (.v 0) (.int 1)) (.v 2)) (.int 3)),(.ret (.tup #[.v 3,(.blt .min #[.call cG #[.v 0,.v 1,.v 2],.bin .Sub (.bin .Add (.v 3) (.v 1)) (.int 1)])]))]⟩
def yH  : Fun:=⟨"windows_of",["plan", "period"],["plan", "period"],#[.ret (.mkT (.lc [la,ca 0,ca 1] (.n 0) (.r1 (.blt .len #[.ix (.v 0) (.int 1)])) .nil (.call fW #[.v 1,.v 2,.v 0])))]⟩
noncomputable def PH  : Fun:=⟨"with_window",["windows", "s", "window"],["windows", "s", "window"],#[.ret (.bin .Add (.bin .Add (.sl (.v 0) .no (.so (.v 1))) (.tup #[.v 2])) (.sl (.v 0) (.so (.bin .Add (.v 1) (.int 1))) .no))]⟩
def sH  : Fun:=⟨"is_work_of",["stays", "thing"],["stays", "thing"],#[.ret (.bop da (.call Zv #[.v 1]) #[.cmp .In (.v 1) (.v 0)])]⟩
def AI  : Ss:=#[.asg (.t #[.n 6,.n 7]) (.v 2),(.ret (.bop da (.call Zr #[.v 6,.int 0,.bin .Sub (.blt .len #[.ix (.v 0) (.int 1)]) (.int 1)]) #[.call Zv #[.v 7],.cmp .In (.v 7) (.tup #[.int 1,.neg (.int 1)])]))]
def js  : Ss:=(.cons (.ite (.cmp .NotEq (.blt .len #[.v 2]) (.int 2)) #[.ret (.bl ia)] .nil) AI)
def zI  : Ss:=(.cons (.ite (.cmp .Eq (.blt .len #[.v 2]) (.int 3)) #[.asg (.t #[.n 3,.n 4,.n 5]) (.v 2),(.ret (.bop da (.cmp .Eq (.v 3) (.str "home")) #[.call aA #[.v 1,.v 4],.call aA #[.v 1,.v 5]]))] .nil) js)
def YG  : Fun:=⟨"is_entry",["plan", "stays", "thing"],["plan", "stays", "thing", "word", "start", "end", "s", "way"],(.cons (.ite (.not (.blt .isi #[.v 2,.ty "tuple"])) #[.ret (.bl ia)] .nil) zI)⟩
noncomputable def Tz  : Fun:=⟨"ends_of",["plan", "entry"],["plan", "entry", "s", "way", "word", "one", "other", "low", "high"],#[.ite (.cmp .Eq (.blt .len #[.v 1]) (.int 3)) #[.ret (.tup #[.ix (.v 1) (.int 1),.ix (.v 1) (.int 2)])] .nil,.asg (.t #[.n 2,.n 3]) (.v 1),.asg (.t #[.n 4,.n 5,.n 6,.n 7,.n 8]) (.ix (.ix (.v 0) (.int 1)) (.v 2)),.ret (.ife (.cmp .Eq (.v 3) (.int 1)) (.tup #[.v 5,.v 6]) (.tup #[.v 6,.v 5]))]⟩
noncomputable def mH  : Ss:=#[.ret (.blt .all #[.lc [la,ca 3] (.n 0) (.r1 (.blt .len #[.v 3])) .nil (.cmp .Eq (.ix (.ix (.v 1) (.bin .Sub (.v 0) (.int 1))) (.int 1)) (.ix (.ix (.v 1) (.v 0)) (.int 0)))])]
def lH  : Ss:=(.cons (.asg (.n 3) (.lc [la,ca 0] (.n 0) (.e (.v 2)) .nil (.call zG #[.v 1,.v 0]))) mH)
def kH  : Ss:=(.cons (.ite (.not (.blt .all #[.lc [la,ca 0,ca 1] (.n 0) (.e (.v 2)) .nil (.call GG #[.v 1,.v 2,.v 0])])) #[.ret (.bl ia)] .nil) lH)
def oG  : Fun:=⟨"is_ring",["plan", "stays", "thing"],["plan", "stays", "thing", "ends"],(.cons (.ite (.not (.bop da (.blt .isi #[.v 2,.ty "tuple"]) #[.cmp2 .LtE .LtE (.int 1) (.blt .len #[.v 2]) (.g 0)])) #[.ret (.bl ia)] .nil) kH)⟩
noncomputable def jA  : Fun:=⟨"entry_sums",["beats", "windows", "entry"],["beats", "windows", "entry", "apart", "s", "way", "least", "most"],#[.ite (.cmp .Eq (.blt .len #[.v 2]) (.int 3)) #[.asg (.n 3) (.bin .Sub (.ix (.v 0) (.ix (.v 2) (.int 2))) (.ix (.v 0) (.ix (.v 2) (.int 1)))),.ret (.tup #[.v 3,.v 3])] .nil,.asg (.t #[.n 4,.n 5]) (.v 2),.asg (.t #[.n 6,.n 7]) (.ix (.v 1) (.v 4)),.ret (.ife (.cmp .Eq (.v 5) (.int 1)) (.tup #[.v 6,.v 7]) (.tup #[.neg (.v 7),.neg (.v 6)]))]⟩
def sG  : Fun:=⟨"sums_of",["plan", "period", "beats", "windows", "ring"],["plan", "period", "beats", "windows", "ring", "sums"],#[.asgC 5 (.lc [la,ca 2,ca 3] (.n 0) (.e (.v 4)) .nil (.call uI #[.v 1,.v 2,.v 0])),(.ret (.tup #[.blt .sum #[.lc [la,la] (.t #[.n 0,.n 1]) (.e (.v 5)) .nil (.v 0)],.blt .sum #[.lc [la,la] (.t #[.n 0,.n 1]) (.e (.v 5)) .nil (.v 1)]]))]⟩
def CH  : Fun:=⟨"ring_bars",["plan", "period", "beats", "windows", "ring"],["plan", "period", "beats", "windows", "ring", "least", "most"],#[.asg (.t #[.n 5,.n 6]) (.call Nz #[.v 0,.v 1,.v 2,.v 3,.v 4]),.ret (.cmp .Lt (.bin .Mult (.bin .FloorDiv (.v 6) (.v 1)) (.v 1)) (.v 5))]⟩
noncomputable def JH  : Fun:=⟨"has_shape",["node", "word", "many"],["node", "word", "many"],#[(.ret (.bop da (.blt .isi #[.v 0,.ty "tuple"]) #[.cmp .Eq (.blt .len #[.v 0]) (.v 2),.cmp .Eq (.ix (.v 0) (.int 0)) (.v 1)]))]⟩
def YJ  : Ss:=#[.asg (.t #[.n 8,.n 9]) (.ix (.v 1) (.v 4)),.ret (.ife (.call Zr #[.v 5,.v 8,.bin .Sub (.v 9) (.int 1)]) .non (.str "cut"))]
def XJ  : Ss:=(.cons (.ite (.not (.call Zr #[.v 4,.int 0,.bin .Sub (.blt .len #[.ix (.v 0) (.int 1)]) (.int 1)])) #[.ret (.str "span")] .nil) YJ)
def OH  : Fun:=⟨"split_fault",["plan", "windows", "node"],["plan", "windows", "node", "word", "s", "cut", "lower", "upper", "least", "most"],(.cons (.asg (.t #[.n 3,.n 4,.n 5,.n 6,.n 7]) (.v 2)) XJ)⟩
def xH  : Fun:=⟨"ring_fault",["plan", "period", "beats", "stays", "windows", "ring"],["plan", "period", "beats", "stays", "windows", "ring"],#[.ite (.not (.call Lz #[.v 0,.v 3,.v 5])) #[.ret (.str "ring")] .nil,.ret (.ife (.call HH #[.v 0,.v 1,.v 2,.v 4,.v 5]) .non (.str "bar"))]⟩
noncomputable def jJ  : Ss:=#[.ret (.str "shape")]
def iJ  : Ss:=(.cons (.ite (.call bw #[.v 5,.str "split",.int 5]) #[.ret (.call TH #[.v 0,.v 4,.v 5])] .nil) jJ)
def wH  : Fun:=⟨"node_fault",["plan", "period", "beats", "stays", "windows", "node"],["plan", "period", "beats", "stays", "windows", "node"],(.cons (.ite (.call bw #[.v 5,.str "ring",.int 2]) #[.ret (.call yI #[.v 0,.v 1,.v 2,.v 3,.v 4,.ix (.v 5) (.int 1)])] .nil) iJ)⟩
def ZJ  : Ss:=#[.asg (.t #[.n 2,.n 3,.n 4,.n 5,.n 6]) (.v 1),.asg (.t #[.n 7,.n 8]) (.ix (.v 0) (.v 3)),(.ret (.lst #[.tup #[.v 5,.call AA #[.v 0,.v 3,.tup #[.v 7,.v 4]]],.tup #[.v 6,.call AA #[.v 0,.v 3,.tup #[.bin .Add (.v 4) (.int 1),.v 8]]]]))]
def mw  : Fun:=⟨"split_sides",["windows", "node"],["windows", "node", "word", "s", "cut", "lower", "upper", "least", "most"],(.cons (.ite (.cmp .NotEq (.ix (.v 1) (.int 0)) (.str "split")) #[.ret (.lst .nil)] .nil) ZJ)⟩
noncomputable def WI  : Fun:=⟨"look_through",["thing", "start", "fault_of", "sides_of"],["thing", "start", "fault_of", "sides_of", "waiting", "at", "node", "held", "word"],#[.asg (.n 4) (.lst #[.tup #[.v 0,.v 1]]),.asg (.n 5) (.int 0),(.wh (.v 4) #[.asg (.t #[.n 6,.n 7]) (.meth .pop (.v 4) .nil),.asg (.n 8) (.app 2 #[.v 7,.v 6]),.ite (.cmp .IsNot (.v 8) .non) #[.raise 1 #[.v 8,.v 5]] .nil,.expr (.meth .extend (.v 4) #[.rev (.app 3 #[.v 7,.v 6]) (.neg (.int 1))]),.aug 5 .Add (.int 1)]),.ret (.bl da)]⟩
def aK  : Fun:=⟨"is_priced_ring",["plan", "thing"],["plan", "thing", "price", "ring"],#[.ite (.not (.bop da (.blt .isi #[.v 1,.ty "tuple"]) #[.cmp .Eq (.blt .len #[.v 1]) (.int 2)])) #[.ret (.bl ia)] .nil,.asg (.t #[.n 2,.n 3]) (.v 1),.ret (.bop da (.call Zr #[.v 2,.int 1,.g 1]) #[.call Lz #[.v 0,.tup .nil,.v 3]])]⟩
def rH  : Fun:=⟨"are_prices",["plan", "thing"],["plan", "thing"],#[.ite (.not (.bop da (.blt .isi #[.v 1,.ty "tuple"]) #[.cmp .LtE (.blt .len #[.v 1]) (.g 2)])) #[.ret (.bl ia)] .nil,.ret (.blt .all #[.lc [la,ca 0] (.n 0) (.e (.v 1)) .nil (.call GJ #[.v 1,.v 0])])]⟩
noncomputable def oH  : Ss:=#[.ret (.v 2)]
def nH  : Ss:=(.cons (.fr (.t #[.n 3,.n 4]) (.e (.v 1)) #[.fr (.t #[.n 5,.n 6]) (.e (.v 4)) #[.augS (.v 2) (.v 5) .Sub (.bin .Mult (.v 3) (.v 6))]]) oH)
def rG  : Fun:=⟨"left_of",["weights", "prices"],["weights", "prices", "left", "price", "ring", "s", "way"],(.cons (.asg (.n 2) (.mkL (.v 0))) nH)⟩
noncomputable def FI  : Fun:=⟨"shown_by_span",["low", "window", "left"],["low", "window", "left", "least", "most"],#[.asg (.t #[.n 3,.n 4]) (.v 1),.ret (.bin .Mult (.v 2) (.bin .Sub (.ife (.cmp .GtE (.v 2) (.int 0)) (.v 3) (.v 4)) (.v 0)))]⟩
noncomputable def tJ  : Ss:=#[.asg (.n 8) (.blt .sum #[.lc [la,la,ca 0] (.t #[.n 0,.n 1]) (.e (.v 4)) .nil (.bin .Mult (.v 1) (.ix (.ix (.ix (.v 2) (.int 1)) (.v 0)) (.int 3)))]),.ret (.bin .Mult (.v 3) (.bin .Sub (.bin .Mult (.v 7) (.v 1)) (.v 8)))]
def sJ  : Ss:=(.cons (.asg (.n 7) (.neg (.bin .FloorDiv (.neg (.v 5)) (.v 1)))) tJ)
def EI  : Fun:=⟨"shown_by_ring",["plan", "period", "windows", "price", "ring"],["plan", "period", "windows", "price", "ring", "least", "most", "rounds", "lows"],(.cons (.asg (.t #[.n 5,.n 6]) (.call Nz #[.v 0,.v 1,.tup .nil,.v 2,.v 4])) sJ)⟩
noncomputable def kI  : Ss:=#[.ret (.bin .Add (.blt .sum #[.v 6]) (.blt .sum #[.v 7]))]
def jI  : Ss:=(.cons (.asgC 7 (.lc [la,la,ca 0,ca 1,ca 3] (.t #[.n 0,.n 1]) (.e (.v 4)) .nil (.call JI #[.v 2,.v 3,.v 4,.v 0,.v 1]))) kI)
def iI  : Ss:=(.cons (.asgC 6 (.lc [la,ca 0,ca 3,ca 5] (.n 0) (.r1 (.blt .len #[.ix (.v 0) (.int 1)])) .nil (.call MW #[.ix (.ix (.ix (.v 1) (.int 1)) (.v 0)) (.int 3),.ix (.v 2) (.v 0),.ix (.v 3) (.v 0)]))) jI)
def iH  : Fun:=⟨"shown_by",["plan", "period", "weights", "windows", "prices"],["plan", "period", "weights", "windows", "prices", "left", "by_spans", "by_rings"],(.cons (.asg (.n 5) (.call BG #[.v 2,.v 4])) iI)⟩
def WJ  : Ss:=#[.ret (.ife (.cmp .GtE (.call LG #[.v 0,.v 1,.v 2,.v 4,.v 5]) (.v 3)) .non (.str "bound"))]
def NH  : Fun:=⟨"price_fault",["plan", "period", "weights", "bound", "windows", "prices"],["plan", "period", "weights", "bound", "windows", "prices"],(.cons (.ite (.not (.call tI #[.v 0,.v 5])) #[.ret (.str "price")] .nil) WJ)⟩
noncomputable abbrev GW  : Nat:=57
noncomputable abbrev EW  : Nat:=58
noncomputable def hJ  : Ss:=#[.asg (.t #[.n 4,.n 5]) (.meth .pop (.v 2) .nil),.asg (.n 6) (.call 58 #[.v 5,.v 4,.v 7,.v 8,.v 9,.v 10]),.ite (.cmp .IsNot (.v 6) .non) #[.raise 1 #[.v 6,.v 3]] .nil,.expr (.meth .extend (.v 2) #[.rev (.call 17 #[.v 5,.v 4]) (.neg (.int 1))]),.aug 3 .Add (.int 1)]
def Zz  : Fun:=⟨"lets_waits",["plan", "period", "weights", "bound", "thing"],["plan", "period", "weights", "bound", "thing", "fault_of"],#[(.ret (.call 57 #[.v 4,.call bA #[.v 0,.v 1],.non,.non,.non,.non,.non,.v 0,.v 1,.v 2,.v 3]))]⟩
def uA  : Fun:=⟨"lt@lets_waits",["thing@", "start@", "waiting@", "at@", "node@", "held@", "word@", "plan", "period", "weights", "bound"],["thing@", "start@", "waiting@", "at@", "node@", "held@", "word@", "plan", "period", "weights", "bound"],#[.asg (.n 2) (.lst #[.tup #[.v 0,.v 1]]),.asg (.n 3) (.int 0),.wh (.v 2) hJ,.ret (.bl da)]⟩
def sA  : Fun:=⟨"fault_of@lets_waits",["windows", "node", "plan", "period", "weights", "bound"],["windows", "node", "plan", "period", "weights", "bound"],#[.ite (.call bw #[.v 1,.str "prices",.int 2]) #[.ret (.call SH #[.v 2,.v 3,.v 4,.v 5,.v 0,.ix (.v 1) (.int 1)])] .nil,.ret (.call vW #[.v 2,.v 3,.tup .nil,.tup .nil,.v 0,.v 1])]⟩
def mI  : KC:=⟨294,18,57,58,17,[0,1,2,3],5, "fault_of",["windows", "node"], "split_sides",(.v 4),(.call bA (.cons (.v 0) (.cons (.v 1) .nil)))⟩
noncomputable def pG  : Fun:=⟨"_law_fed",["_law_script"],["_law_script"],#[.ret (.dic #[.str "cells",.sl (.v 0) .no (.so (.int 63)),.str "at",.int 0,.str "left",.int 0,.str "turn",.int 0])]⟩
noncomputable def bH  : Fun:=⟨"_law_draw",["_law_feed", "_law_many"],["_law_feed", "_law_many", "_law_digit", "_law_cells", "_law_at", "_law_cell", "_law_mixed"],#[.setS (.v 0) (.str "turn") (.bin .Add (.ix (.v 0) (.str "turn")) (.int 1)),.ite (.cmp .Gt (.ix (.v 0) (.str "left")) (.int 0)) #[.asg (.n 2) (.bin .Mod (.ix (.v 0) (.str "left")) (.v 1)),.setS (.v 0) (.str "left") (.bin .FloorDiv (.ix (.v 0) (.str "left")) (.v 1)),.ret (.v 2)] .nil,.asg (.n 3) (.ix (.v 0) (.str "cells")),.asg (.n 4) (.ix (.v 0) (.str "at")),.setS (.v 0) (.str "at") (.bin .Add (.v 4) (.int 1)),.asg (.n 5) (.ife (.cmp .NotEq (.v 3) (.lst .nil)) (.ix (.v 3) (.bin .Mod (.v 4) (.blt .len #[.v 3]))) (.int 0)),.ite (.bop da (.cmp .GtE (.v 5) (.bin .Pow (.int 10) (.int 18))) #[.cmp .Lt (.v 4) (.blt .len #[.v 3])]) #[.setS (.v 0) (.str "left") (.bin .FloorDiv (.v 5) (.v 1)),.ret (.bin .Mod (.v 5) (.v 1))] .nil,.asg (.n 6) (.bin .Mod (.bin .Add (.bin .Add (.bin .Mult (.bin .Mod (.v 5) (.int 1000003)) (.int 48271)) (.bin .Mult (.int 7919) (.ix (.v 0) (.str "turn")))) (.int 104729)) (.int 2147483647)),.asg (.n 6) (.bin .Mod (.bin .Add (.bin .Add (.bin .Mult (.bin .FloorDiv (.v 6) (.int 64)) (.int 69621)) (.bin .Mult (.bin .Mult (.int 31) (.ix (.v 0) (.str "turn"))) (.ix (.v 0) (.str "turn")))) (.int 17)) (.int 2147483587)),.ret (.bin .Mod (.bin .FloorDiv (.v 6) (.int 64)) (.v 1))]⟩
def qG  : Fun:=⟨"_law_fit",["_law_feed", "_law_cycle", "_law_beats", "_law_one", "_law_other"],["_law_feed", "_law_cycle", "_law_beats", "_law_one", "_law_other", "_law_gap", "_law_far", "_law_low"],#[.asg (.n 5) (.bin .Mod (.bin .Sub (.ix (.v 2) (.v 4)) (.ix (.v 2) (.v 3))) (.v 1)),(.ite (.cmp .Eq (.call Kc #[.v 0,.int 4]) (.int 0)) #[(.ret (.tup #[.str "apart",.v 3,.v 4,.call Kc #[.v 0,.bin .Add (.v 5) (.int 1)],.call Kc #[.v 0,.bin .Add (.bin .Sub (.v 1) (.v 5)) (.int 1)]]))] .nil),.asg (.n 6) (.bin .Add (.v 5) (.bin .Mult (.v 1) (.ix (.lst #[.int 0,.int 0,.int 0,.int 1,.int 2]) (.call Kc #[.v 0,.int 5])))),.asg (.n 7) (.bin .Sub (.v 6) (.blt .min #[.v 6,.ix (.lst #[.int 0,.int 1,.int 2,.call Kc #[.v 0,.v 1]]) (.call Kc #[.v 0,.int 4])])),.ret (.tup #[.str "span",.v 3,.v 4,.v 7,.bin .Add (.v 6) (.ix (.lst #[.int 0,.int 0,.int 1,.call Kc #[.v 0,.v 1]]) (.call Kc #[.v 0,.int 4]))])]⟩
def mJ  : Fun:=⟨"_law_any_span",["_law_feed", "_law_cycle", "_law_one", "_law_other"],["_law_feed", "_law_cycle", "_law_one", "_law_other", "_law_low"],#[(.asg (.n 4) (.ix (.lst #[.int 0,.call Kc #[.v 0,.v 1],.call Kc #[.v 0,.bin .Mult (.int 3) (.v 1)],.v 1]) (.call Kc #[.v 0,.int 4]))),(.ite (.cmp .Eq (.call Kc #[.v 0,.int 3]) (.int 0)) #[(.ret (.tup #[.str "apart",.v 2,.v 3,.call Kc #[.v 0,.bin .Add (.v 1) (.int 1)],.call Kc #[.v 0,.bin .Add (.v 1) (.int 2)]]))] .nil),(.ret (.tup #[.str "span",.v 2,.v 3,.v 4,(.bin .Add (.v 4) (.ix (.lst #[.int 0,.int 0,.int 1,.call Kc #[.v 0,.v 1],.bin .Sub (.v 1) (.int 1),.bin .Mult (.int 2) (.v 1)]) (.call Kc #[.v 0,.int 6])))]))]⟩
def cw  : Ss:=#[.asg (.n 6) (.rev (.v 6) (.ix (.lst #[.int 1,.neg (.int 1)]) (.blt .int #[.cmp .Eq (.call Kc #[.v 0,.int 3]) (.int 0)]))),(.ret (.tup #[.sl (.tup #[.str "a",.str "ab",.str "works",.str "span",.str "apart",.str "ring",.str "b",.str "stay"]) .no (.so (.v 1)),.mkT (.v 6)]))]
def pA  : Ss:=(.cons (.asg (.n 6) (.bin .Add (.v 6) (.bin .Mult (.sl (.v 6) .no (.so (.int 1))) (.blt .int #[.bop da (.cmp2 .Lt .Lt (.int 0) (.blt .len #[.v 6]) (.v 3)) #[.cmp .Eq (.call Kc #[.v 0,.int 4]) (.int 0)]])))) cw)
def jw  : Ss:=#[.asg (.n 11) (.bop ia (.cmp .Eq (.v 5) (.int 5)) #[.bop da (.cmp .Gt (.v 5) (.int 2)) #[.cmp .Eq (.call Kc #[.v 0,.int 5]) (.int 0)]]),.expr (.meth .append (.v 6) #[.ife (.v 11) (.call oA #[.v 0,.v 2,.v 9,.v 10]) (.call Mz #[.v 0,.v 2,.v 4,.v 9,.v 10])])]
def JA  : Ss:=(.cons (.asg (.t #[.n 9,.n 10]) (.ix (.lst #[.tup #[.v 9,.v 10],.tup #[.v 10,.v 9]]) (.call Kc #[.v 0,.int 2]))) jw)
def IA  : Ss:=(.cons (.ite (.cmp .Lt (.bin .Add (.v 8) (.int 1)) (.v 1)) #[.par [9,10] #[.bin .Add (.v 8) (.int 1),.call Kc #[.v 0,.bin .Add (.v 8) (.int 1)]]] .nil) JA)
def GA  : Ss:=(.cons (.par [9,10] #[.call Kc #[.v 0,.v 1],.call Kc #[.v 0,.v 1]]) (.cons (.ite (.bop da (.cmp .Eq (.v 9) (.v 10)) #[.cmp .Gt (.call Kc #[.v 0,.int 4]) (.int 0)]) #[.asg (.n 10) (.bin .Mod (.bin .Add (.v 9) (.int 1)) (.v 1))] .nil) IA))
def ZI  : Ss:=(.cons (.fr (.n 8) (.r1 (.blt .min #[.v 3,.v 7])) GA) pA)
def YI  : Ss:=(.cons (.asg (.n 3) (.ix (.lst #[.v 3,.int 24]) (.blt .int #[.cmp .Eq (.call Kc #[.v 0,.int 16]) (.int 0)]))) (.cons (.asg (.n 5) (.call Kc #[.v 0,.int 6])) (.cons (.asg (.n 6) (.lst .nil)) (.cons (.asg (.n 7) (.ix (.lst #[.bin .Sub (.v 1) (.int 1),.v 1,.bin .Add (.v 1) (.int 1),.call Kc #[.v 0,.bin .Add (.v 3) (.int 1)],.v 3,.v 1]) (.call Kc #[.v 0,.int 6]))) ZI))))
def tH  : Fun:=⟨"_law_a_plan",["_law_feed", "_law_works", "_law_cycle", "_law_most"],["_law_feed", "_law_works", "_law_cycle", "_law_most", "_law_beats", "_law_way", "_law_spans", "_law_many", "_law_k", "_law_one", "_law_other", "_law_odd"],(.cons (.asgC 4 (.lc [la,ca 0,ca 2] (.n 0) (.r1 (.v 1)) .nil (.call Kc #[.v 1,.v 2]))) YI)⟩
noncomputable def vH  : Fun:=⟨"_law_window",["_law_plan", "_law_cycle", "_law_s"],["_law_plan", "_law_cycle", "_law_s", "_law_word", "_law_one", "_law_other", "_law_low", "_law_high", "_law_top"],#[.asg (.t #[.n 3,.n 4,.n 5,.n 6,.n 7]) (.ix (.ix (.v 0) (.int 1)) (.v 2)),.asg (.n 8) (.ife (.cmp .Eq (.v 3) (.str "span")) (.v 7) (.bin .Sub (.v 1) (.v 7))),.ret (.tup #[.v 6,.blt .min #[.v 8,.bin .Sub (.bin .Add (.v 6) (.v 1)) (.int 1)]])]⟩
def SJ  : Fun:=⟨"_law_all_windows",["_law_plan", "_law_cycle"],["_law_plan", "_law_cycle"],#[.ret (.mkT (.lc [la,ca 0,ca 1] (.n 0) (.r1 (.blt .len #[.ix (.v 0) (.int 1)])) .nil (.call wI #[.v 1,.v 2,.v 0])))]⟩
def jK  : Ss:=#[(.fr (.n 4) (.e (.ix (.v 1) (.int 1))) #[(.expr (.meth .append (.v 3) #[(.ix (.lst #[.call Kc #[.v 0,.int 100],.call Kc #[.v 0,.int 4],.ix (.lst #[.int 0,.int 1,.int 99]) (.call Kc #[.v 0,.int 3])]) (.v 2))]))]),.ret (.mkT (.v 3))]
def uJ  : Fun:=⟨"_law_some_weights",["_law_feed", "_law_plan"],["_law_feed", "_law_plan", "_law_way", "_law_found", "_law_span"],(.cons (.asg (.n 2) (.call Kc #[.v 0,.int 3])) (.cons (.asg (.n 3) (.lst .nil)) jK))⟩
noncomputable def pI  : Fun:=⟨"_law_is_from",["_law_least", "_law_most", "_law_thing"],["_law_least", "_law_most", "_law_thing"],#[(.ret (.bop da (.blt .isi #[.v 2,.ty "int"]) #[.not (.blt .isi #[.v 2,.ty "bool"]),.cmp2 .LtE .LtE (.v 0) (.v 2) (.v 1)]))]⟩
noncomputable def FA  : Ss:=#[.asg (.t #[.n 4,.n 5]) (.sl (.ix (.ix (.v 0) (.int 1)) (.ix (.v 2) (.int 0))) (.so (.int 1)) (.so (.int 3))),(.ret (.ix (.lst #[.tup #[.v 4,.v 5],.tup #[.v 5,.v 4]]) (.blt .int #[.cmp .Eq (.ix (.v 2) (.int 1)) (.neg (.int 1))])))]
def RJ  : Ss:=(.cons (.ite (.bop ia (.not (.call Tk #[.int 0,.bin .Sub (.blt .len #[.ix (.v 0) (.int 1)]) (.int 1),.ix (.v 2) (.int 0)])) #[.not (.call Tk #[.neg (.int 1),.int 1,.ix (.v 2) (.int 1)]),.cmp .Eq (.ix (.v 2) (.int 1)) (.int 0)]) #[.ret .non] .nil) FA)
def EA  : Ss:=(.cons (.ite (.cmp .Eq (.blt .len #[.v 2]) (.int 3)) #[.asgC 3 (.lc [la,ca 1] (.n 0) (.e (.sl (.v 2) (.so (.int 1)) .no)) .nil (.bop da (.call Tk #[.int 0,.int 7,.v 0]) #[.cmp .In (.v 0) (.v 1)])),.ret (.ife (.bop da (.blt .isi #[.ix (.v 2) (.int 0),.ty "str"]) #[.cmp .Eq (.ix (.v 2) (.int 0)) (.str "home"),.cmp .NotIn (.bl ia) (.v 3)]) (.sl (.v 2) (.so (.int 1)) .no) .non)] .nil) RJ)
def VI  : Fun:=⟨"_law_two_ends",["_law_plan", "_law_stays", "_law_entry"],["_law_plan", "_law_stays", "_law_entry", "_law_fine", "_law_one", "_law_other"],(.cons (.ite (.bop ia (.not (.blt .isi #[.v 2,.ty "tuple"])) #[.cmp .NotIn (.blt .len #[.v 2]) (.tup #[.int 2,.int 3])]) #[.ret .non] .nil) EA)⟩
noncomputable def NI  : Ss:=#[.ret (.cmp .Eq (.lc [la,ca 3] (.n 0) (.r1 (.blt .len #[.v 3])) #[.cmp .NotEq (.ix (.ix (.v 1) (.bin .Sub (.v 0) (.int 1))) (.int 1)) (.ix (.ix (.v 1) (.v 0)) (.int 0))] (.v 0)) (.lst .nil))]
def MI  : Ss:=(.cons (.ite (.cmp .In .non (.v 3)) #[.ret (.bl ia)] .nil) NI)
def LI  : Ss:=(.cons (.asg (.n 3) (.lc [la,ca 0,ca 1] (.n 0) (.e (.v 2)) .nil (.call XI #[.v 1,.v 2,.v 0]))) MI)
def qI  : Fun:=⟨"_law_is_ring",["_law_plan", "_law_stays", "_law_thing"],["_law_plan", "_law_stays", "_law_thing", "_law_ends"],(.cons (.ite (.bop ia (.not (.blt .isi #[.v 2,.ty "tuple"])) #[.not (.cmp2 .LtE .LtE (.int 1) (.blt .len #[.v 2]) (.int 60))]) #[.ret (.bl ia)] .nil) LI)⟩
noncomputable def TJ  : Ss:=#[.ret (.v 3)]
def SI  : Ss:=(.cons (.fr (.n 4) (.e (.v 2)) #[(.ite (.cmp .Eq (.blt .len #[.v 4]) (.int 3)) #[.asg (.n 5) (.bin .Mult (.tup #[.bin .Sub (.ix (.v 0) (.ix (.v 4) (.int 2))) (.ix (.v 0) (.ix (.v 4) (.int 1)))]) (.int 2))] #[.asg (.t #[.n 6,.n 7]) (.ix (.v 1) (.ix (.v 4) (.int 0))),(.asg (.n 5) (.ix (.lst #[.tup #[.v 6,.v 7],.tup #[.bin .Sub (.int 0) (.v 7),.bin .Sub (.int 0) (.v 6)]]) (.blt .int #[.cmp .Eq (.ix (.v 4) (.int 1)) (.neg (.int 1))])))]),.asg (.n 3) (.tup #[.bin .Add (.ix (.v 3) (.int 0)) (.ix (.v 5) (.int 0)),.bin .Add (.ix (.v 3) (.int 1)) (.ix (.v 5) (.int 1))])]) TJ)
def LH  : Fun:=⟨"_law_sums_of",["_law_beats", "_law_windows", "_law_ring"],["_law_beats", "_law_windows", "_law_ring", "_law_sums", "_law_entry", "_law_ends", "_law_low", "_law_high"],(.cons (.asg (.n 3) (.tup #[.int 0,.int 0])) SI)⟩
noncomputable def uz  : Fun:=⟨"_law_up",["_law_cycle", "_law_number"],["_law_cycle", "_law_number"],#[.ret (.bin .Mult (.bin .FloorDiv (.bin .Sub (.bin .Add (.v 1) (.v 0)) (.int 1)) (.v 0)) (.v 0))]⟩
def lJ  : Fun:=⟨"_law_is_barred",["_law_cycle", "_law_beats", "_law_windows", "_law_ring"],["_law_cycle", "_law_beats", "_law_windows", "_law_ring", "_law_least", "_law_most"],#[.asg (.t #[.n 4,.n 5]) (.call xA #[.v 1,.v 2,.v 3]),.ret (.cmp .Gt (.call Dz #[.v 0,.v 4]) (.v 5))]⟩
def bK  : Ss:=#[(.ite (.bop ia (.not (.blt .isi #[.v 2,.ty "tuple"])) #[.cmp .NotEq (.blt .len #[.v 2]) (.int 2),.not (.call Tk #[.int 1,.int 999,.ix (.v 2) (.int 0)])]) #[.ret (.bl ia)] .nil),.ite (.not (.call wA #[.v 0,.tup .nil,.ix (.v 2) (.int 1)])) #[.ret (.bl ia)] .nil]
def wJ  : Ss:=#[.fr (.n 2) (.e (.v 1)) bK,.ret (.bl da)]
def DJ  : Fun:=⟨"_law_are_prices",["_law_plan", "_law_thing"],["_law_plan", "_law_thing", "_law_one"],(.cons (.ite (.bop ia (.not (.blt .isi #[.v 1,.ty "tuple"])) #[.cmp .Gt (.blt .len #[.v 1]) (.int 24)]) #[.ret (.bl ia)] .nil) wJ)⟩
noncomputable def YH  : Ss:=#[.ret (.v 6)]
noncomputable def DA  : Ss:=#[.asg (.n 6) (.bin .Add (.v 6) (.bin .Mult (.ix (.v 5) (.v 10)) (.bin .Sub (.v 12) (.ix (.ix (.ix (.v 0) (.int 1)) (.v 10)) (.int 3)))))]
def QJ  : Ss:=(.cons (.asg (.n 12) (.ix (.ix (.v 3) (.v 10)) (.blt .int #[.cmp .Lt (.ix (.v 5) (.v 10)) (.int 0)]))) DA)
def XH  : Ss:=(.cons (.fr (.n 10) (.r1 (.blt .len #[.v 5])) QJ) YH)
def PJ  : Ss:=#[.asg (.n 6) (.bin .Add (.v 6) (.bin .Mult (.v 7) (.bin .Sub (.call Dz #[.v 1,.ix (.call xA #[.tup .nil,.v 3,.v 8]) (.int 0)]) (.v 9))))]
def OJ  : Ss:=(.cons (.fr (.t #[.n 10,.n 11]) (.e (.v 8)) #[.setS (.v 5) (.v 10) (.bin .Sub (.ix (.v 5) (.v 10)) (.bin .Mult (.v 7) (.v 11))),.asg (.n 9) (.bin .Add (.v 9) (.bin .Mult (.v 11) (.ix (.ix (.ix (.v 0) (.int 1)) (.v 10)) (.int 3))))]) PJ)
def NJ  : Ss:=(.cons (.asg (.n 9) (.int 0)) OJ)
def WH  : Ss:=(.cons (.fr (.t #[.n 7,.n 8]) (.e (.v 4)) NJ) XH)
def AH  : Fun:=⟨"_law_shows",["_law_plan", "_law_cycle", "_law_weights", "_law_windows", "_law_priced"],["_law_plan", "_law_cycle", "_law_weights", "_law_windows", "_law_priced", "_law_left", "_law_found", "_law_price", "_law_ring", "_law_lows", "_law_s", "_law_way", "_law_end"],(.cons (.asg (.n 5) (.mkL (.v 2))) (.cons (.asg (.n 6) (.int 0)) WH))⟩
noncomputable def aI  : Ss:=#[(.fr (.n 4) (.r1 (.blt .len #[.ix (.v 0) (.int 1)])) #[.asg (.t #[.n 3,.n 5]) (.sl (.ix (.ix (.v 0) (.int 1)) (.v 4)) (.so (.int 1)) (.so (.int 3))),(.expr (.meth .extend (.v 2) #[(.lst #[(.tup #[.tup #[.v 4,.int 1],.v 3,.v 5]),(.tup #[.tup #[.v 4,.neg (.int 1)],.v 5,.v 3])])]))]),.ret (.v 2)]
def ZH  : Ss:=(.cons (.fr (.n 3) (.e (.v 1)) #[(.expr (.meth .extend (.v 2) #[(.lc [la,ca 3] (.n 0) (.e (.v 1)) #[.cmp .NotEq (.v 0) (.v 1)] (.tup #[.tup #[.str "home",.v 1,.v 0],.v 1,.v 0]))]))]) aI)
def BH  : Fun:=⟨"_law_steps",["_law_plan", "_law_stays"],["_law_plan", "_law_stays", "_law_found", "_law_one", "_law_s", "_law_other"],(.cons (.asg (.n 2) (.lst .nil)) ZH)⟩
noncomputable def CA  : Ss:=#[.fr (.t #[.n 6,.n 7,.n 8]) (.e (.v 2)) #[.ite (.bop da (.cmp .In (.v 7) (.v 3)) #[.cmp .Eq (.ix (.ix (.v 3) (.v 7)) (.int 0)) (.v 4),.cmp .NotIn (.v 8) (.v 3)]) #[.setS (.v 3) (.v 8) (.tup #[.v 4,.bin .Add (.ix (.ix (.v 3) (.v 7)) (.int 1)) (.tup #[.v 6])])] .nil]]
def cK  : Ss:=(.cons (.asg (.n 5) (.blt .len #[.v 3])) CA)
def MA  : Ss:=#[.wh (.cmp .NotEq (.v 5) (.blt .len #[.v 3])) cK]
def AJ  : Ss:=(.cons (.setS (.v 3) (.v 4) (.tup #[.v 4,.tup .nil])) (.cons (.asg (.n 5) (.neg (.int 1))) MA))
def UJ  : Ss:=#[.ite (.cmp .NotIn (.v 4) (.v 3)) AJ .nil]
def hI  : Ss:=#[.fr (.n 4) (.e (.bin .Add (.mkL (.sl (.v 1) .no (.so (.int 1)))) (.rngL (.blt .len #[.ix (.v 0) (.int 0)])))) UJ,.ret (.v 3)]
def fH  : Fun:=⟨"_law_ways",["_law_plan", "_law_stays", "_law_entries"],["_law_plan", "_law_stays", "_law_entries", "_law_paths", "_law_root", "_law_many", "_law_entry", "_law_one", "_law_other"],(.cons (.asg (.n 3) (.dic .nil)) hI)⟩
noncomputable def aH  : Fun:=⟨"_law_back",["_law_path"],["_law_path", "_law_found", "_law_entry"],#[.asg (.n 1) (.lst .nil),.fr (.n 2) (.e (.rev (.v 0) (.neg (.int 1)))) #[.expr (.meth .append (.v 1) #[.ife (.cmp .Eq (.blt .len #[.v 2]) (.int 3)) (.tup #[.str "home",.ix (.v 2) (.int 2),.ix (.v 2) (.int 1)]) (.tup #[.ix (.v 2) (.int 0),.bin .Sub (.int 0) (.ix (.v 2) (.int 1))])])],.ret (.mkT (.v 1))]⟩
noncomputable def gH  : Fun:=⟨"_law_with",["_law_windows", "_law_s", "_law_least", "_law_most"],["_law_windows", "_law_s", "_law_least", "_law_most"],#[.ret (.bin .Add (.bin .Add (.sl (.v 0) .no (.so (.v 1))) (.tup #[.tup #[.v 2,.v 3]])) (.sl (.v 0) (.so (.bin .Add (.v 1) (.int 1))) .no))]⟩
noncomputable def OA  : Ss:=#[.ret (.ife (.cmp .Eq (.blt .len #[.v 1]) (.ix (.v 2) (.ix (.v 1) (.int 0)))) (.ix (.v 1) (.int 0)) (.str ""))]
def VJ  : Ss:=(.cons (.ite (.bop ia (.not (.blt .isi #[.v 1,.ty "tuple"])) #[.cmp .Eq (.v 1) (.tup .nil),.not (.blt .isi #[.ix (.v 1) (.int 0),.ty "str"]),.cmp .NotIn (.ix (.v 1) (.int 0)) (.v 0)]) #[.ret (.str "")] .nil) OA)
def MH  : Fun:=⟨"_law_word_of",["_law_words", "_law_node"],["_law_words", "_law_node", "_law_many"],(.cons (.asg (.n 2) (.dic #[.str "ring",.int 2,.str "split",.int 5,.str "prices",.int 2,.str "stay",.int 4,.str "enough",.int 1])) VJ)⟩
noncomputable def zJ  : Ss:=#[.ret (.ife (.cmp .GtE (.v 6) (.ix (.v 0) (.str "bound"))) .non (.tup #[.str "bound",.v 3]))]
def yJ  : Ss:=(.cons (.asg (.n 6) (.call FH #[.v 4,.v 5,.ix (.v 0) (.str "weights"),.v 2,.ix (.v 1) (.int 1)])) zJ)
def xJ  : Ss:=(.cons (.ite (.not (.call HJ #[.v 4,.ix (.v 1) (.int 1)])) #[.ret (.tup #[.str "price",.v 3])] .nil) yJ)
def LA  : Ss:=(.cons (.ite (.cmp .Eq (.ix (.v 1) (.int 0)) (.str "ring")) #[.ite (.not (.call wA #[.v 4,.tup .nil,.ix (.v 1) (.int 1)])) #[.ret (.tup #[.str "ring",.v 3])] .nil,.ret (.ife (.call HI #[.v 5,.tup .nil,.v 2,.ix (.v 1) (.int 1)]) .non (.tup #[.str "bar",.v 3]))] .nil) xJ)
def EJ  : Fun:=⟨"_law_end_judged",["_law_book", "_law_node", "_law_windows", "_law_at"],["_law_book", "_law_node", "_law_windows", "_law_at", "_law_plan", "_law_cycle", "_law_shown"],(.cons (.par [4,5] #[.ix (.v 0) (.str "plan"),.ix (.v 0) (.str "cycle")]) LA)⟩
noncomputable def qA  : Ss:=#[.ret (.v 9)]
def OI  : Ss:=(.cons (.ite (.cmp .Is (.v 9) .non) #[.asg (.n 9) (.call aw #[.v 0,.ix (.v 1) (.int 4),.call Uz #[.v 2,.v 5,.bin .Add (.v 6) (.int 1),.v 8]])] .nil) qA)
def gJ  : Ss:=(.cons (.asg (.n 9) (.call aw #[.v 0,.ix (.v 1) (.int 3),.call Uz #[.v 2,.v 5,.v 7,.v 6]])) OI)
def fJ  : Ss:=(.cons (.ite (.not (.call Tk #[.v 7,.bin .Sub (.v 8) (.int 1),.v 6])) #[.ret (.tup #[.str "cut",.v 3])] .nil) gJ)
def eJ  : Ss:=(.cons (.asg (.t #[.n 7,.n 8]) (.ix (.v 2) (.v 5))) fJ)
def dJ  : Ss:=(.cons (.ite (.not (.call Tk #[.int 0,.bin .Sub (.blt .len #[.ix (.ix (.v 0) (.str "plan")) (.int 1)]) (.int 1),.v 5])) #[.ret (.tup #[.str "span",.v 3])] .nil) eJ)
def cJ  : Ss:=(.cons (.asg (.t #[.n 5,.n 6]) (.sl (.v 1) (.so (.int 1)) (.so (.int 3)))) dJ)
def fw  : Ss:=(.cons (.ite (.cmp .NotEq (.v 4) (.str "split")) #[.ret (.call QA #[.v 0,.v 1,.v 2,.v 3])] .nil) cJ)
def bJ  : Ss:=(.cons (.ite (.cmp .Eq (.v 4) (.str "")) #[.ret (.tup #[.str "shape",.v 3])] .nil) fw)
def aJ  : Ss:=(.cons (.asg (.n 4) (.call RH #[.ix (.v 0) (.str "words"),.v 1])) bJ)
def uH  : Fun:=⟨"_law_judged",["_law_book", "_law_node", "_law_windows"],["_law_book", "_law_node", "_law_windows", "_law_at", "_law_word", "_law_s", "_law_cut", "_law_least", "_law_most", "_law_found"],(.cons (.asg (.n 3) (.ix (.v 0) (.str "at"))) (.cons (.setS (.v 0) (.str "at") (.bin .Add (.v 3) (.int 1))) aJ))⟩
def gI  : Ss:=#[.ret (.bin .Add (.bin .Add (.v 7) (.call HG #[.ix (.ix (.v 3) (.v 6)) (.int 1)])) (.ix (.ix (.v 3) (.v 5)) (.int 1)))]
def rA  : Ss:=#[.asgC 9 (.lc [la,ca 6] (.n 0) (.e (.v 2)) #[.cmp .Eq (.ix (.v 0) (.int 1)) (.v 1)] (.v 0)),.asg (.t #[.n 4,.n 10,.n 6]) (.ix (.v 9) (.call Kc #[.v 0,.blt .len #[.v 9]])),.asg (.n 7) (.bin .Add (.v 7) (.tup #[.v 4]))]
def eI  : Ss:=(.cons (.fr (.n 8) (.r1 (.ix (.lst #[.int 0,.int 1,.int 2,.int 5]) (.call Kc #[.v 0,.int 4]))) rA) gI)
def dI  : Ss:=(.cons (.asg (.t #[.n 4,.n 5,.n 6]) (.ix (.v 2) (.call Kc #[.v 0,.blt .len #[.v 2]]))) (.cons (.asg (.n 7) (.tup #[.v 4])) eI))
def dH  : Fun:=⟨"_law_walk",["_law_feed", "_law_plan"],["_law_feed", "_law_plan", "_law_entries", "_law_paths", "_law_entry", "_law_first", "_law_last", "_law_ring", "_law_k", "_law_some", "_law_start"],(.cons (.asg (.n 2) (.call GH #[.v 1,.tup .nil])) (.cons (.asg (.n 3) (.call KG #[.v 1,.tup .nil,.v 2])) dI))⟩
def eK  : Ss:=#[(.asg (.n 4) (.ix (.lst #[.int 1,.bin .Add (.int 1) (.call Kc #[.v 0,.int 9]),.bin .Add (.int 1) (.call Kc #[.v 0,.int 99]),.int 999]) (.call Kc #[.v 0,.int 4]))),.expr (.meth .append (.v 2) #[.tup #[.v 4,.call JG #[.v 0,.v 1]]])]
def CJ  : Ss:=#[.fr (.n 3) (.r1 (.bin .Mult (.ix (.lst #[.int 0,.int 1,.int 2,.int 3,.int 5,.int 24]) (.call Kc #[.v 0,.int 6])) (.blt .int #[.cmp .NotEq (.ix (.v 1) (.int 1)) (.tup .nil)]))) eK,.ret (.mkT (.v 2))]
def nJ  : Fun:=⟨"_law_some_prices",["_law_feed", "_law_plan"],["_law_feed", "_law_plan", "_law_found", "_law_k", "_law_price"],(.cons (.asg (.n 2) (.lst .nil)) CJ)⟩
def FJ  : Fun:=⟨"_law_waits_told",["_law_plan", "_law_cycle", "_law_weights", "_law_bound", "_law_thing"],["_law_plan", "_law_cycle", "_law_weights", "_law_bound", "_law_thing", "_law_found", "e", "_law_others"],#[.asg (.n 5) (.str "odd"),(.tr #[.asg (.n 5) (.call xI #[.v 0,.v 1,.v 2,.v 3,.v 4])] 0 6 [.asg 7 (.cond da (ia,.isi [3,5,4,2]) []),.ifa da (ia,.is1 1) [(ia,.isiV),(da,.v 7)] 5 (.tup [(.att "word"),(.att "at")])]),.ret (.v 5)]⟩
def rJ  : Ss:=#[.asg (.n 6) (.call aw #[.v 5,.v 4,.call oJ #[.v 0,.v 1]]),.ret (.ife (.cmp .Is (.v 6) .non) (.bl da) (.v 6))]
def qJ  : Ss:=(.cons (.expr (.meth .update (.v 5) #[.dic #[.str "weights",.v 2,.str "bound",.v 3]])) rJ)
def DI  : Fun:=⟨"_law_waits_due",["_law_plan", "_law_cycle", "_law_weights", "_law_bound", "_law_thing"],["_law_plan", "_law_cycle", "_law_weights", "_law_bound", "_law_thing", "_law_book", "_law_found"],(.cons (.asg (.n 5) (.dic #[.str "plan",.v 0,.str "cycle",.v 1,.str "words",.lst #[.str "ring",.str "split",.str "prices"],.str "at",.int 0])) qJ)⟩
def kJ  : Fun:=⟨"_law_few_shape",["_law_feed"],["_law_feed", "_law_works"],#[(.ite (.cmp .Eq (.call Kc #[.v 0,.int 16]) (.int 0)) #[(.ret (.tup #[.bin .Add (.int 6) (.call Kc #[.v 0,.int 3]),.bin .Add (.int 1) (.call Kc #[.v 0,.int 2])]))] .nil),.asg (.n 1) (.ix (.lst #[.int 2,.int 3,.int 3,.int 4,.int 2,.int 4,.int 5,.int 1]) (.call Kc #[.v 0,.int 8])),.ret (.tup #[.v 1,.bin .Add (.int 1) (.call Kc #[.v 0,.ix (.lst #[.int 30,.int 30,.int 7,.int 4,.int 2]) (.bin .Sub (.v 1) (.int 1))])])]⟩
def gA  : Ss:=#[(.asg (.n 3) (.bin .Add (.v 3) (.lst #[.tup #[.str "split",.int 0,.int 0,.non,.v 2],.tup #[.str "split",.int 0,.int 0,.v 2,.tup #[.str "ring",.int 0]],.tup #[.int 0,.int 1,.int 2,.int 3,.int 4]]))),.ret (.bin .Add (.v 3) (.lst #[.tup #[.str "prices",.call pJ #[.v 0,.v 1]]]))]
noncomputable def RI  : Ss:=#[.expr (.meth .append (.v 3) #[.tup #[.str "split",.int 0,.v 5,.v 2,.tup #[.str "ring",.tup #[.tup #[.int 0,.int 1]]]]])]
def fA  : Ss:=(.cons (.fr (.n 5) (.e (.tup #[.neg (.int 1),.int 0,.bl da,.non,.str "1",.bin .Pow (.int 10) (.int 39),.tup #[.int 0]])) RI) gA)
def QI  : Ss:=#[(.expr (.meth .append (.v 3) #[(.tup #[.str "split",.v 4,.ix (.lst #[.int 0,.int 1,.int 5]) (.call Kc #[.v 0,.int 3]),.v 2,.v 2])]))]
def dA  : Ss:=(.cons (.fr (.n 4) (.e (.tup #[.int 0,.int 1,.blt .len #[.ix (.v 1) (.int 1)],.neg (.int 1),.bl da,.non,.str "0",.bin .Pow (.int 10) (.int 39)])) QI) fA)
def cI  : Ss:=(.cons (.asg (.n 3) (.bin .Add (.v 3) (.lst #[.non,.bl da,.int 0,.str "",.tup .nil,.lst .nil,.dic .nil,.tup #[.tup .nil],.tup #[.tup #[.str "prices",.tup .nil]],.tup #[.non,.non],(.tup #[.lst #[.str "ring"],.tup .nil]),.str "ring"]))) dA)
def cA  : Ss:=(.cons (.asg (.n 3) (.bin .Add (.v 3) (.lst #[.tup #[.str "enough"],.tup #[.str "stay",.int 0,.v 2,.v 2],.tup #[.str "split",.int 0,.int 0,.v 2],.tup #[.str "split",.int 0,.int 0,.v 2,.v 2,.v 2]]))) cI)
def CI  : Ss:=(.cons (.asg (.n 3) (.bin .Add (.v 3) (.lst #[.tup #[.str "ring",.tup .nil],.tup #[.str "ring",.non],(.tup #[.str "ring",(.tup #[.tup #[.int 0,.int 1],.tup #[.int 0,.neg (.int 1)]])]),(.tup #[.str "ring",.tup #[.tup #[.int 0,.int 1]],.int 0]),.tup #[.str "ring"]]))) cA)
def BI  : Ss:=(.cons (.asg (.n 3) (.lst #[.v 2,.tup #[.str "prices",.tup .nil,.tup .nil],.tup #[.str "prices"],.lst #[.str "prices",.tup .nil],.tup #[.str "price",.tup .nil],.tup #[.str "prices",.non],.tup #[.str "prices",.lst .nil]])) CI)
def cH  : Fun:=⟨"_law_menu",["_law_feed", "_law_plan"],["_law_feed", "_law_plan", "_law_end", "_law_some", "_law_s", "_law_cut"],(.cons (.asg (.n 2) (.tup #[.str "prices",.tup .nil])) BI)⟩
noncomputable def MJ  : Ss:=#[.ite (.bop ia (.cmp .NotEq (.blt .repr #[.v 11]) (.blt .repr #[.v 10])) #[.cmp .NotEq (.blt .repr #[.v 7]) (.v 8)]) #[.ret (.bl ia)] .nil]
def LJ  : Ss:=(.cons (.asg (.n 11) (.call IJ #[.v 5,.v 4,.v 6,.v 9,.v 7])) MJ)
def RA  : Ss:=(.cons (.asg (.n 10) (.call II #[.v 5,.v 4,.v 6,.v 9,.v 7])) LJ)
def VH  : Ss:=#[.fr (.n 9) (.e (.tup #[.neg (.bin .Pow (.int 10) (.int 39)),.int 0,.bin .Add (.int 1) (.call Kc #[.v 1,.int 1000])])) RA]
def BA  : Ss:=(.cons (.asg (.n 8) (.blt .repr #[.v 7])) VH)
def Yz  : Ss:=#[.fr (.n 7) (.e (.call IG #[.v 1,.v 5])) BA]
def SG  : Ss:=(.cons (.asg (.n 6) (.call vJ #[.v 1,.v 5])) Yz)
def Xz  : Ss:=(.cons (.asg (.n 5) (.call vI #[.v 1,.v 3,.v 4,.int 9])) SG)
def RG  : Ss:=(.cons (.ite (.cmp .Eq (.call Kc #[.v 1,.int 4]) (.int 0)) #[.asg (.t #[.n 3,.n 4]) (.tup #[.int 8,.int 600])] .nil) Xz)
def Wz  : Ss:=(.cons (.asg (.t #[.n 3,.n 4]) (.call GI #[.v 1])) RG)
def nF  : Ss:=#[.fr (.n 2) (.r1 (.int 3)) Wz,.ret (.bl da)]
def yD  : Fun:=⟨"law",["_law_script"],["_law_script", "_law_feed", "_law_k", "_law_works", "_law_cycle", "_law_plan", "_law_weights", "_law_thing", "_law_former", "_law_bound", "_law_due", "_law_told"],(.cons (.asg (.n 1) (.call AG #[.v 0])) nF)⟩
def T  : Vd:=⟨[ZG,KH,DF,DH,yH,PH,sH,YG,Tz,oG,jA,sG,CH,JH,OH,xH,wH,mw,WI,aK,rH,rG,FI,EI,iH,NH,Zz,pG,bH,qG,mJ,tH,vH,SJ,uJ,pI,VI,qI,LH,uz,lJ,DJ,AH,BH,fH,aH,gH,MH,EJ,uH,dH,nJ,FJ,DI,kJ,cH,yD],[(.int 60),(.int 999),(.int 24)],["MOST_ENTRIES", "MOST_PRICE", "MOST_PRICES"],[1,2,3,4,5],[uA,sA],[(26,mI)]⟩
def Ja  (i:Nat):Pa:=PySem.Challenge.pw_beatplans_k36_no_cases_of_waits.main.body.getD i (.Pass ⟨0,0,0,0⟩)
noncomputable abbrev s_is_whole  : Pa:=Ja 8
noncomputable abbrev s_is_within  : Pa:=Ja 9
noncomputable abbrev s_top_of  : Pa:=Ja 10
noncomputable abbrev s_window_of  : Pa:=Ja 11
noncomputable abbrev s_windows_of  : Pa:=Ja 12
noncomputable abbrev s_with_window  : Pa:=Ja 13
noncomputable abbrev s_is_work_of  : Pa:=Ja 16
noncomputable abbrev s_is_entry  : Pa:=Ja 17
noncomputable abbrev s_ends_of  : Pa:=Ja 18
noncomputable abbrev s_is_ring  : Pa:=Ja 19
noncomputable abbrev s_entry_sums  : Pa:=Ja 20
noncomputable abbrev s_sums_of  : Pa:=Ja 21
noncomputable abbrev s_ring_bars  : Pa:=Ja 22
noncomputable abbrev s_has_shape  : Pa:=Ja 24
noncomputable abbrev s_split_fault  : Pa:=Ja 25
noncomputable abbrev s_ring_fault  : Pa:=Ja 26
noncomputable abbrev s_node_fault  : Pa:=Ja 27
noncomputable abbrev s_split_sides  : Pa:=Ja 28
noncomputable abbrev s_look_through  : Pa:=Ja 29
noncomputable abbrev s_is_priced_ring  : Pa:=Ja 33
noncomputable abbrev s_are_prices  : Pa:=Ja 34
noncomputable abbrev s_left_of  : Pa:=Ja 35
noncomputable abbrev s_shown_by_span  : Pa:=Ja 36
noncomputable abbrev s_shown_by_ring  : Pa:=Ja 37
noncomputable abbrev s_shown_by  : Pa:=Ja 38
noncomputable abbrev s_price_fault  : Pa:=Ja 40
noncomputable abbrev s_lets_waits  : Pa:=Ja 41
noncomputable abbrev s_law_fed  : Pa:=Ja 43
noncomputable abbrev s_law_draw  : Pa:=Ja 44
noncomputable abbrev s_law_fit  : Pa:=Ja 45
noncomputable abbrev s_law_any_span  : Pa:=Ja 46
noncomputable abbrev s_law_a_plan  : Pa:=Ja 47
noncomputable abbrev s_law_window  : Pa:=Ja 48
noncomputable abbrev s_law_all_windows  : Pa:=Ja 49
noncomputable abbrev s_law_some_weights  : Pa:=Ja 50
noncomputable abbrev s_law_is_from  : Pa:=Ja 51
noncomputable abbrev s_law_two_ends  : Pa:=Ja 52
noncomputable abbrev s_law_is_ring  : Pa:=Ja 53
noncomputable abbrev s_law_sums_of  : Pa:=Ja 54
noncomputable abbrev s_law_up  : Pa:=Ja 55
noncomputable abbrev s_law_is_barred  : Pa:=Ja 56
noncomputable abbrev s_law_are_prices  : Pa:=Ja 57
noncomputable abbrev s_law_shows  : Pa:=Ja 58
noncomputable abbrev s_law_steps  : Pa:=Ja 59
noncomputable abbrev s_law_ways  : Pa:=Ja 60
noncomputable abbrev s_law_back  : Pa:=Ja 61
noncomputable abbrev s_law_with  : Pa:=Ja 62
noncomputable abbrev s_law_word_of  : Pa:=Ja 63
noncomputable abbrev s_law_end_judged  : Pa:=Ja 64
noncomputable abbrev s_law_judged  : Pa:=Ja 65
noncomputable abbrev s_law_walk  : Pa:=Ja 66
noncomputable abbrev s_law_some_prices  : Pa:=Ja 67
noncomputable abbrev s_law_waits_told  : Pa:=Ja 68
noncomputable abbrev s_law_waits_due  : Pa:=Ja 69
noncomputable abbrev s_law_few_shape  : Pa:=Ja 70
noncomputable abbrev s_law_menu  : Pa:=Ja 71
noncomputable abbrev s_law  : Pa:=Ja 72
end
local macro_rules
 |`(tactic| simp! only[$xs,*])=>do
  let ys <- ("cX VW D_non D_bl D_int D_str dX WW D_ty T_ty D_bin T_bin D_neg D_cmp T_cmp D_cmp2 T_cmp2 D_tup D_lst D_dic D_ix T_ix D_sl D_rev D_call T_call D_blt T_blt D_meth D_lc D_mkL D_mkT D_not T_not D_ife T_ife D_bop0 D_and D_or T_and T_or O_no O_so A_nil A_cons C_nil C_cons P_nil P_cons ZW I_r1 F_nil F_cons S_expr S_asg S_asgC S_setS S_par S_aug S_ite S_fr S_ret S_raise S_tr B_nil B_cons V_add V_cat V_catL V_sub V_mul V_mulL V_mulT V_fdiv V_mod V_pow V_neg W_eqI W_neI W_eqS W_neS W_lt W_le W_gt W_ge W_neT W_eqT W_eqT0 W_neL W_eqL W_in W_nin W_is W_isn Y_bl Y_non Y_int Y_tup J_tup X_tup F_len F_repr F_min F_sum F_all F_int F_isi X_str V_addB V_subB V_subI F_lenT F_min2 F_max2 F_intB F_intI bX aX G_nil G_cons sl_0 sl_s dr_0 dr_s pk_nil pk_none pk_some K_str K_int fx_cells fx_at fx_left fs_at fs_left".splitOn " ").toArray.mapM λs=>`(UW| $(Lean.mkIdent s.toName):ident)
  `(tactic| try simp only[af,Uw,List.cons_append,Dl,pj,Mn,UK,TK,WK,List.zip_nil_right,List.zip_nil_left,wB,List.foldl_nil,List.getElem?_cons_zero,wL,Option.join_some,ite_true,ite_false,Yp,Kn,$ys:simpLemma,*,$xs,*])
structure Fn (G:Gp)(f c:Aa)(n:Nat):Prop where
 ex:∃(ns:List Int) (a l t:Int),G f=ca (.dK (Kd c a l t))/\G c=ca (.lst (ns.map .int))/\0<=t/\t<=n

def Fn.mono  (h:Fn G f c n)(e:n<=m):Fn G f c m:=let ⟨z,a,l,t,J,I,F,L⟩:=h.ex;⟨z,a,l,t,J,I,F,by lia⟩
def Fn.sa  (h:Fn G f c n)(s:Sa G G'):Fn G' f c n:=let ⟨z,a,l,t,I,F,J⟩:=h.ex;⟨z,a,l,t,s _ _ I,s _ _ F,J⟩
def Fn.new  (h:Fn G f c n)(w:Wh G p o G'):Fn G' f c n:=h.sa w.sa
def Fn.away  (h:Fn G f c n)(w:Wh G p o G'):p≠f/\p≠c:=by
 obtain⟨I,a,l,t,F,z,_⟩:=h.ex;exact⟨Xy F w.no,Xy z w.no⟩
def Fn.off  (h:Fn G f c n)(z:p≠f/\p≠c)(w:Dh G p o G'):Fn G' f c n:=let ⟨F,a,l,t,L,J,I⟩:=h.ex;⟨F,a,l,t,w.sm _ _ (Ua z.1) L,w.sm _ _ (Ua z.2) J,I⟩
theorem Py   : ∀l:List Int,Og G (l.map .int) (l.map .int)
 |[]=>.nil
 |_::r=>.cons (.int _) (Py r)
def gG  (l:List Int):Small (.list (l.map .int)):=⟨(cp l).1,by show Rh (l.map .int)+1<=100;rw[(cp l).2.1];decide⟩
def qR   {ns ms:List Int}{kk:Bool->Prop}(g:G p=ca (.lst (ns.map .int)))(g':G q=ca (.lst (ms.map .int)))(h:kk (decide (ns=ms))):eqU (.loc p) (.loc q) G kk:=by
 refine⟨.list (ns.map .int),.list (ms.map .int),.lst (by unfold Ad;rw[g]) (Py _),.lst (by unfold Ad;rw[g']) (Py _),gG _,gG _,?_⟩
 rw[sR];exact h

def Mc   (hf:Fn G f c n)(hn:n<=1000000000)(h0:0<m)(h1:m<1000000000)(q:∀r G' ,0<=r->r<m->Fn G' f c (n+1)->Sm f G G'->Q (.int r) G'):Ta T (k+1) Kc [.loc f,.int m] G Q X:=by
 obtain⟨y,a,l,t,g1,R,t0,t1⟩:=hf.ex;have ne:c≠f:=λz=>by rw[z,g1]at R;cases R
 have J:∀(z a' l':Int) (G1:Gp),Sm f G G1->Q (.int (z%m)) (Td G1 f (.dK (Kd c a' l' (t+1)))):=λz a' l' G1 s=>q _ _ (Al z (by lia)) (zl z h0) ⟨y,_,_,_,Lh,by rw[Ii ne];exact s _ _ ne R,by lia,by lia⟩ (s.trans Sm.put)
 refine⟨rfl,?_⟩;simp! only[bH,Qb,Ab,ix_d g1 Fy,Hr g1,Iv,JQ,bv,true_and];by_cases hl:0<l
 ·rw[if_pos (by simpa using hl)]
  exact⟨h0,h0,by lia,J _ _ _ _ Sm.refl⟩
 ·rw[if_neg (by simpa using hl)]
  simp! only[];refine⟨by decide,λp O n2=>?_⟩
  have s2:Sm f G O:=Sm.put.trans n2.sa.sm;have Y:O f=ca (.dK (Kd c (a+1) l (t+1))):=n2.sa _ _ Lh;have L:O c=ca (.lst (y.map .int)):=s2 _ _ ne R;simp! only[];refine .inr (qR (ms:=[]) L n2.at ?_);have two:CMul (31*(t+1)) (t+1):=.inr ⟨by lia,by lia⟩
  have Z:CMul 7919 (t+1):=.inl (by decide)
  have e4:CMul 31 (t+1):=.inl (by decide)
  have F:∀z:Int,Q (.int (z%m)) O:=λz=>q _ _ (Al z (by lia)) (zl z h0) ⟨y,_,_,_,Y,L,by lia,by lia⟩ s2
  by_cases I:y=[]
  ·subst I;rw[if_neg (by decide)]
   simp! only[ix_d Y Fy,Pk L];refine⟨⟨by decide,by decide,by decide⟩,?_⟩
   rw[if_neg (by decide)]
   exact⟨by decide,.inr (by decide),Z,by decide,by decide,by decide,.inr (by decide),e4,two,by decide,by decide,by decide,h0,F _⟩
  ·rw[if_pos (by simpa using I)]
   have xa:0<y.length:=Fe.mpr I;obtain⟨z,hz,ez⟩:=QD (l:=y) (r:=a%y.length) (Al _ (by lia)) (zl _ (by lia))
   simp! only[ix_d Y Fy,Pk L,Bc,ix_l L ((jz U.int y _).trans (congrArg _ ez)),Hr Y,Iv,jE,bv,true_and];refine⟨by lia,⟨by decide,by decide,by decide⟩,?_⟩
   by_cases hc:10 ^ Js 18<=z
   ·rw[if_pos (by simpa using hc)]
    by_cases ha:a<y.length
    ·rw[if_pos (by simpa using ha)]
     exact⟨h0,by lia,h0,J _ _ _ _ s2⟩
    ·rw[if_neg (by simpa using ha)]
     exact⟨by decide,.inr (by decide),Z,by decide,by decide,by decide,.inr (by decide),e4,two,by decide,by decide,by decide,h0,F _⟩
   ·rw[if_neg (by simpa using hc)]
    exact⟨by decide,.inr (by decide),Z,by decide,by decide,by decide,.inr (by decide),e4,two,by decide,by decide,by decide,h0,F _⟩
def JO   {ns:List Int}(z:G a=ca (.fro (ns.map .int)))(q:∀f c G' ,Fn G' f c 0->Q (.loc f) G'):Ta T (k+1) AG [.loc a] G Q X:=by
 refine⟨rfl,?_⟩;simp! only[pG,Qb,Ab,sl_f z,TR];intro I J F;refine⟨by decide,λO L y=>?_⟩
 rw[AO]at y;exact q _ I _ ⟨_,0,0,0,y.at,y.sa _ _ F.at,Int.le_refl _,Int.le_refl _⟩

structure Nm (x:Str):Prop where
 l8:x.length<=8
 ch:∀c∈x.cps.toList,c<128
structure Rb where
 w:Str
 o:Nat
 t:Nat
 lo:Int
 hi:Int
noncomputable def Rb.u  (s:Rb):U:=.tup [.str s.w,.int s.o,.int s.t,.int s.lo,.int s.hi]
structure Rb.Ok (W:Nat)(s:Rb):Prop where
 w:s.w = "apart" \/ s.w = "span"
 o:s.o<W
 t:s.t<W
 lo:0<=s.lo/\s.lo<=9999
 hi:0<=s.hi/\s.hi<=9999
noncomputable def Tc  (l:List Int):U:=.tup (l.map .int)
def Nb  (xs:List Str)(ss:List Rb):U:=.tup [.tup (xs.map .str),.tup (ss.map Rb.u)]
def tF  {bs:List Int}(h:i<bs.length):atI (bs.map U.int) (i:Int)=ca (.int (bs.getD i 0)):=Pm (by rw[Lf,Sh h];simp[Hf,h])

def LO  {bs: List Int}(hf:Fn G f c n)(hn:n<=900000000)(h1:1<=P)(h2:P<=600)(gb:G pb=ca (.lst (bs.map .int)))(bl:bs.length=W)(ho:o<W)(ht:t<W)(q:∀(s:Rb) G' ,s.Ok W->Fn G' f c (n+6)->Sm f G G'->Q s.u G'):Ta T (k+2) Mz [.loc f,.int P,.loc pb,.int o,.int t] G Q X:=by
 refine⟨rfl,?_⟩;simp! only[qG,Qb,Ab,ix_l gb (tF (show t<bs.length by omega)),ix_l gb (tF (show o<bs.length by omega))]
 refine⟨by lia,?_⟩
 have g0:=Al (bs.getD t 0-bs.getD o 0) (show P≠0 by lia)
 have g1:=zl (bs.getD t 0-bs.getD o 0) (show 0<P by lia)
 generalize (bs.getD t 0-bs.getD o 0)%P=gap at g0 g1 ⊢;refine Mc hf (by lia) (by decide) (by decide) λr1 G1 a1 b1 Y s1=>?_
 simp! only[];by_cases hr:r1=0
 ·rw[if_pos (by simpa using hr)]
  refine Mc Y (by lia) (by lia) (by lia) λlo G2 a2 b2 f2 s2=>Mc f2 (by lia) (by lia) (by lia) λhi G3 a3 b3 Z R=>⟨by decide,?_⟩
  exact q ⟨"apart",o,t,lo,hi⟩ _ ⟨.inl rfl,ho,ht,by dsimp only;lia,by dsimp only;lia⟩ (Z.mono (by lia)) ((s1.trans s2).trans R)
 ·rw[if_neg (by simpa using hr)]
  refine⟨by decide,λp2 G2 L=>Mc (Y.new L) (by lia) (by decide) (by decide) λr3 G3 a3 b3 Z R=>?_⟩
  refine Jg [0,0,0,1,2] (R _ _ (Y.away L).1 L.at) a3 b3 λz hz=>?_;have I:z=0\/z=1\/z=2:=by simp only[Oc,Je,or_false]at hz;lia
  have S3:=(s1.nw L).trans R;simp! only[];refine⟨.inr (by lia),?_⟩
  obtain⟨F,ef,fa,fb⟩:∃F,gap+P*z=F/\0<=F/\F<=1800:=⟨_,rfl,by rcases I with rfl|rfl|rfl<;>lia,by rcases I with rfl|rfl|rfl<;>lia⟩
  rw[ef];refine Mc Z (by lia) (by lia) (by lia) λr4 G4 a4 b4 f4 s4=>⟨by decide,λp5 G5 O=>Mc (f4.new O) (by lia) (by decide) (by decide) λr6 G6 a6 b6 f6 s6=>?_⟩
  refine Jg [0,1,2,r4] (s6 _ _ (f4.away O).1 O.at) a6 b6 λy hy=>?_;have xa:0<=y/\y<=600:=by simp only[Oc,Je,or_false]at hy;lia
  have S6:=((S3.trans s4).nw O).trans s6;simp! only[];refine Mc f6 (by lia) (by lia) (by lia) λr7 G7 a7 b7 f7 s7=>⟨by decide,λp8 G8 J=>Mc (f7.new J) (by lia) (by decide) (by decide) λr9 G9 a9 b9 f9 s9=>?_⟩
  refine Jg [0,0,1,r7] (s9 _ _ (f7.away J).1 J.at) a9 b9 λx hx=>?_;have za:0<=x/\x<=600:=by simp only[Oc,Je,or_false]at hx;lia
  simp! only[];refine⟨by decide,q ⟨"span",o,t,F-(if y<F then y else F),F+x⟩ _ ⟨.inr rfl,ho,ht,?_,by dsimp only;lia⟩ (f9.mono (by lia)) (((S6.trans s7).nw J).trans s9)⟩
  dsimp only;split<;>lia
def gW  (hf:Fn G f c n)(hn:n<=900000000)(h1:1<=P)(h2:P<=600)(ho:o<W)(Y:t<W)(q:∀(s:Rb) G' ,s.Ok W->Fn G' f c (n+6)->Sm f G G'->Q s.u G'):Ta T (k+2) oA [.loc f,.int P,.int o,.int t] G Q X:=by
 refine⟨rfl,?_⟩;simp! only[mJ,Qb,Ab];refine Mc hf (by lia) (by lia) (by lia) λr1 G1 a1 b1 f1 s1=>⟨.inl (by decide),Mc f1 (by lia) (by lia) (by lia) λr2 G2 a2 b2 R s2=>⟨by decide,λp3 G3 I=>Mc (R.new I) (by lia) (by decide) (by decide) λr4 G4 a4 b4 f4 s4=>?_⟩⟩
 refine Jg [0,r1,r2,P] (s4 _ _ (R.away I).1 I.at) a4 b4 λz hz=>?_;have xa:0<=z/\z<=1800:=by simp only[Oc,Je,or_false]at hz;lia
 have Z:=((s1.trans s2).nw I).trans s4;simp! only[];refine Mc f4 (by lia) (by decide) (by decide) λr5 G5 a5 b5 L s5=>?_
 simp! only[];by_cases O:r5=0
 ·rw[if_pos (by simpa using O)]
  refine Mc L (by lia) (by lia) (by lia) λlo G6 a6 b6 F J=>Mc F (by lia) (by lia) (by lia) λhi G7 a7 b7 f7 s7=>⟨by decide,?_⟩
  exact q ⟨"apart",o,t,lo,hi⟩ _ ⟨.inl rfl,ho,Y,by dsimp only;lia,by dsimp only;lia⟩ (f7.mono (by lia)) (((Z.trans s5).trans J).trans s7)
 ·rw[if_neg (by simpa using O)]
  refine Mc L (by lia) (by lia) (by lia) λr6 G6 a6 b6 F J=>⟨.inl (by decide),by decide,λp7 G7 y=>Mc (F.new y) (by lia) (by decide) (by decide) λr8 G8 a8 b8 f8 s8=>?_⟩
  refine Jg [0,0,1,r6,P-1,2*P] (s8 _ _ (F.away y).1 y.at) a8 b8 λx hx=>?_;have za:0<=x/\x<=1200:=by simp only[Oc,Je,or_false]at hx;lia
  simp! only[];exact⟨by decide,q ⟨"span",o,t,z,z+x⟩ _ ⟨.inr rfl,ho,Y,by dsimp only;lia,by dsimp only;lia⟩ (f8.mono (by lia)) ((((Z.trans s5).trans J).nw y).trans s8)⟩

def Tf  {y:Type}{f:y->U}{l:List y}{n:Nat}{a:y}(h:l[n]?=ca a):atI (l.map f) (n:Int)=ca (f a):=(jz f l _).trans (congrArg _ (Pm h))
theorem vp  : ∀(W:Nat) (l:List Int),l.Nodup->(∀x∈l,0<=x/\x<W)->l.length<=W
 |0,l,_,h=>by
  cases l with
  |nil=>exact ub _
  |cons a l=>have:=h a (by simp);lia
 |W+1,l,nd,h=>by
  have y:=vp W (l.erase (W:Int)) (nd.erase _) λx F=>by
   obtain⟨J,I⟩:=nd.mem_erase_iff.mp F;have:=h x I
   lia
  by_cases z:(W:Int)∈l
  ·rw[List.length_erase_of_mem z]at y;lia
  ·rw[List.erase_of_not_mem z]at y;lia
def jP   z (l:List Int):((l.map U.int).any λy=>Xg y (.int z))=decide (z∈l):=by
 rw[ak,Ic,decide_eq_true_eq];constructor
 ·rintro⟨y,I,e⟩;obtain⟨x,F,rfl⟩:=Fb.mp I;have:x=z:=by simpa[Xg]using e
  rw[<- this];exact F
 ·intro h;exact⟨.int z,Fb.mpr ⟨z,h,rfl⟩,by simp[Xg]⟩
def aT  (l:List Int):(l.map U.int).all flat=da:=by simp[flat]
def sF     (h:k ia):cmpU .NotEq (.str x) (.str x) G k:=by
 show k (!decide (x=x));rw[decide_eq_true rfl];exact h

mutual
inductive Th (G:Gp):U->Ma->Prop
 |non:Th G .non .none
 |bl (b:Bool):Th G (.bl b) (.bool b)
 |int (i:Int):Th G (.int i) (.int i)
 |str (x:Str):Th G (.str x) (.str x)
 |tup {us:List U} {ds:List Ma}:Ld G us ds->Th G (.tup us) (.tuple ds)
 |lst {a:Aa} {us:List U} {ds:List Ma}:G a=ca (.lst us)->Ld G us ds->Th G (.loc a) (.list ds)
 |dic {a:Aa}:G a=ca (.dK [])->Th G (.loc a) (.dict [])
inductive Ld (G:Gp):List U->List Ma->Prop
 |nil:Ld G [] []
 |cons {u:U} {d:Ma} {us:List U} {ds:List Ma}:Th G u d->Ld G us ds->Ld G (u::us) (d::ds)
end
mutual
theorem Th.du {G:Gp}:∀{u:U} {d:Ma},Th G u d->DU G u d
 |_,_,.non=>.non
 |_,_,.bl b=>.bl b
 |_,_,.int i=>.int i
 |_,_,.str x=>.str x
 |_,_,.tup h=>.tup (Ld.dus h)
 |_,_,.lst g h=>.lst (by unfold Ad;rw[g]) (Ld.dus h)
 |_,_,.dic g=>.dic g
theorem Ld.dus {G:Gp}:∀{us:List U} {ds:List Ma},Ld G us ds->Og G us ds
 |_,_,.nil=>.nil
 |_,_,.cons a b=>.cons (Th.du a) (Ld.dus b)
end
mutual
theorem Th.mono {G G':Gp}{f c:Aa}{n:Nat}(F:Fn G f c n)(s:Sm f G G'):∀{u:U} {d:Ma},Th G u d->Th G' u d
 |_,_,.non=>.non
 |_,_,.bl b=>.bl b
 |_,_,.int i=>.int i
 |_,_,.str x=>.str x
 |_,_,.tup h=>.tup (Ld.mono F s h)
 |_,_,.lst g h=>.lst (s _ _ (λe=>by obtain⟨J,x,y,z,I,_⟩:=F.ex;rw[e,I]at g;cases g) g) (Ld.mono F s h)
 |_,_,.dic g=>.dic (s _ _ (λe=>by obtain⟨J,x,y,z,I,_⟩:=F.ex;rw[e,I]at g;cases g) g)
theorem Ld.mono {G G':Gp}{f c:Aa}{n:Nat}(z:Fn G f c n)(s:Sm f G G'):∀{us:List U} {ds:List Ma},Ld G us ds->Ld G' us ds
 |_,_,.nil=>.nil
 |_,_,.cons a b=>.cons (Th.mono z s a) (Ld.mono z s b)
end
mutual
theorem Th.sa {G G':Gp}(s:Sa G G'):∀{u:U} {d:Ma},Th G u d->Th G' u d
 |_,_,.non=>.non
 |_,_,.bl b=>.bl b
 |_,_,.int i=>.int i
 |_,_,.str x=>.str x
 |_,_,.tup h=>.tup (Ld.sa s h)
 |_,_,.lst g h=>.lst (s _ _ g) (Ld.sa s h)
 |_,_,.dic g=>.dic (s _ _ g)
theorem Ld.sa {G G':Gp}(s:Sa G G'):∀{us:List U} {ds:List Ma},Ld G us ds->Ld G' us ds
 |_,_,.nil=>.nil
 |_,_,.cons a b=>.cons (Th.sa s a) (Ld.sa s b)
end
section
variable {G:Gp}
theorem Ld.get  : ∀{us } {ds } {i:Nat} {u },Ld G us ds->us[i]?=ca u->∃d,ds[i]?=ca d/\Th G u d
 |_,_,_,_,.nil,e=>by simp at e
 |_,_,0,_,.cons a _,e=>by simp at e;subst e;exact⟨_,rfl,a⟩
 |_,_,i+1,u,.cons _ b,e=>by
  obtain⟨d,z,h⟩:=Ld.get (i:=i) (u:=u) b (by simpa using e)
  exact⟨d,by simpa using z,h⟩
end
noncomputable def ly  : Ma->String
 |.none => "NoneType"
 |.bool _ => "bool"
 |.int _ => "int"
 |.str _ => "str"
 |.tuple _ => "tuple"
 |.list _ => "list"
 |.dict _ => "dict"
def Vg  (d:Ma)(t:String):Bool:=ly d==t||(ly d == "bool" && t == "int")
def aO     (h:Th G u d):Rl u G=ca (ly d):=by
 cases h with
 |lst g _=>unfold Rl;dsimp only;rw[g];rfl
 |dic g=>unfold Rl;dsimp only;rw[g];rfl
 |_=>rfl
def Lg       (h:Th G u d)(y:t∈["bool", "int", "str", "list", "tuple", "dict"]):Lo [u,.ty t] G Q=Q (.bl (Vg d t)) G:=by
 unfold Lo isiU;dsimp only;rw[aO h];dsimp only;rw[if_pos y];rfl
noncomputable def cmpD  (_:Ma):Bool:=da
noncomputable def Jm  : U->Bool
 |.str w=>decide (w = "home")
 |_=>ia
def pR      (h:Th G u d)(_:cmpD d=da)(q:k (Jm u)):cmpU .Eq u (.str "home") G k:=by
 show uw u (.str "home") G k;cases h with
 |lst g h=>exact .inr (.inl ⟨_,g,q⟩)
 |dic g=>exact .inl ⟨_,g,q⟩
 |_=>exact q
noncomputable def ow  : U->Bool
 |.int _=>da
 |_=>ia
noncomputable def Xc  (z y:Int):U->Bool
 |.int i=>decide (z<=i)&&decide (i<=y)
 |_=>ia
noncomputable def Ye  (st:List Int):U->Bool
 |.int i=>decide (i∈st)
 |_=>ia
noncomputable def wayB  : U->Bool
 |.int i=>decide (i=1)||decide (i=-1)
 |_=>ia
def entB  (n:Nat)(st:List Int):U->Bool
 |.tup [w,a,b]=>Jm w&&(Ye st a&&Ye st b)
 |.tup [s,y]=>Xc 0 ((n:Int)-1) s&&wayB y
 |_=>ia
def entD  : Ma->Bool
 |.tuple y=>y.all cmpD
 |_=>da
def KD  : Ma->Bool
 |.tuple y=>y.all entD
 |_=>da
noncomputable def endZ  (ss:List Rb):U->Int×Int
 |.tup [_,.int a,.int b]=>(a,b)
 |.tup [.int s,.int y]=>if y=1 then (((ss.getD s.toNat ⟨"",0,0,0,0⟩).o:Int),((ss.getD s.toNat ⟨"",0,0,0,0⟩).t:Int)) else (((ss.getD s.toNat ⟨"",0,0,0,0⟩).t:Int),((ss.getD s.toNat ⟨"",0,0,0,0⟩).o:Int))
 |_=>(0,0)
noncomputable def mf  (p:Int×Int):U:=.tup [.int p.1,.int p.2]
def nR  : ∀d ,entD d=da
 |.tuple y=>Qa.mpr λ_ _=>rfl
 |.none|.bool _|.int _|.str _|.list _|.dict _=>rfl
def QF  : ∀d ,KD d=da
 |.tuple y=>Qa.mpr λd _=>nR d
 |.none|.bool _|.int _|.str _|.list _|.dict _=>rfl
def gs07  : T.gs=[.int 60,.int 999,.int 24]:=rfl
def ZE      (q:k (decide (i∈st))):Wg (.int i) (Tc st) G k:=by
 refine⟨rfl,aT _,?_⟩;rw[jP];exact q

def yz  (h:Th G u d)(q:Q (.bl (ow u)) G):Ta T (k+1) Zv [u] G Q X:=by
 refine⟨rfl,?_⟩;simp! only[ZG,Qb,Ab,Lg h (show "int" ∈ ["bool", "int", "str", "list", "tuple", "dict"] by decide),Lg h (show "bool" ∈ ["bool", "int", "str", "list", "tuple", "dict"] by decide)]
 cases h<;>exact q
def Uv   (h:Th G u d)(q:Q (.bl (Xc y z u)) G):Ta T (k+2) Zr [u,.int y,.int z] G Q X:=by
 refine⟨rfl,?_⟩;simp! only[KH,Qb,Ab];refine yz h ?_;simp! only[];cases h with
 |int i=>
  rw[show ow (.int i)=da from rfl,if_pos rfl];simp! only[];by_cases c:y<=i
  ·rw[if_pos (decide_eq_true c)];have:Xc y z (.int i)=decide (i<=z):=by show(decide (y<=i)&&_)=_;rw[decide_eq_true c];rfl
   rw[this]at q;exact q
  ·rw[if_neg (by simpa using c)]
   have:Xc y z (.int i)=ia:=by show(decide (y<=i)&&_)=_;rw[decide_eq_false c];rfl
   rw[this]at q;exact q
 |_=>exact q
def OG  (h:Th G u d)(q:Q (.bl (Ye st u)) G):Ta T (k+2) aA [Tc st,u] G Q X:=by
 refine⟨rfl,?_⟩;simp! only[sH,Qb,Ab];refine yz h ?_;simp! only[];cases h with
 |int i=>
  rw[show ow (.int i)=da from rfl,if_pos rfl];simp! only[];exact ZE q
 |_=>exact q
def and3   : (a&&(b&&c))=da↔a=da/\b=da/\c=da:=by cases a<;>cases b<;>cases c<;>simp
def qT  (h:Th G u d)(hd:entD d=da)(L:ss.length<=24)(q:Q (.bl (entB ss.length st u)) G):Ta T (k+3) GG [Nb xs ss,Tc st,u] G Q X:=by
 refine⟨rfl,?_⟩;simp! only[YG,Qb,Ab,Lg h (show "tuple" ∈ ["bool", "int", "str", "list", "tuple", "dict"] by decide)]
 cases h with
 |@tup J F h=>
  rw[show Vg (.tuple F) "tuple" = da from rfl,if_neg (by decide)]
  simp! only[zI];have hd:F.all cmpD=da:=hd
  match J,F,h with
  |[],_,.nil=>
   rw[if_neg (by simp)]
   simp! only[js];exact q
  |[x],_,.cons _ .nil=>
   rw[if_neg (by simp)]
   simp! only[js];exact q
  |[s,y],[_,_],.cons hs (.cons hy .nil)=>
   rw[if_neg (by simp)]
   simp! only[js];simp! only[AI,Nb,ix_t (Fc _ _ _),Bc];refine⟨trivial,Uv (k:=k) hs ?_⟩
   have z:entB ss.length st (.tup [s,y])=(Xc 0 ((ss.length:Int)-1) s&&wayB y):=rfl;rw[z]at q;simp! only[];cases c:Xc 0 ((ss.length:Int)-1) s with
   |false=>rw[if_neg (by decide)];rw[c]at q;exact q
   |true=>
    rw[if_pos rfl];rw[c,Vw]at q;refine yz (k:=k+1) hy ?_;simp! only[];cases hy with
    |int i=>
     rw[show ow (.int i)=da from rfl,if_pos rfl];simp! only[];refine⟨by decide,rfl,rfl,?_⟩
     have:(Yn [U.int 1,.int (-1)] λy=>Xg y (.int i))=wayB (.int i):=by
      show((1==i)||(((-1:Int)==i)||false))=(decide (i=1)||decide (i=-1));rw[ak];simp;lia
     rw[this];exact q
    |_=>exact q
  |[w,x,y],[dw,_,_],.cons hw (.cons hx (.cons hy .nil))=>
   rw[if_pos (by simp)]
   simp! only[];have I:cmpD dw=da:=by simp only[Bh,Lc]at hd;exact hd.1
   refine⟨trivial,pR hw I ?_⟩;have z:entB ss.length st (.tup [w,x,y])=(Jm w&&(Ye st x&&Ye st y)):=rfl;rw[z]at q;cases c:Jm w with
   |false=>rw[c]at q;exact q
   |true=>
    rw[c,Vw]at q;simp! only[];refine OG (k:=k) hx ?_;simp! only[];cases c2:Ye st x with
    |false=>rw[c2]at q;exact q
    |true=>
     rw[c2,Vw]at q;rw[if_pos rfl];simp! only[];exact OG (k:=k) hy q
  |_::_::_::_::r,_,h=>
   rw[if_neg (by simp;lia)]
   simp! only[js];rw[if_pos (by simp;lia)]
   simp! only[];exact q
 |non=>exact q
 |bl b=>exact q
 |int i=>exact q
 |str x=>exact q
 |lst g h=>exact q
 |dic g=>exact q
def Tv   (z:entB n st u=da):(∃a b ,u=.tup [.str "home",.int a,.int b]/\a∈st/\b∈st)\/∃(s:Nat) (y:Int),u=.tup [.int s,.int y]/\s<n/\(y=1\/y=-1):=by
 unfold entB at z;split at z
 ·rename_i w a b;rw[and3]at z;obtain⟨I,F,J⟩:=z;cases w<;>try (cases I;done)
  cases a<;>try (cases F;done)
  cases b<;>try (cases J;done)
  rename_i w a b;refine .inl ⟨a,b,?_,of_decide_eq_true F,of_decide_eq_true J⟩;rw[of_decide_eq_true I]
 ·rename_i s y;rw[Lc]at z;cases s<;>try (cases z.1;done)
  cases y<;>try (cases z.2;done)
  rename_i s y;obtain⟨I,F⟩:=z;have I:(decide (0<=s)&&decide (s<=(n:Int)-1))=da:=I;have F:(decide (y=1)||decide (y=-1))=da:=F;simp only[Lc,Bl,decide_eq_true_eq]at I F;exact .inr ⟨s.toNat,y,by rw[show((s.toNat:Nat):Int)=s by lia],by lia,F⟩
 ·cases z
def zy  {ss: List Rb}(h:s<ss.length):ss[s]?=ca (ss.getD s ⟨"",0,0,0,0⟩):=by simp[Hf,h]
def yV  (z:entB ss.length st u=da)(q:Q (mf (endZ ss u)) G):Ta T (k+1) zG [Nb xs ss,u] G Q X:=by
 refine⟨rfl,?_⟩;rcases Tv z with⟨a,b,rfl,_,_⟩|⟨s,y,rfl,hs,hy⟩
 ·simp! only[Tz,Qb,Ab,ix_t (Fc _ _ _)];rw[if_pos (by decide)]
  simp! only[ix_t (Fc _ _ _)];exact⟨by decide,q⟩
 ·have e:=Tf (f:=Rb.u) (zy hs);simp! only[Tz,Qb,Ab];rw[if_neg (by decide)]
  simp! only[Nb,ix_t (Fc _ _ _),ix_t e,Rb.u];refine⟨trivial,trivial,?_⟩;rcases hy with rfl|rfl
  ·rw[if_pos (by decide)]
   exact⟨by decide,q⟩
  ·rw[if_neg (by decide)]
   exact⟨by decide,q⟩

noncomputable def prvZ  (l:List (Int×Int))(i:Nat):Int×Int:=l.getD (if i=0 then l.length-1 else i-1) (0,0)
def fitB  (l:List (Int×Int))(i:Nat):Bool:=decide ((prvZ l i).2=(l.getD i (0,0)).1)
def oh  (l:List (Int×Int)):Bool:=(Be l.length).all (fitB l)
def Wf  (ss:List Rb)(st:List Int):U->Bool
 |.tup y=>decide (1<=y.length/\y.length<=60)&&(y.all (entB ss.length st)&&oh (y.map (endZ ss)))
 |_=>ia
def SD   {i:Nat}(h:i<l.length):atI (l.map mf) ((i:Int)-1)=ca (mf (prvZ l i)):=by
 suffices h:atI l ((i:Int)-1)=ca (prvZ l i) by rw[jz,h];rfl
 unfold prvZ;by_cases z:i=0
 ·subst z;rw[if_pos rfl];have:atI l (((0:Nat):Int)-1)=l[l.length-1]?:=by
   unfold atI Mh;simp only[show ¬(0:Int)<=((0:Nat):Int)-1 by lia,if_false]
   rw[if_pos (by lia)]
   show l[_]?=_;congr 1
   lia
  rw[this];simp[Hf,Sh (show l.length-1<l.length by lia)]
 ·rw[if_neg z,show(i:Int)-1=((i-1:Nat):Int) by lia]
  refine Pm ?_;simp[Hf,Sh (show i-1<l.length by lia)]
def RD  {l:List (Int×Int)}(h:i<l.length):atI (l.map mf) (i:Int)=ca (mf (l.getD i (0,0))):=Tf (by simp[Hf,h])
def wy   {bs:List Bool}(g:G a=ca (.lst (bs.map .bl)))(q:Q (.bl (bs.all id)) G):allU [.loc a] G Q:=by
 unfold allU;dsimp only;rw[g];have:Om (bs.map .bl)=ca bs:=by
  clear g q
  induction bs with
  |nil=>rfl
  |cons b r y=>rw[af,Om,y]
 dsimp only;rw[this];exact q

def MG  (h:Th G u d)(hd:KD d=da)(sl:ss.length<=24)(q:∀G',Sa G G'->Q (.bl (Wf ss st u)) G'):Ta T (k+4) Lz [Nb xs ss,Tc st,u] G Q X:=by
 refine⟨rfl,?_⟩;simp! only[oG,Qb,Ab,Lg h (show "tuple" ∈ ["bool", "int", "str", "list", "tuple", "dict"] by decide)]
 cases h with
 |@tup y Z h=>
  have hd:Z.all entD=da:=hd;rw[show Vg (.tuple Z) "tuple" = da from rfl,if_pos rfl];simp! only[gs07,Xm];by_cases c1:1<=y.length
  ·rw[if_pos (by simpa using (by lia:(1:Int)<=y.length))]
   by_cases c2:y.length<=60
   ·have e:decide ((y.length:Int)<=60)=da:=decide_eq_true (by lia)
    rw[e,if_neg (by decide)]
    have q:∀G',Sa G G'->Q (.bl (y.all (entB ss.length st)&&oh (y.map (endZ ss)))) G':=λG' s=>by
     have:=q G' s;have e:Wf ss st (.tup y)=(y.all (entB ss.length st)&&oh (y.map (endZ ss))):=by
      show(decide (1<=y.length/\y.length<=60)&&_)=_;rw[decide_eq_true ⟨c1,c2⟩];rfl
     rw[e]at this;exact this
    simp! only[kH];refine⟨Jb c2 (by decide),?_⟩
    refine Rg (λi z G'=>G'=G/\z=((y.take i).map (entB ss.length st)).map .bl) ?_ ?_ ⟨rfl,rfl⟩
    ·rintro z G1 ⟨rfl,rfl⟩;rw[Ng];refine⟨trivial,λp Y O=>wy O.at ?_⟩;have ea:(y.map (entB ss.length st)).all id=y.all (entB ss.length st):=by rw[PB];rfl
     rw[ea];cases c:y.all (entB ss.length st)with
     |false=>
      have:=q Y O.sa;rw[c]at this;exact this
     |true=>
      simp! only[];have he:∀v∈y,entB ss.length st v=da:=Qa.mp c;simp! only[lH];refine⟨Jb c2 (by decide),?_⟩
      refine Rg (λi z G'=>G'=Y/\z=((y.take i).map (endZ ss)).map mf) ?_ ?_ ⟨rfl,rfl⟩
      ·rintro z G3 ⟨rfl,rfl⟩;rw[Ng];refine⟨trivial,λp4 G4 R=>?_⟩;rw[c]at q;have q:∀G',Sa G1 G'->Q (.bl (oh (y.map (endZ ss)))) G':=q;generalize hl:y.map (endZ ss)=l at R q;have ll:l.length=y.length:=by rw[<- hl,Bc]
       have L:=R.at
       simp! only[mH,Pk L,Bc];refine⟨by lia,by lia,by rw[Sf];exact Jb (show _<=60 by lia) (by decide),?_⟩
       refine Rg (λi z G'=>G'=G4/\z=((Be i).map (fitB l)).map .bl) ?_ ?_ ⟨rfl,rfl⟩
       ·rintro z G5 ⟨rfl,rfl⟩;rw[Sf];refine⟨trivial,λp6 G6 n6=>wy n6.at ?_⟩;have:((Be l.length).map (fitB l)).all id=oh l:=by unfold oh;rw[PB];rfl
        rw[this];exact q G6 ((O.sa.trans R.sa).trans n6.sa)
       ·rintro i x z G5 K F ⟨rfl,rfl⟩ hk _;obtain⟨I,rfl⟩:=Kh F;refine⟨trivial,?_⟩;have I:i<l.length:=by lia
        simp! only[ix_l L (SD I),ix_l L (RD I),mf,ix_t (Fc _ _ _),ix_t (He _ _)];exact hk _ _ ⟨rfl,by rw[jt,ue,ue];rfl⟩
      ·rintro i x z G3 K F ⟨rfl,rfl⟩ hk _;refine⟨trivial,?_⟩;simp! only[];refine yV (k:=k+2) (he x (Ze F)) (hk _ _ ⟨rfl,?_⟩);rw[Mg,F];simp
    ·rintro i x z G1 K F ⟨rfl,rfl⟩ hk _;refine⟨trivial,?_⟩;obtain⟨dx,ex,J⟩:=h.get F;simp! only[];refine qT (k:=k) J (Qa.mp hd dx (Ze ex)) sl (hk _ _ ⟨rfl,?_⟩);rw[Mg,F];simp
   ·have e:decide ((y.length:Int)<=60)=ia:=decide_eq_false (by lia)
    rw[e,if_pos (by decide)]
    simp! only[];have e:Wf ss st (.tup y)=ia:=by
     show(decide (1<=y.length/\y.length<=60)&&_)=_;rw[decide_eq_false (by lia)];rfl
    have:=q G Sa.refl;rw[e]at this;exact this
  ·rw[if_neg (by simp;lia),if_pos (by decide)]
   simp! only[];have e:Wf ss st (.tup y)=ia:=by
    show(decide (1<=y.length/\y.length<=60)&&_)=_;rw[decide_eq_false (by lia)];rfl
   have:=q G Sa.refl;rw[e]at this;exact this
 |non=>exact q G Sa.refl
 |bl b=>exact q G Sa.refl
 |int i=>exact q G Sa.refl
 |str x=>exact q G Sa.refl
 |lst g h=>exact q G Sa.refl
 |dic g=>exact q G Sa.refl


def xp   (h:Th G u d)(q:Q (.bl (Xc y z u)) G):Ta T (k+1) Tk [.int y,.int z,u] G Q X:=by
 refine⟨rfl,?_⟩;simp! only[pI,Qb,Ab,Lg h (show "int" ∈ ["bool", "int", "str", "list", "tuple", "dict"] by decide),Lg h (show "bool" ∈ ["bool", "int", "str", "list", "tuple", "dict"] by decide)]
 cases h with
 |int i=>
  rw[show Vg (.int i) "int" = da from rfl,if_pos rfl,show Vg (.int i) "bool" = ia from rfl,if_pos (by decide)]
  simp! only[];by_cases c:y<=i
  ·rw[if_pos (decide_eq_true c)];have:Xc y z (.int i)=decide (i<=z):=by show(decide (y<=i)&&_)=_;rw[decide_eq_true c];rfl
   rw[this]at q;exact q
  ·rw[if_neg (by simpa using c)]
   have:Xc y z (.int i)=ia:=by show(decide (y<=i)&&_)=_;rw[decide_eq_false c];rfl
   rw[this]at q;exact q
 |_=>exact q
def To  (ss:List Rb)(st:List Int)(u:U):U:=if entB ss.length st u=da then mf (endZ ss u) else .non
def eS  (hs:∀z∈st,0<=z/\z<=7) v:(Xc 0 7 v&&Ye st v)=Ye st v:=by
 cases v with
 |int i=>
  show((decide (0<=i)&&decide (i<=7))&&decide (i∈st))=decide (i∈st);by_cases c:i∈st
  ·have:=hs i c;rw[decide_eq_true c,decide_eq_true this.1,decide_eq_true this.2];rfl
  ·rw[decide_eq_false c];simp
 |_=>rfl
def xT    {K:Option U->Gp->Prop}(I:Th G v dv)(hs:∀z∈st,0<=z/\z<=7)(F:K (ca (.bl (Ye st v))) G) :
  Ta T (k+1) Tk [.int 0,.int 7,v] G (λx y=>truU x y λc=>if c=da then Wg v (Tc st) y λc=>K (ca (.bl c)) y else K (ca x) y) (λ_ _=>False):=by
 refine xp (k:=k) I ?_;show(if Xc 0 7 v=da then _ else _)
 have e:=eS hs v;cases c:Xc 0 7 v with
 |true=>
  rw[if_pos rfl];cases I<;>first|(cases c;done)|exact ZE F
 |false=>
  rw[if_neg (by decide)]
  rw[c,Bool.false_and]at e;rw[<- e]at F;exact F
def in23   {kk:Bool->Prop}(z:n≠2)(F:n≠3)(q:kk ia):Wg (.int n) (.tup [.int 2,.int 3]) G kk:=by
 refine⟨rfl,rfl,?_⟩;have:(Yn [U.int 2,.int 3] λy=>Xg y (.int n))=ia:=by
  show(((2:Int)==n)||(((3:Int)==n)||false))=ia;simp;lia
 rw[this];exact q
def WA  {a b c d e:U}:Z.cut [a,b,c,d,e] (ca 1) (ca 3)=[b,c]:=rfl
def YQ  (h:Th G u d)(hs:∀z∈st,0<=z/\z<=7)(sl:ss.length<=24)(q:∀G',Sa G G'->Q (To ss st u) G'):Ta T (k+2) XI [Nb xs ss,Tc st,u] G Q X:=by
 refine⟨rfl,?_⟩;simp! only[VI,Qb,Ab,Lg h (show "tuple" ∈ ["bool", "int", "str", "list", "tuple", "dict"] by decide)]
 cases h with
 |@tup us R h=>
  rw[show Vg (.tuple R) "tuple" = da from rfl,if_neg (by decide)]
  match us,R,h with
  |[],_,.nil=>
   refine⟨by decide,rfl,rfl,?_⟩
   exact q G Sa.refl
  |[x],_,.cons _ .nil=>
   refine⟨by decide,rfl,rfl,?_⟩
   exact q G Sa.refl
  |[s,y],[_,_],.cons hs' (.cons hy .nil)=>
   refine⟨by decide,rfl,rfl,?_⟩
   have q:∀G',Sa G G'->Q (if (Xc 0 ((ss.length:Int)-1) s&&wayB y)=da then mf (endZ ss (.tup [s,y])) else .non) G':=q
   simp! only[EA];rw[if_neg (by decide),if_neg (by simp)]
   simp! only[RJ,ix_t (He _ _),ix_t (Fc _ _ _),Nb,Bc];refine xp (k:=k) hs' ?_;simp! only[];cases c:Xc 0 ((ss.length:Int)-1) s with
   |false=>rw[if_pos (by decide)];simp! only[];have:=q G Sa.refl;rw[c]at this;exact this
   |true=>
    rw[if_neg (by decide)]
    rw[c]at q;simp! only[ix_t (Fc _ _ _)];refine xp (k:=k) hy ?_;simp! only[];cases hy with
    |int y=>
     cases s with
     |int s=>
      have hr:0<=s/\s<=(ss.length:Int)-1:=by
       have:(decide (0<=s)&&decide (s<=(ss.length:Int)-1))=da:=c;simpa using this
      obtain⟨n,rfl⟩:=pi hr.1;have e:=Tf (f:=Rb.u) (zy (ss:=ss) (s:=n) (by lia))
      have w:wayB (.int y)=(decide (y=1)||decide (y=-1)):=rfl;have i1:Xc (-1) 1 (.int y)=(decide (-1<=y)&&decide (y<=1)):=rfl;by_cases c1:y=1
      ·subst c1;rw[show Xc (-1) 1 (.int 1)=da from rfl,if_neg (by decide)]
       simp! only[ix_t (Fc _ _ _)];rw[if_neg (by decide)]
       simp! only[FA,Nb,ix_t (Fc _ _ _),ix_t (He _ _),ix_t e,Rb.u,WA,ix_t (Fc _ _ _)];refine⟨trivial,by decide,by decide,by decide,λp I F=>?_⟩
       show tf (.loc p) (.int 0) I Q;rw[ix_l F.at (He _ _)];exact q I F.sa
      ·by_cases c2:y=-1
       ·subst c2;rw[show Xc (-1) 1 (.int (-1))=da from rfl,if_neg (by decide)]
        simp! only[ix_t (Fc _ _ _)];rw[if_neg (by decide)]
        simp! only[FA,Nb,ix_t (Fc _ _ _),ix_t (He _ _),ix_t e,Rb.u,WA,ix_t (Fc _ _ _)];refine⟨trivial,by decide,by decide,by decide,λp I F=>?_⟩
        show tf (.loc p) (.int 1) I Q;rw[ix_l F.at (Fc _ _ _)];exact q I F.sa
       ·have q:=q G Sa.refl;rw[w,decide_eq_false c1,decide_eq_false c2]at q;by_cases c3:y=0
        ·subst c3;rw[show Xc (-1) 1 (.int 0)=da from rfl,if_neg (by decide)]
         simp! only[ix_t (Fc _ _ _)];exact q
        ·have:Xc (-1) 1 (.int y)=ia:=by rw[i1];simp;lia
         rw[this,if_pos (by decide)]
         simp! only[];exact q
     |_=>cases c
    |_=>rw[if_pos (by rfl)];simp! only[];exact q G Sa.refl
  |[w,x,y],[dw,_,_],.cons hw (.cons hx (.cons hy .nil))=>
   refine⟨by decide,rfl,rfl,?_⟩
   have q:∀G',Sa G G'->Q (if (Jm w&&(Ye st x&&Ye st y))=da then mf (endZ ss (.tup [w,x,y])) else .non) G':=q
   simp! only[EA];rw[if_neg (by decide),if_pos (by simp)]
   have ec:Z.cut [w,x,y] (ca 1) la=[x,y]:=tz [w,x,y] 1;simp! only[ec];refine⟨show 2<=Wa by decide,?_⟩
   have L:Ld G [x,y] _:=.cons hx (.cons hy .nil);refine Rg (λi J G'=>G'=G/\J=([x,y].take i).map λv=>.bl (Ye st v)) ?_ ?_ ⟨rfl,rfl⟩
   ·rintro J Y ⟨rfl,rfl⟩;refine⟨trivial,λp I F=>?_⟩;have g2:I p=ca (.lst [.bl (Ye st x),.bl (Ye st y)]):=F.at
    simp! only[ix_t (He _ _),Lg (hw.sa F.sa) (show "str" ∈ ["bool", "int", "str", "list", "tuple", "dict"] by decide)]
    cases hw with
    |str w=>
     rw[show Vg (.str w) "str" = da from rfl,if_pos rfl];simp! only[ix_t (He _ _)];by_cases c:w = "home"
     ·subst c;rw[show Jm (.str "home")=da from rfl,Vw]at q;rw[if_pos (by simp)]
      refine in_l g2 rfl rfl ?_;have ea:(Yn [U.bl (Ye st x),.bl (Ye st y)] λz=>Xg z (.bl ia)) = !(Ye st x&&Ye st y):=by
       show((Ye st x==ia)||((Ye st y==ia)||false))=_;cases Ye st x<;>cases Ye st y<;>rfl
      rw[ea];cases c2:(Ye st x&&Ye st y)with
      |false=>
       rw[c2]at q;exact q I F.sa
      |true=>
       rw[c2]at q;rw[Lc]at c2;obtain⟨w1,w2⟩:=c2;cases hx<;>try (cases w1;done)
       cases hy<;>try (cases w2;done)
       exact q I F.sa
     ·rw[if_neg (by simpa using c)]
      have:=q I F.sa;rw[show Jm (.str w)=decide (w = "home")from rfl,decide_eq_false c]at this;exact this
    |_=>exact q I F.sa
   ·rintro i v J Y K O ⟨rfl,rfl⟩ hk _;obtain⟨dv,_,tv⟩:=L.get O;refine⟨trivial,xT tv hs (hk _ _ ⟨rfl,?_⟩)⟩;rw[Mg,O,ue];rfl
  |_::_::_::_::r,_,h=>
   simp! only[];refine⟨by decide,in23 (by simp;lia) (by simp;lia) ?_⟩
   exact q G Sa.refl
 |non=>exact q G Sa.refl
 |bl b=>exact q G Sa.refl
 |int i=>exact q G Sa.refl
 |str x=>exact q G Sa.refl
 |lst g h=>exact q G Sa.refl
 |dic g=>exact q G Sa.refl

def Fm  (ss:List Rb)(st:List Int)(u:U):Ma:=if entB ss.length st u=da then .tuple [.int (endZ ss u).1,.int (endZ ss u).2] else .none
theorem RE     : ∀us:List U,Og G (us.map (To ss st)) (us.map (Fm ss st))
 |[]=>.nil
 |u::r=>by
  refine .cons ?_ (RE r);unfold To Fm;split
  ·exact .tup (.cons (.int _) (.cons (.int _) .nil))
  ·exact .non
def TV     u:Small (Fm ss st u):=by
 unfold Fm;split
 ·exact⟨rfl,by show max 0 (max 0 0)+1<=100;decide⟩
 ·exact⟨rfl,by decide⟩
def UQ      {us:List U}{kk:Bool->Prop}(g:G p=ca (.lst (us.map (To ss st))))(q:kk (!us.all (entB ss.length st))):Wg .non (.loc p) G kk:=by
 unfold Wg;dsimp only;rw[g];refine .inr ⟨.none,us.map (Fm ss st),.non,RE us,⟨rfl,by decide⟩,λe y=>?_,?_⟩
 ·obtain⟨v,_,rfl⟩:=Fb.mp y;exact TV v
 ·have:(us.map (Fm ss st)).any (λe=>Ce e .none) = !us.all (entB ss.length st):=by
   clear g q
   induction us with
   |nil=>rfl
   |cons v r z=>
    rw[af,tj,Bh,z,Bool.not_and];congr 1;unfold Fm;cases entB ss.length st v<;>rfl
  rw[this];exact q

def fG  (h:Th G u d)(hs:∀z∈st,0<=z/\z<=7)(sl:ss.length<=24)(q:∀G',Sa G G'->Q (.bl (Wf ss st u)) G'):Ta T (k+3) wA [Nb xs ss,Tc st,u] G Q X:=by
 refine⟨rfl,?_⟩;simp! only[qI,Qb,Ab,Lg h (show "tuple" ∈ ["bool", "int", "str", "list", "tuple", "dict"] by decide)]
 cases h with
 |@tup y ds h=>
  rw[show Vg (.tuple ds) "tuple" = da from rfl,if_neg (by decide)]
  simp! only[];by_cases c1:1<=y.length
  ·rw[if_pos (by simpa using (by lia:(1:Int)<=y.length))]
   by_cases c2:y.length<=60
   ·have e:decide ((y.length:Int)<=60)=da:=decide_eq_true (by lia)
    rw[e,if_neg (by decide)]
    have q:∀G',Sa G G'->Q (.bl (y.all (entB ss.length st)&&oh (y.map (endZ ss)))) G':=λG' s=>by
     have:=q G' s;have e:Wf ss st (.tup y)=(y.all (entB ss.length st)&&oh (y.map (endZ ss))):=by
      show(decide (1<=y.length/\y.length<=60)&&_)=_;rw[decide_eq_true ⟨c1,c2⟩];rfl
     rw[e]at this;exact this
    simp! only[LI];refine⟨Jb c2 (by decide),?_⟩
    refine Rg (λi F G'=>Sa G G'/\F=(y.take i).map (To ss st)) ?_ ?_ ⟨Sa.refl,rfl⟩
    ·rintro F G1 ⟨s1,rfl⟩;rw[Ng];refine⟨trivial,λp R O=>?_⟩;simp! only[MI];refine UQ O.at ?_;cases c:y.all (entB ss.length st)with
     |false=>
      have:=q R (s1.trans O.sa);rw[c]at this;exact this
     |true=>
      rw[if_neg (by decide)]
      rw[c]at q;have q:∀G',Sa G G'->Q (.bl (oh (y.map (endZ ss)))) G':=q;have he:∀v∈y,entB ss.length st v=da:=Qa.mp c;have eu:y.map (To ss st)=(y.map (endZ ss)).map mf:=by
       rw[gk];refine Ws λv hv=>?_;show(if entB ss.length st v=da then _ else _)=_
       rw[if_pos (he v hv)];rfl
      have I:=O.at
      rw[eu]at I;generalize hl:y.map (endZ ss)=l at I q;have ll:l.length=y.length:=by rw[<- hl,Bc]
      simp! only[NI,Pk I,Bc];refine⟨by lia,by lia,by rw[Sf];exact Jb (show _<=60 by lia) (by decide),?_⟩
      refine Rg (λi F G'=>G'=R/\F=((Be i).filter λj=>!fitB l j).map λ(j:Nat)=>U.int (j:Int)) ?_ ?_ ⟨rfl,rfl⟩
      ·rintro F G3 ⟨rfl,rfl⟩;rw[Sf];refine⟨trivial,λp4 G4 n4=>⟨by decide,λp5 G5 n5=>?_⟩⟩
       simp! only[];refine HP (n:=0) (n5.sa _ _ n4.at) n5.at (λu hu=>?_) (by decide) ?_
       ·obtain⟨j,_,rfl⟩:=Fb.mp hu;exact Ct.int _
       ·have e:(((Be l.length).filter λj=>!fitB l j).map λ(j:Nat)=>U.int (j:Int)).isEmpty=oh l:=by
         unfold oh;rw[ak,cL,List.map_eq_nil_iff,List.filter_eq_nil_iff,Qa];exact forall_congr' λj=>forall_congr' λ_=>by simp
        rw[e];exact q G5 (((s1.trans O.sa).trans n4.sa).trans n5.sa)
      ·rintro i x F G3 K L ⟨rfl,rfl⟩ hk hn;obtain⟨Y,rfl⟩:=Kh L;have Y:i<l.length:=by lia
       refine⟨trivial,?_⟩;simp! only[ix_l I (SD Y),ix_l I (RD Y),mf,ix_t (Fc _ _ _),ix_t (He _ _)];have ef:fitB l i=decide ((prvZ l i).2=(l.getD i (0,0)).1):=rfl;have J:(Be (i+1)).filter (λj=>!fitB l j)=(Be i).filter (λj=>!fitB l j)++if fitB l i=da then [] else [i]:=by
        rw[jt,SK];cases c:fitB l i<;>simp[c]
       rw[<- ef];cases c:fitB l i with
       |true=>
        rw[c,if_pos rfl,Li]at J;rw[if_neg (by decide)]
        exact hn _ ⟨rfl,by rw[J]⟩
       |false=>
        rw[c,if_neg (by decide)]at J
        rw[if_pos (by decide)]
        exact hk _ _ ⟨rfl,by rw[J,ue];rfl⟩
    ·rintro i x F G1 K L ⟨s1,rfl⟩ hk _;refine⟨trivial,?_⟩;obtain⟨dx,ex,Z⟩:=h.get L;simp! only[];refine YQ (k:=k) (Z.sa s1) hs sl λR s2=>hk _ _ ⟨s1.trans s2,?_⟩;rw[Mg,L,ue];rfl
   ·have e:decide ((y.length:Int)<=60)=ia:=decide_eq_false (by lia)
    rw[e,if_pos (by decide)]
    simp! only[];have e:Wf ss st (.tup y)=ia:=by
     show(decide (1<=y.length/\y.length<=60)&&_)=_;rw[decide_eq_false (by lia)];rfl
    have:=q G Sa.refl;rw[e]at this;exact this
  ·rw[if_neg (by simp;lia),if_pos (by decide)]
   simp! only[];have e:Wf ss st (.tup y)=ia:=by
    show(decide (1<=y.length/\y.length<=60)&&_)=_;rw[decide_eq_false (by lia)];rfl
   have:=q G Sa.refl;rw[e]at this;exact this
 |non=>exact q G Sa.refl
 |bl b=>exact q G Sa.refl
 |int i=>exact q G Sa.refl
 |str x=>exact q G Sa.refl
 |lst g h=>exact q G Sa.refl
 |dic g=>exact q G Sa.refl

def Ig  (ss:List Rb):U->Bool
 |.tup [p,r]=>Xc 1 999 p&&Wf ss [] r
 |_=>ia
def Rm  (ss:List Rb):U->Bool
 |.tup y=>decide (y.length<=24)&&y.all (Ig ss)
 |_=>ia

def QU  (h:Th G u d)(F:ss.length<=24)(q:∀G',Sa G G'->Q (.bl (Ig ss u)) G'):Ta T (k+5) GJ [Nb xs ss,u] G Q X:=by
 refine⟨rfl,?_⟩;simp! only[aK,Qb,Ab,Lg h (show "tuple" ∈ ["bool", "int", "str", "list", "tuple", "dict"] by decide)]
 cases h with
 |@tup z y h=>
  rw[show Vg (.tuple y) "tuple" = da from rfl,if_pos rfl];simp! only[]
  match z,y,h with
  |[],_,_=>exact q G Sa.refl
  |[x],_,_=>exact q G Sa.refl
  |[p,r],[dp,dr],.cons hp (.cons hr .nil)=>
   rw[if_neg (by simp)]
   simp! only[gs07,Xm];refine⟨trivial,Uv (k:=k+2) hp ?_⟩
   have q:∀G',Sa G G'->Q (.bl (Xc 1 999 p&&Wf ss [] r)) G':=q;simp! only[];cases c:Xc 1 999 p with
   |false=>
    rw[if_neg (by decide)]
    rw[c]at q;exact q G Sa.refl
   |true=>
    rw[if_pos rfl];rw[c]at q;exact⟨by decide,MG (k:=k) (st:=[]) hr (QF _) F q⟩
  |_::_::_::r,_,h=>
   rw[if_pos (by simp;lia)]
   exact q G Sa.refl
 |non=>exact q G Sa.refl
 |bl b=>exact q G Sa.refl
 |int i=>exact q G Sa.refl
 |str x=>exact q G Sa.refl
 |lst g h=>exact q G Sa.refl
 |dic g=>exact q G Sa.refl
def HW  (h:Th G u d)(R:ss.length<=24)(q:∀G',Sa G G'->Q (.bl (Rm ss u)) G'):Ta T (k+6) tI [Nb xs ss,u] G Q X:=by
 refine⟨rfl,?_⟩;simp! only[rH,Qb,Ab,Lg h (show "tuple" ∈ ["bool", "int", "str", "list", "tuple", "dict"] by decide)]
 cases h with
 |@tup y Y h=>
  rw[show Vg (.tuple Y) "tuple" = da from rfl,if_pos rfl];simp! only[gs07,Xm];have q:∀G',Sa G G'->Q (.bl (decide (y.length<=24)&&y.all (Ig ss))) G':=q;by_cases c:y.length<=24
  ·rw[show decide ((y.length:Int)<=24)=da from decide_eq_true (by lia),if_neg (by decide)]
   rw[decide_eq_true c]at q;simp! only[];refine⟨Jb c (by decide),?_⟩
   refine Rg (λi z G'=>Sa G G'/\z=((y.take i).map (Ig ss)).map .bl) ?_ ?_ ⟨Sa.refl,rfl⟩
   ·rintro z L ⟨s1,rfl⟩;rw[Ng];refine⟨trivial,λp F J=>?_⟩;refine wy J.at ?_;rw[show(y.map (Ig ss)).all id=y.all (Ig ss) by rw[PB];rfl]
    exact q F (s1.trans J.sa)
   ·rintro i x z L K I ⟨s1,rfl⟩ hk _;obtain⟨Z,_,O⟩:=h.get I;refine⟨trivial,?_⟩;simp! only[];refine QU (k:=k) (O.sa s1) R λF s2=>hk _ _ ⟨s1.trans s2,?_⟩;rw[Mg,I,ue,ue];rfl
  ·rw[show decide ((y.length:Int)<=24)=ia from decide_eq_false (by lia),if_pos (by decide)]
   rw[decide_eq_false c]at q;exact q G Sa.refl
 |non=>exact q G Sa.refl
 |bl b=>exact q G Sa.refl
 |int i=>exact q G Sa.refl
 |str x=>exact q G Sa.refl
 |lst g h=>exact q G Sa.refl
 |dic g=>exact q G Sa.refl
def AV  (h:Th G u d)(sl:ss.length<=24)(q:∀G',Sa G G'->Q (.bl (Rm ss u)) G'):Ta T (k+4) HJ [Nb xs ss,u] G Q X:=by
 refine⟨rfl,?_⟩;simp! only[DJ,Qb,Ab,Lg h (show "tuple" ∈ ["bool", "int", "str", "list", "tuple", "dict"] by decide)]
 cases h with
 |@tup F ds h=>
  rw[show Vg (.tuple ds) "tuple" = da from rfl,if_neg (by decide)]
  simp! only[];have q:∀G',Sa G G'->Q (.bl (decide (F.length<=24)&&F.all (Ig ss))) G':=q;by_cases c:F.length<=24
  ·rw[if_neg (by simp;lia)]
   rw[decide_eq_true c]at q;simp! only[wJ];refine Df (λi Y G'=>Sa G G'/\(F.take i).all (Ig ss)=da/\∃o2,Y=[ca (Nb xs ss),ca (.tup F),o2]) ?_ ?_ ⟨Sa.refl,rfl,_,rfl⟩
   ·rintro Y y ⟨s1,a1,o2,rfl⟩;rw[Ng]at a1;rw[a1]at q;exact⟨trivial,q y s1⟩
   ·rintro i x Y y K O ⟨s1,a1,o2,rfl⟩ hk;obtain⟨dx,_,tx⟩:=h.get O;refine⟨trivial,?_⟩;have go:Ig ss x=da->∀G',Sa y G'->K [ca (Nb xs ss),ca (.tup F),ca x] G':=λI G' s=>hk _ _ ⟨s1.trans s,by rw[Mg,O,List.all_append,a1];simp[I],_,rfl⟩
    have no:Ig ss x=ia->∀G',Sa y G'->Q (.bl ia) G':=λI G' s=>by
     have:F.all (Ig ss)=ia:=by
      cases z:F.all (Ig ss)with
      |false=>rfl
      |true=>rw[Qa.mp z x (Ze O)]at I;cases I
     rw[this]at q;exact q G' (s1.trans s)
    have L:=tx.sa s1;simp! only[bK,Lg L (show "tuple" ∈ ["bool", "int", "str", "list", "tuple", "dict"] by decide)]
    cases L with
    |@tup R J h'=>
     rw[show Vg (.tuple J) "tuple" = da from rfl,if_neg (by decide)]
     simp! only[]
     match R,J,h' with
     |[],_,_=>exact no rfl y Sa.refl
     |[x],_,_=>exact no rfl y Sa.refl
     |[p,r],[dp,dr],.cons I (.cons hr .nil)=>
      rw[if_neg (by simp)]
      simp! only[ix_t (He _ _)];refine xp (k:=k+2) I ?_;simp! only[];cases c:Xc 1 999 p with
      |false=>
       rw[if_pos (by decide)]
       exact no (by show(Xc 1 999 p&&_)=ia;rw[c];rfl) y Sa.refl
      |true=>
       rw[if_neg (by decide)]
       simp! only[ix_t (Fc _ _ _)];refine⟨by decide,fG (k:=k) (st:=[]) hr (λz hz=>(nomatch hz)) sl λZ s2=>?_⟩
       simp! only[];cases c2:Wf ss [] r with
       |false=>
        rw[if_pos (by decide)]
        exact no (by show(Xc 1 999 p&&Wf ss [] r)=ia;rw[c,c2];rfl) Z s2
       |true=>
        rw[if_neg (by decide)]
        exact go (by show(Xc 1 999 p&&Wf ss [] r)=da;rw[c,c2];rfl) Z s2
     |_::_::_::r,_,h=>
      rw[if_pos (by simp;lia)]
      exact no rfl y Sa.refl
    |non=>exact no rfl y Sa.refl
    |bl b=>exact no rfl y Sa.refl
    |int i=>exact no rfl y Sa.refl
    |str x=>exact no rfl y Sa.refl
    |lst g h=>exact no rfl y Sa.refl
    |dic g=>exact no rfl y Sa.refl
  ·rw[if_pos (by simp;lia)]
   rw[decide_eq_false c]at q;exact q G Sa.refl
 |non=>exact q G Sa.refl
 |bl b=>exact q G Sa.refl
 |int i=>exact q G Sa.refl
 |str x=>exact q G Sa.refl
 |lst g h=>exact q G Sa.refl
 |dic g=>exact q G Sa.refl


def ap_4  {X: KX}{bs: List Int}{za: Option U}{o t:Nat}(J:Fn G f c n)(hn:n<=850000000)(h1:1<=P)(h2:P<=600)(I:G pb=ca (.lst (bs.map .int)))(bl:bs.length=W)(ho:o<W)(ht:t<W)(gp:G p=ca (.lst (ss.map Rb.u)))(R:p≠f/\p≠c/\p≠pb)(sl:ss.length<=30)
  (kk:∀(s:Rb) o11 G',s.Ok W->Fn G' f c (n+7)->G' p=ca (.lst ((ss++[s]).map Rb.u))->G' pb=ca (.lst (bs.map .int))->(∀q v,q≠f->q≠p->G q=ca v->G' q=ca v)->K [ca (.loc f),ca (.int W),ca (.int P),u3,ca (.loc pb),ca (.int F),ca (.loc p),Y,O,ca (.int o),ca (.int t),o11] G') :
  Dc T.gs (Ta T (k+2)) jw ⟨K,Q,λx _ G'=>X x G'⟩ [ca (.loc f),ca (.int W),ca (.int P),u3,ca (.loc pb),ca (.int F),ca (.loc p),Y,O,ca (.int o),ca (.int t),za] G:=by
 have xa:∀(s:Rb) o11 y,s.Ok W->Fn y f c (n+7)->Sm f G y->putO y p (.lst (ss.map Rb.u++[s.u])) λG2=>K [ca (.loc f),ca (.int W),ca (.int P),u3,ca (.loc pb),ca (.int F),ca (.loc p),Y,O,ca (.int o),ca (.int t),o11] G2:=λs o11 y so L s1 G2 Z=>by
  refine kk s o11 G2 so (L.off ⟨R.1,R.2.1⟩ Z) (by rw[ue];exact Z.at) (Z.sm _ _ (Ua R.2.2) (s1 _ _ ?_ I)) λq v hq va e=>Z.sm _ _ va (s1 _ _ hq e)
  intro z;obtain⟨ns,a,l,t,e1,_⟩:=J.ex;rw[z,e1]at I;cases I
 have app:∀(b:Bool) (G0:Gp) (n0:Nat),n0<=n+1->Fn G0 f c n0->Sm f G G0->(match Oe .append (.loc p) G0 with
   |some _=>if b=da then Ta T (k+2) oA [.loc f,.int P,.int o,.int t] G0 (λx y=>Yd .append (.loc p) [x] y λ_ y=>K [ca (.loc f),ca (.int W),ca (.int P),u3,ca (.loc pb),ca (.int F),ca (.loc p),Y,O,ca (.int o),ca (.int t),ca (.bl b)] y) (λx y=>X x y) else Ta T (k+2) Mz [.loc f,.int P,.loc pb,.int o,.int t] G0 (λx y=>Yd .append (.loc p) [x] y λ_ y=>K [ca (.loc f),ca (.int W),ca (.int P),u3,ca (.loc pb),ca (.int F),ca (.loc p),Y,O,ca (.int o),ca (.int t),ca (.bl b)] y) (λx y=>X x y)
   |none=>False):=by
  intro b G0 n0 h0 f0 s0;have g0:=s0 _ _ R.1 gp;have ja:pb≠f:=λz=>by
   obtain⟨ns,a,l,t,e1,_⟩:=J.ex;rw[z,e1]at I;cases I
  rw[Xo g0];dsimp only;have ap:∀(s:Rb) (y:Gp),s.Ok W->Fn y f c (n0+6)->Sm f G0 y->Yd .append (.loc p) [s.u] y λ_ y=>K [ca (.loc f),ca (.int W),ca (.int P),u3,ca (.loc pb),ca (.int F),ca (.loc p),Y,O,ca (.int o),ca (.int t),ca (.bl b)] y:=λs y so L s1=>by
   have g1:=s1 _ _ R.1 g0;rw[Ro g1];exact⟨by rw[Bc];exact Yg sl (by decide),xa s _ y so (L.mono (by lia)) (s0.trans s1)⟩
  cases b with
  |true=>rw[if_pos rfl];exact gW (k:=k) f0 (by lia) h1 h2 ho ht ap
  |false=>rw[if_neg (by decide)];exact LO (k:=k) f0 (by lia) h1 h2 (s0 _ _ ja I) bl ho ht ap
 simp! only[jw];by_cases c5:F=5
 ·rw[if_pos (by simpa using c5)]
  exact app _ G n (by lia) J Sm.refl
 ·rw[if_neg (by simpa using c5)]
  by_cases c2:2<F
  ·rw[if_pos (by simpa using c2)]
   refine Mc J (by lia) (by decide) (by decide) λr y a1 b1 L s1=>?_
   simp! only[];exact app _ y (n+1) (ub _) L s1
  ·rw[if_neg (by simpa using c2)]
   exact app _ G n (by lia) J Sm.refl
def ap_0  {X: KX}{bs: List Int}{u9: Option U}{xa: Option U}{y: Option U}{i:Nat}(hf:Fn G f c n)(hn:n<=840000000)(h1:1<=P)(h2:P<=600)(gb:G pb=ca (.lst (bs.map .int)))(bl:bs.length=W)(w0:0<W)(w8:W<=8)(gp:G p=ca (.lst (ss.map Rb.u)))(hp:p≠f/\p≠c/\p≠pb)(sl:ss.length<=30)
  (kk:∀(s:Rb) o9 o10 o11 G',s.Ok W->Fn G' f c (n+12)->G' p=ca (.lst ((ss++[s]).map Rb.u))->G' pb=ca (.lst (bs.map .int))->(∀q v,q≠f->q≠p->G q=ca v->G' q=ca v)->K [ca (.loc f),ca (.int W),ca (.int P),u3,ca (.loc pb),ca (.int F),ca (.loc p),u7,ca (.int i),o9,o10,o11] G') :
  Dc T.gs (Ta T (k+2)) GA ⟨K,Q,λx _ G'=>X x G'⟩ [ca (.loc f),ca (.int W),ca (.int P),u3,ca (.loc pb),ca (.int F),ca (.loc p),u7,ca (.int i),u9,xa,y] G:=by
 have za:pb≠f:=λz=>by
  obtain⟨ns,a,l,t,e1,_⟩:=hf.ex;rw[z,e1]at gb;cases gb
 have t3:∀(o t:Nat) (G0:Gp),o<W->t<W->Fn G0 f c (n+4)->Sm f G G0->Dc T.gs (Ta T (k+2)) JA ⟨K,Q,λx _ G'=>X x G'⟩ [ca (.loc f),ca (.int W),ca (.int P),u3,ca (.loc pb),ca (.int F),ca (.loc p),u7,ca (.int i),ca (.int o),ca (.int t),y] G0:=by
  intro o t G0 R O f0 s0;simp! only[JA];refine⟨by decide,by decide,by decide,λp1 G1 n1=>Mc (f0.new n1) (by lia) (by decide) (by decide) λr J Z b2 L s2=>?_⟩
  have I:Sm f G J:=(s0.nw n1).trans s2;have Y:∀(o t:Nat),o<W->t<W->Dc T.gs (Ta T (k+2)) jw ⟨K,Q,λx _ G'=>X x G'⟩ [ca (.loc f),ca (.int W),ca (.int P),u3,ca (.loc pb),ca (.int F),ca (.loc p),u7,ca (.int i),ca (.int o),ca (.int t),y] J:=λo t R O=>
   ap_4 (k:=k) L (by lia) h1 h2 (I _ _ za gb) bl R O (I _ _ hp.1 gp) hp sl λs o11 G3 so f3 g3 ja fr=>kk s _ _ _ G3 so (f3.mono (by lia)) g3 ja λq v hq va e=>fr q v hq va (I _ _ hq e)
  refine Mv (s2 _ _ (f0.away n1).1 n1.at) Z b2 λu hu=>?_;simp only[Oc,Je,or_false]at hu;rcases hu with rfl|rfl
  ·simp! only[];exact⟨trivial,Y o t R O⟩
  ·simp! only[];exact⟨trivial,Y t o O R⟩
 have t2:∀(o t:Nat) (G0:Gp),o<W->t<W->Fn G0 f c (n+3)->Sm f G G0->Dc T.gs (Ta T (k+2)) IA ⟨K,Q,λx _ G'=>X x G'⟩ [ca (.loc f),ca (.int W),ca (.int P),u3,ca (.loc pb),ca (.int F),ca (.loc p),u7,ca (.int i),ca (.int o),ca (.int t),y] G0:=by
  intro o t G0 R O f0 s0;simp! only[IA];by_cases c:(i:Int)+1<W
  ·rw[if_pos (by simpa using c)]
   refine Mc f0 (by lia) (by lia) (by lia) λr J Z b2 L s2=>?_
   obtain⟨r,rfl⟩:=pi Z;simp! only[];exact⟨trivial,t3 (i+1) r J (by lia) (by lia) L (s0.trans s2)⟩
  ·rw[if_neg (by simpa using c)]
   exact t3 o t G0 R O (f0.mono (by lia)) s0
 simp! only[GA];refine Mc hf (by lia) (by lia) (by lia) λo G1 a1 b1 f1 s1=>Mc f1 (by lia) (by lia) (by lia) λt J Z b2 L s2=>?_
 obtain⟨o,rfl⟩:=pi a1;obtain⟨t,rfl⟩:=pi Z;have I:=s1.trans s2;simp! only[];refine⟨trivial,?_⟩;by_cases c:(o:Int)=t
 ·rw[if_pos (by simpa using c)]
  refine Mc L (by lia) (by decide) (by decide) λr G3 a3 b3 f3 s3=>?_
  simp! only[];by_cases c2:0<r
  ·rw[if_pos (by simpa using c2)]
   refine⟨by lia,?_⟩
   exact t2 o ((o+1)%W) G3 (by lia) (Nat.mod_lt _ w0) f3 (I.trans s3)
  ·rw[if_neg (by simpa using c2)]
   exact t2 o t G3 (by lia) (by lia) f3 (I.trans s3)
 ·rw[if_neg (by simpa using c)]
  exact t2 o t J (by lia) (by lia) (L.mono (by lia)) I

noncomputable def Tu  : List Str:=["a", "ab", "works", "span", "apart", "ring", "b", "stay"]
def jT  : ∀x∈Tu,Nm x:=by
 have h:∀x∈Tu,x.length<=8/\∀c∈x.cps.toList,c<128:=by decide +kernel
 exact λx y=>⟨(h x y).1,(h x y).2⟩

def ap_6  {X: KX}{ss: List Rb}{za: Option U}{M:Int}(hf:Fn G f c n)(hn:n<=850000000)(w0:0<W)(w8:W<=8)(M0:1<=M)(M1:M<=24)(gp:G p=ca (.lst (ss.map Rb.u)))(sl:(ss.length:Int)<=M)(so:∀s∈ss,s.Ok W)
  (q:∀(xs:List Str) (ss:List Rb) G' ,xs.length=W->(∀x∈xs,Nm x)->ss.length<=24->(∀s∈ss,s.Ok W)->Fn G' f c (n+2)->Sm f G G'->Q (Nb xs ss) G') :
  Dc T.gs (Ta T (k+2)) pA ⟨λ_ G'=>Q .non G',Q,λx _ G'=>X x G'⟩ [ca (.loc f),ca (.int W),u3,ca (.int M),u4,u5,ca (.loc p),u7,u8,u9,ya,za] G:=by
 have ja:∀(ss:List Rb) (p:Aa) (F:Gp),F p=ca (.lst (ss.map Rb.u))->ss.length<=24->(∀s∈ss,s.Ok W)->Fn F f c (n+1)->Sm f G F->Dc T.gs (Ta T (k+2)) cw ⟨λ_ G'=>Q .non G',Q,λx _ G'=>X x G'⟩ [ca (.loc f),ca (.int W),u3,ca (.int M),u4,u5,ca (.loc p),u7,u8,u9,ya,za] F:=by
  intro ss p F g1 sl so Y s1;simp! only[cw];refine⟨by decide,λp2 I n2=>Mc (Y.new n2) (by lia) (by decide) (by decide) λr G3 a3 b3 f3 s3=>?_⟩
  have S3:=(s1.nw n2).trans s3;have pf:p≠f:=λz=>by
   obtain⟨ns,a,l,t,e1,_⟩:=Y.ex;rw[z,e1]at g1;cases g1
  have g3:=s3 _ _ pf (n2.sa _ _ g1);simp! only[];refine Jg [1,-1] (s3 _ _ (Y.away n2).1 n2.at) (by split<;>decide) (by split<;>decide) λz hz=>?_
  have va:z=1\/z=-1:=by simpa using hz
  unfold revU Ad;dsimp only;rw[g3];dsimp only;refine⟨va,λp4 G4 L=>⟨by decide,?_⟩⟩
  obtain⟨ts,et,lt,mt⟩:∃ts:List Rb,(if z=1 then ss.map Rb.u else (ss.map Rb.u).reverse)=ts.map Rb.u/\ts.length=ss.length/\∀s∈ts,s∈ss:=by
   rcases va with rfl|rfl
   ·exact⟨ss,rfl,rfl,λ_ h=>h⟩
   ·exact⟨ss.reverse,by rw[if_neg (by decide),yt],by simp,λs h=>Hc.mp h⟩
  rw[et]at L;rw[it_l L.at];refine⟨by decide,?_⟩
  have ec:Z.cut [U.str "a",.str "ab",.str "works",.str "span",.str "apart",.str "ring",.str "b",.str "stay"] la (ca (W:Int))=(Tu.take W).map .str:=by rw[av,Ww];rfl
  rw[ec];exact q (Tu.take W) ts G4 (by rw[xt];exact Nat.min_eq_left w8) (λx hx=>jT x (yn hx)) (by lia) (λs O=>so s (mt s O)) (f3.new L) (S3.nw L)
 have pf:p≠f:=λz=>by
  obtain⟨ns,a,l,t,e1,_⟩:=hf.ex;rw[z,e1]at gp;cases gp
 simp! only[pA,sl_l gp];intro p1 F R;have c1:Z.cut (ss.map Rb.u) la (ca 1)=(ss.take 1).map Rb.u:=by rw[show(1:Int)=((1:Nat):Int)from rfl,av,Ww]
 rw[c1]at R;have Y:=hf.new R;have ka:=hf.away R;have xa:∀(z:Int) (I:Gp),(z=0\/(z=1/\(ss.length:Int)<M))->Fn I f c (n+1)->Sm f F I->binU .Mult (.loc p1) (.int z) I λy I=>binU .Add (.loc p) y I λu F=>Dc T.gs (Ta T (k+2)) cw ⟨λ_ G'=>Q .non G',Q,λx _ G'=>X x G'⟩ [ca (.loc f),ca (.int W),u3,ca (.int M),u4,u5,ca u,u7,u8,u9,ya,za] F:=by
  intro z I hz f2 s2;have tl:(ss.take 1).length<=1:=by rw[xt];lia
  refine⟨_,s2 _ _ ka.1 R.at,by rcases hz with rfl|⟨rfl,_⟩<;>decide,by rcases hz with rfl|⟨rfl,_⟩<;>decide,?_,λp3 G3 n3=>⟨_,_,n3.sa _ _ (s2 _ _ pf (R.sa _ _ gp)),n3.at,?_,λp4 G4 L=>?_⟩⟩
  ·rw[Bc];rcases hz with rfl|⟨rfl,_⟩
   ·exact Me _
   ·exact Jb (show _<=1 by simpa using tl) (by decide)
  ·rcases hz with rfl|⟨rfl,_⟩
   ·exact Jb (show(ss.map Rb.u).length+0<=24 by rw[Bc];lia) (by decide)
   ·have e:(Ab (Js 1) ((ss.take 1).map Rb.u)).flatten=(ss.take 1).map Rb.u:=by simp
    rw[e,Bc,Bc];exact Jb (show ss.length+(ss.take 1).length<=25 by lia) (by decide)
  have S4:Sm f G G4:=((R.sa.sm.trans s2).nw n3).nw L;have f4:=(f2.new n3).new L;have J:=L.at
  rcases hz with rfl|⟨rfl,hl⟩
  ·have e:ss.map Rb.u++(Ab (Js 0) ((ss.take 1).map Rb.u)).flatten=ss.map Rb.u:=by simp
   rw[e]at J;exact ja ss p4 G4 J (by lia) so f4 S4
  ·have e:ss.map Rb.u++(Ab (Js 1) ((ss.take 1).map Rb.u)).flatten=(ss++ss.take 1).map Rb.u:=by simp
   rw[e]at J;refine ja _ p4 G4 J (by rw[Ke];lia) (λs O=>?_) f4 S4
   rcases Oa.mp O with O|O
   ·exact so s O
   ·exact so s (yn O)
 simp! only[Pk (R.sa _ _ gp),Bc];by_cases l0:(0:Int)<ss.length
 ·rw[if_pos (by simpa using l0)]
  by_cases l1:(ss.length:Int)<M
  ·rw[if_pos (by simpa using l1)]
   refine Mc Y (by lia) (by decide) (by decide) λr I a2 b2 f2 s2=>?_
   simp! only[];refine xa _ I ?_ f2 s2;split
   ·exact .inr ⟨rfl,l1⟩
   ·exact .inl rfl
  ·rw[if_neg (by simpa using l1)]
   simp! only[];refine xa _ F (.inl ?_) (Y.mono (by lia)) Sm.refl
   rw[if_neg (by simpa using l1)]
 ·rw[if_neg (by simpa using l0)]
  simp! only[];exact xa _ F (.inl rfl) (Y.mono (by lia)) Sm.refl
def NU  (hf:Fn G f c n)(hn:n<=800000000)(h1:1<=P)(h2:P<=600)(w0:0<W)(w8:W<=8)(m0:1<=m)(m1:m<=24)
  (q:∀(xs:List Str) (ss:List Rb) G' ,xs.length=W->(∀x∈xs,Nm x)->ss.length<=24->(∀s∈ss,s.Ok W)->Fn G' f c (n+1000)->Sm f G G'->Q (Nb xs ss) G'):Ta T (k+3) vI [.loc f,.int W,.int P,.int m] G Q X:=by
 refine⟨rfl,?_⟩;simp! only[tH,Qb,Ab];refine⟨by lia,by lia,by rw[Sf];exact Jb (show _<=8 by lia) (by decide),?_⟩
 refine Rg (λi I G'=>Fn G' f c (n+i)/\Sm f G G'/\∃bs:List Int,I=bs.map .int/\bs.length=i) ?_ ?_ ⟨hf,Sm.refl,[],rfl,rfl⟩
 ·rintro I G1 ⟨f1,s1,bs,rfl,bl⟩;rw[Sf]at f1 bl;refine⟨trivial,λO G2 n2=>?_⟩;have f2:=f1.new n2;have hb:=f1.away n2;simp! only[YI];refine⟨by decide,λp3 G3 n3=>Mc (f2.new n3) (by lia) (by decide) (by decide) λr4 G4 a4 b4 f4 s4=>?_⟩
  simp! only[];refine Jg [m,24] (s4 _ _ (f2.away n3).1 n3.at) (by split<;>decide) (by show _<(2:Int);split<;>decide) λM hM=>?_
  have Y:1<=M/\M<=24:=by simp only[Oc,Je,or_false]at hM;lia
  refine Mc f4 (by lia) (by decide) (by decide) λka G5 a5 b5 f5 s5=>⟨by decide,λp6 G6 J=>?_⟩
  have f6:=f5.new J;have h6:=f5.away J;simp! only[];refine Mc f6 (by lia) (by lia) (by lia) λr7 G7 a7 b7 f7 s7=>⟨by decide,λp8 G8 n8=>Mc (f7.new n8) (by lia) (by decide) (by decide) λr9 G9 a9 b9 f9 s9=>?_⟩
  refine Jg [(W:Int)-1,W,W+1,r7,M,W] (s9 _ _ (f7.away n8).1 n8.at) a9 b9 λmany F=>?_;have hm:0<=many/\many<=24:=by simp only[Oc,Je,or_false]at F;lia
  have S5:Sm f G G5:=(((s1.nw n2).nw n3).trans s4).trans s5;have L:Sm f G6 G9:=(s7.nw n8).trans s9;have S9:Sm f G G9:=(S5.nw J).trans L;have Z:G5 O=ca (.lst (bs.map .int)):=s5 _ _ hb.1 (s4 _ _ hb.1 (n3.sa _ _ n2.at));have ya:G9 O=ca (.lst (bs.map .int)):=L _ _ hb.1 (J.sa _ _ Z);have za:G9 p6=ca (.lst []):=L _ _ h6.1 J.at
  have xa:p6≠O:=Xy Z J.no;simp! only[ZI];obtain⟨R,hR,jb,RM⟩:∃R:Nat,(if many<M then many else M)=(R:Int)/\R<=24/\(R:Int)<=M:=by
   obtain⟨a,ha⟩:=pi (show 0<=if many<M then many else M by split<;>lia)
   exact⟨a,ha,by split at ha<;>lia,by split at ha<;>lia⟩
  rw[hR];refine⟨by lia,by lia,?_⟩
  refine Df (λi ς G'=>∃ss o8 o9 o10 o11,ς=[ca (.loc f),ca (.int W),ca (.int P),ca (.int M),ca (.loc O),ca (.int ka),ca (.loc p6),ca (.int many),o8,o9,o10,o11]/\Fn G' f c (n+30+12*i)/\Sm f G G'/\G' p6=ca (.lst (ss.map Rb.u))/\G' O=ca (.lst (bs.map .int))/\ss.length=i/\∀s∈ss,s.Ok W) ?_ ?_ ⟨[],_,_,_,_,rfl,f9.mono (by lia),S9,za,ya,rfl,λs h=>(nomatch h)⟩
  ·rintro ς Ga ⟨ss,o8,o9,o10,o11,rfl,fa,sa,ga,gba,sl,so⟩;rw[Sf]at sl fa;refine⟨trivial,?_⟩;exact ap_6 (k:=k) fa (by lia) w0 w8 Y.1 Y.2 ga (by lia) so λxs va Gb xl nm ja zb fb sb=>q xs va Gb xl nm ja zb (fb.mono (by lia)) (sa.trans sb)
  ·rintro i x ς Ga K hx ⟨ss,o8,o9,o10,o11,rfl,fa,sa,ga,gba,sl,so⟩ hk;obtain⟨hi,rfl⟩:=Kh hx;refine⟨trivial,?_⟩;refine ap_0 (k:=k) fa (by lia) h1 h2 gba bl w0 w8 ga ⟨h6.1,h6.2,xa⟩ (by lia) λs o9 o10 o11 Gb hs fb gb xb fr=>hk _ _ ⟨ss++[s],_,_,_,_,rfl,fb.mono (by lia),λb o y e=>fr b o y (λz=>?_) (sa _ _ y e),gb,xb,by rw[Ke,sl];rfl,λt ht=>?_⟩
   ·have:=S5 _ _ y e;rw[z,J.no]at this;cases this
   ·rcases Oa.mp ht with h|h
    ·exact so t h
    ·rw[Ea.mp h];exact hs
 ·rintro i x I G1 K hx ⟨f1,s1,bs,rfl,bl⟩ hk _;obtain⟨hi,rfl⟩:=Kh hx;refine⟨trivial,?_⟩;simp! only[];exact Mc f1 (by lia) (by lia) (by lia) λr G2 a2 b2 f2 s2=>hk _ _ ⟨f2,s1.trans s2,bs++[r],by simp,by simp[bl]⟩

noncomputable def Re  (s:Nat)(y:Int)(a b:Nat):U:=.tup [.tup [.int s,.int y],.int a,.int b]
structure Bi (W N:Nat)(es:List U):Prop where
 mem:∀e∈es,∃(s:Nat) (y:Int) (a b:Nat),e=Re s y a b/\s<N/\(y=1\/y=-1)/\a<W/\b<W
 sym:∀s y a b,Re s y a b∈es->∃s' y' b',Re s' y' b b'∈es
def Bi.nil   : Bi W N []:=⟨λ_ h=>(nomatch h),λ_ _ _ _ h=>(nomatch h)⟩
def Bi.add     (h:Bi W N es)(hs:s<N)(J:a<W)(I:b<W):Bi W N (es++[Re s 1 a b,Re s (-1) b a]):=by
 refine⟨λe F=>?_,λs' Z a' L F=>?_⟩
 ·rcases Oa.mp F with F|F
  ·exact h.mem e F
  ·simp only[Oc,Je,or_false]at F;rcases F with rfl|rfl
   ·exact⟨s,1,a,b,rfl,hs,.inl rfl,J,I⟩
   ·exact⟨s,-1,b,a,rfl,hs,.inr rfl,I,J⟩
 ·rcases Oa.mp F with F|F
  ·obtain⟨x,y,z,Y⟩:=h.sym _ _ _ _ F;exact⟨x,y,z,nk _ Y⟩
  ·simp only[Oc,Je,or_false]at F;have O:Re s 1 a b∈es++[Re s 1 a b,Re s (-1) b a]:=Ag _ (by simp)
   have R:Re s (-1) b a∈es++[Re s 1 a b,Re s (-1) b a]:=Ag _ (by simp)
   rcases F with F|F
   ·have:L=b:=by unfold Re at F;simp at F;lia
    exact⟨s,-1,a,by rw[this];exact R⟩
   ·have:L=a:=by unfold Re at F;simp at F;lia
    exact⟨s,1,b,by rw[this];exact O⟩
def KM      (g:G a=ca (.lst xs))(g':G b=ca (.lst ys))(h:xs.length+ys.length<=Wa)(q:∀G',Dh G a (.lst (xs++ys)) G'->Q .non G'):Yd .extend (.loc a) [.loc b] G Q:=by
 unfold Yd Ev;dsimp only;rw[g,g'];exact⟨h,q⟩
def ME     (g:G a=ca (.lst xs)):Oe .extend (.loc a) G=ca ("list", "list.extend"):=by unfold Oe;dsimp only;rw[g]

def wT  (so:∀s∈ss,s.Ok W)(sl:ss.length<=24)(q:∀p y G',Sa G G'->G' p=ca (.lst y)->Bi W ss.length y->y.length=2*ss.length->Q (.loc p) G'):Ta T (k+1) GH [Nb xs ss,.tup []] G Q X:=by
 refine⟨rfl,?_⟩;simp! only[BH,Qb,Ab];refine⟨by decide,λp G1 J=>?_⟩
 simp! only[ZH];refine⟨trivial,?_⟩;simp! only[aI,Nb,ix_t (Fc _ _ _),Bc];refine⟨by lia,by lia,?_⟩
 refine Df (λi L G'=>∃y o3 o4 o5,L=[ca (Nb xs ss),ca (.tup []),ca (.loc p),o3,o4,o5]/\(∀q v,q≠p->G1 q=ca v->G' q=ca v)/\G' p=ca (.lst y)/\Bi W ss.length y/\y.length=2*i) ?_ ?_ ⟨[],_,_,_,rfl,λ_ _ _ e=>e,J.at,Bi.nil,rfl⟩
 ·rintro L Y ⟨y,o3,o4,o5,rfl,fr,g2,st,el⟩;rw[Sf]at el;refine⟨trivial,?_⟩;simp! only[];exact q p y Y (λb o e=>fr b o (λz=>by rw[z,J.no]at e;cases e) (J.sa _ _ e)) g2 st el
 ·rintro i x L Y K hx ⟨y,o3,o4,o5,rfl,fr,g2,st,el⟩ hk;obtain⟨I,rfl⟩:=Kh hx;have I:i<ss.length:=by lia
  obtain⟨F,R,em⟩:∃F,ss[i]?=ca F/\F∈ss:=⟨ss[i],Sh I,vt I⟩;have ho:=so F em;refine⟨trivial,?_⟩;simp! only[Nb,ix_t (Fc _ _ _),ix_t (Tf (f:=Rb.u) R),Rb.u,WA,ME g2];refine⟨trivial,by decide,by decide,by decide,by decide,by decide,λp3 G3 O=>?_⟩
  refine KM (O.sa _ _ g2) O.at ?_ λG4 Z=>?_
  ·exact Jb (show y.length+2<=60 by lia) (by decide)
  ·refine hk _ _ ⟨_,_,_,_,rfl,λb o hb e=>Z.sm _ _ hb (O.sa _ _ (fr b o hb e)),Z.at,st.add I ho.o ho.t,by rw[Ke,el];show _+2=_;lia⟩

def CF   [DecidableEq κ] kvs (k k':κ)(v:α):dGet (dPut kvs k v) k'=if k'=k then ca v else dGet kvs k':=by
 unfold dGet dPut;by_cases h:(kvs.any λy=>decide (y.1=k))=da
 ·rw[if_pos h]
  induction kvs with
  |nil=>cases h
  |cons a r L=>
   simp only[af,Mi];by_cases I:a.1=k
   ·rw[if_pos I];by_cases hk:k'=k
    ·subst hk;simp[I]
    ·have Y:¬(a.1=k'):=λz=>hk (z.symm.trans I);simp only[Y,decide_false,if_neg hk];have:∀r:List (κ×α),(Kw (λy=>decide (y.1=k')) (r.map λy=>if y.1=k then (y.1,v) else y)).map (·.2)=(Kw (λy=>decide (y.1=k')) r).map (·.2):=λr=>by
      induction r with
      |nil=>rfl
      |cons b r L=>
       simp only[af,Mi];by_cases F:b.1=k
       ·rw[if_pos F];have n2:¬(b.1=k'):=λz=>hk (z.symm.trans F);simp only[n2,decide_false];exact L
       ·rw[if_neg F];by_cases J:b.1=k'
        ·simp[J]
        ·simp only[J,decide_false];exact L
     exact this r
   ·rw[if_neg I];have h':(r.any λy=>decide (y.1=k))=da:=by simpa[I]using h
    by_cases F:a.1=k'
    ·have:¬(k'=k):=λz=>I (F.trans z);simp[F,this]
    ·simp only[F,decide_false];exact L h'
 ·rw[if_neg h];have Z:∀y∈kvs,¬(y.1=k):=λy O e=>h (Ic.mpr ⟨y,O,by simpa using e⟩)
  rw[List.find?_append];by_cases hk:k'=k
  ·subst hk;have:Kw (λy=>decide (y.1=k')) kvs=la:=List.find?_eq_none.mpr λx R=>by simpa using Z x R
   simp[this]
  ·rw[if_neg hk];have:Kw (λy:κ×α=>decide (y.1=k')) [(k,v)]=la:=List.find?_eq_none.mpr λx R=>by
    rw[Ea.mp R];simpa using λz=>hk z.symm
   rw[this];simp
def YS   {k:Vb}{v:U}:(dPut kvs k v).length<=kvs.length+1:=by
 unfold dPut;split
 ·rw[Bc];lia
 ·simp
def sy       (g:G a=ca (.dK kvs)):Wg (.int z) (.loc a) G k=k (dGet kvs (.inl z)).isSome:=by unfold Wg;dsimp only;rw[g];rfl
def Su        (g:G a=ca (.dK kvs))(h:dGet kvs (.inl z)=ca u):tf (.loc a) (.int z) G Q=Q u G:=by
 unfold tf;dsimp only;rw[g];show(match dGet kvs (.inl z)with|some u=>Q u G|none=>False)=_;rw[h]
def pE        (g:G a=ca (.dK kvs)):setU (.loc a) (.int z) v G Q=(kvs.length<Wa/\putO G a (.dK (dPut kvs (.inl z) v)) Q):=by unfold setU;dsimp only;rw[g];rfl
def lR   {k:Vb}{v:U}:kvs.length<=(dPut kvs k v).length:=by
 unfold dPut;split
 ·rw[Bc];exact ub _
 ·simp
def Ew  (N:Nat)(e:U):Prop:=∃(s:Nat) (y:Int),e=.tup [.int s,.int y]/\s<N/\(y=1\/y=-1)
structure Wk (W N:Nat)(kvs:List (Vb×U))(ln:List Int):Prop where
 kl:kvs.length<=ln.length
 mem:∀z:Int,(dGet kvs (.inl z)).isSome=da↔z∈ln
 ex:∀(z:Int) (v:U),dGet kvs (.inl z)=ca v->∃(r:Int) (us:List U),v=.tup [.int r,.tup us]/\(∀e∈us,Ew N e)/\us.length+1<=ln.length
 nd:ln.Nodup
 bd:∀z∈ln,0<=z/\z<W
def Wk.no     (h:Wk W N kvs F)(c:z∉F):(dGet kvs (.inl z)).isSome=ia:=by
 cases e:(dGet kvs (.inl z)).isSome with
 |false=>rfl
 |true=>exact absurd ((h.mem z).mp e) c
def Wk.put     (h:Wk W N kvs L)(c:z∉L)(hz:0<=z/\z<W)(hu:∀e∈us,Ew N e)(Z:us.length<=L.length):Wk W N (dPut kvs (.inl z) (.tup [.int r,.tup us])) (L++[z]):=by
 refine⟨?_,λy=>?_,λy w I=>?_,?_,λy J=>?_⟩
 ·have:=YS (kvs:=kvs) (k:=.inl z) (v:=.tup [.int r,.tup us]);have:=h.kl;rw[Ke];simp only[pj,Mn]
  lia
 ·rw[CF];by_cases F:y=z
  ·rw[if_pos (by rw[F])];simp[F]
  ·rw[if_neg (λq=>F (CB q)),h.mem,Oa];exact⟨.inl,λq=>q.elim id λq=>absurd (Ea.mp q) F⟩
 ·rw[CF]at I;rw[Ke];by_cases F:y=z
  ·rw[if_pos (by rw[F])]at I
   exact⟨r,us,(Te I).symm,hu,Up Z 1⟩
  ·rw[if_neg (λq=>F (CB q))]at I;obtain⟨r',O,e1,e2,e3⟩:=h.ex y w I;exact⟨r',O,e1,e2,by lia⟩
 ·rw[kC];exact⟨h.nd,by simp,λa Y b R e=>c (by rw[<- Ea.mp R,<- e];exact Y)⟩
 ·rcases Oa.mp J with J|J
  ·exact h.bd y J
  ·rw[Ea.mp J];exact hz

def yN {gs:List U}{y:Cl}{z:Sg}{G:Gp}{Q:K1}{X:KX}{e:E}:(Ra gs y (.rngL e)).1 z G Q X=(Ra gs y e).1 z G (λx F=>match x with|.int j=>0<=j/\j<=1000000/\newO F (.lst (rngU 0 j.toNat)) Q|_=>False) X:=rfl
def KR  {X: KX}{pd: Aa}(st:Bi W N es)(w8:W<=8)(gd:G pd=ca (.dK kvs))(O:G pe=ca (.lst es))(wk:Wk W N kvs ln)
  (kk:∀F J o6 o7 o8 G',G' pd=ca (.dK F)->(∀q v,q≠pd->G q=ca v->G' q=ca v)->Wk W N F J->kvs.length<=F.length->(∀z∈ln,z∈J)->K [u0,u1,ca (.loc pe),ca (.loc pd),ca (.int I),u5,o6,o7,o8] G') :
  Dc T.gs (Ta T k) CA ⟨K,Q,λx _ G'=>X x G'⟩ [u0,u1,ca (.loc pe),ca (.loc pd),ca (.int I),u5,u6,u7,u8] G:=by
 have L:pe≠pd:=λz=>by rw[z,gd]at O;cases O
 simp! only[CA];rw[it_l O];refine Df (λ_ ς G'=>∃F J o6 o7 o8,ς=[u0,u1,ca (.loc pe),ca (.loc pd),ca (.int I),u5,o6,o7,o8]/\G' pd=ca (.dK F)/\(∀q v,q≠pd->G q=ca v->G' q=ca v)/\Wk W N F J/\kvs.length<=F.length/\∀z∈ln,z∈J) ?_ ?_ ⟨kvs,ln,_,_,_,rfl,gd,λ_ _ _ e=>e,wk,ub _,λ_ h=>h⟩
 ·rintro ς G1 ⟨kvs1,ln1,o6,o7,o8,rfl,g1,fr,wk1,l1,m1⟩;exact⟨by unfold Ad;rw[fr _ _ L O],kk _ _ _ _ _ _ g1 fr wk1 l1 m1⟩
 ·rintro i x ς G1 K1 hx ⟨kvs1,ln1,o6,o7,o8,rfl,g1,fr,wk1,l1,m1⟩ hk;refine⟨by unfold Ad;rw[fr _ _ L O],?_⟩
  obtain⟨s,y,a,b,rfl,hs,hy,ha,hb⟩:=st.mem x (Ze hx);have stay:∀o6 o7 o8,K1 [u0,u1,ca (.loc pe),ca (.loc pd),ca (.int I),u5,o6,o7,o8] G1:=λo6 o7 o8=>hk _ _ ⟨kvs1,ln1,_,_,_,rfl,g1,fr,wk1,l1,m1⟩;simp! only[Re,sy g1];refine⟨trivial,?_⟩;by_cases Z:(a:Int)∈ln1
  ·obtain⟨va,Y⟩:=Lb.mp ((wk1.mem a).mpr Z);obtain⟨ra,ua,rfl,za,xa⟩:=wk1.ex _ _ Y;rw[(wk1.mem a).mpr Z,if_pos rfl];simp! only[Su g1 Y,ix_t (He _ _),sy g1];by_cases cr:ra=I
   ·rw[if_pos (by simpa using cr)]
    by_cases cb:(b:Int)∈ln1
    ·rw[(wk1.mem b).mpr cb,if_neg (by decide)]
     exact stay _ _ _
    ·rw[wk1.no cb,if_pos (by decide)]
     simp! only[Su g1 Y,ix_t (Fc _ _ _)];have ll:=vp W ln1 wk1.nd wk1.bd;have kl:=wk1.kl;refine⟨by decide,Jb (show ua.length+1<=8 by lia) (by decide),by decide,?_⟩
     rw[pE g1];refine⟨Yg (show kvs1.length<=8 by lia) (by decide),λG2 p2=>?_⟩
     refine hk _ _ ⟨_,ln1++[(b:Int)],_,_,_,rfl,p2.at,λq v hq e=>p2.sm _ _ hq (fr q v hq e),wk1.put cb (by lia) (λe R=>?_) (by rw[Ke];exact xa),Jb l1 lR,λz hz=>nk _ (m1 z hz)⟩
     rcases Oa.mp R with R|R
     ·exact za e R
     ·rw[Ea.mp R];exact⟨s,y,rfl,hs,hy⟩
   ·rw[if_neg (by simpa using cr)]
    exact stay _ _ _
  ·rw[wk1.no Z,if_neg (by decide)]
   exact stay _ _ _
def xN  {X: KX}{pd: Aa}(st:Bi W N es)(w8:W<=8)(gd:G pd=ca (.dK kvs))(ge:G pe=ca (.lst es))(wk:Wk W N kvs L)
  (kk:∀y F o5 o6 o7 o8 G',G' pd=ca (.dK y)->(∀q v,q≠pd->G q=ca v->G' q=ca v)->Wk W N y F->(∀z∈L,z∈F)->K [u0,u1,ca (.loc pe),ca (.loc pd),ca (.int J),o5,o6,o7,o8] G') :
  Dc T.gs (Ta T k) MA ⟨K,Q,λx _ G'=>X x G'⟩ [u0,u1,ca (.loc pe),ca (.loc pd),ca (.int J),ca (.int many),u6,u7,u8] G:=by
 have Y:pe≠pd:=λz=>by rw[z,gd]at ge;cases ge
 simp! only[MA]
 try rw[S_wh]
 refine⟨λm ς G'=>∃(y:List (Vb×U)) (F:List Int) (many:Int) (o6 o7 o8:Option U),ς=[u0,u1,ca (.loc pe),ca (.loc pd),ca (.int J),ca (.int many),o6,o7,o8]/\m=2*(8-y.length)+(if many=y.length then 0 else 1)/\G' pd=ca (.dK y)/\(∀q v,q≠pd->G q=ca v->G' q=ca v)/\Wk W N y F/\∀z∈L,z∈F,⟨_,kvs,L,many,_,_,_,rfl,rfl,gd,λ_ _ _ e=>e,wk,λ_ h=>h⟩,?_⟩
 rintro m ς G1 ⟨kvs1,ln1,many1,o6,o7,o8,rfl,rfl,g1,fr,wk1,m1⟩;have ll:=vp W ln1 wk1.nd wk1.bd;have kl:=wk1.kl;have L:lenU [.loc pd] G1=λQ=>Q (.int kvs1.length) G1:=by funext Q;unfold lenU;dsimp only;rw[g1]
 simp! only[L];by_cases cm:many1=kvs1.length
 ·rw[if_neg (by simpa using cm)]
  exact kk _ _ _ _ _ _ _ g1 fr wk1 m1
 ·rw[if_pos (by simpa using cm)]
  simp! only[cK,L];refine KR (k:=k) st w8 g1 (fr _ _ Y ge) wk1 λO R o6 o7 o8 G2 g2 Z I l2 m2=>?_;have xa:=vp W R I.nd I.bd;have za:=I.kl;refine⟨_,?_,O,R,_,_,_,_,rfl,rfl,g2,λq v hq e=>Z q v hq (fr q v hq e),I,λz hz=>m2 z (m1 z hz)⟩;rw[if_neg cm];split<;>lia

def fR  (st:Bi W N es)(w8:W<=8)(xl:xs.length=W)(ge:G pe=ca (.lst es))
  (q:∀p kvs G',Sa G G'->G' p=ca (.dK kvs)->(∀a ,a<W->∃(r:Int) (us:List U),dGet kvs (.inl (a:Int))=ca (.tup [.int r,.tup us])/\(∀e∈us,Ew N e)/\us.length<=7)->Q (.loc p) G'):Ta T (k+1) KG [Nb xs ss,.tup [],.loc pe] G Q X:=by
 refine⟨rfl,?_⟩;simp! only[fH,Qb,Ab];refine⟨by decide,λpd G1 n1=>?_⟩
 simp! only[hI,Nb,ix_t (He _ _),Bc];intro p2 G2 n2;rw[yN];simp! only[ix_t (He _ _),Bc];refine⟨by lia,by lia,λp3 G3 n3=>⟨_,_,n3.sa _ _ n2.at,n3.at,?_,λp4 G4 n4=>?_⟩⟩
 ·rw[Sf];exact Jb (show(Z.cut ([]:List U) la (ca 1)).length+_<=8 by rw[show(Z.cut ([]:List U) la (ca 1))=[]from rfl];show 0+xs.length<=8;lia) (by decide)
 have y:=n4.at
 rw[show Z.cut ([]:List U) la (ca 1)++rngU 0 xs.length=rngU 0 xs.length from rfl]at y;have J:=n1.no;have gd:G4 pd=ca (.dK []):=n4.sa _ _ (n3.sa _ _ (n2.sa _ _ n1.at));have R:Sa G1 G4:=(n2.sa.trans n3.sa).trans n4.sa;have I:=R _ _ (n1.sa _ _ ge);have Y:p4≠pd:=λz=>by rw[z,gd]at y;cases y
 have L:pe≠pd:=λz=>by rw[z,gd]at I;cases I
 dsimp only;rw[it_l y];refine Df (λi ς G'=>∃kvs F o4 o5 o6 o7 o8,ς=[ca (Nb xs ss),ca (.tup []),ca (.loc pe),ca (.loc pd),o4,o5,o6,o7,o8]/\G' pd=ca (.dK kvs)/\(∀q v,q≠pd->G4 q=ca v->G' q=ca v)/\Wk W N kvs F/\∀j:Nat,j<i->(j:Int)∈F) ?_ ?_ ⟨[],[],_,_,_,_,_,rfl,gd,λ_ _ _ e=>e,⟨ub _,λz=>by simp[dGet],λz v e=>by simp[dGet]at e,List.nodup_nil,λz hz=>(nomatch hz)⟩,λj hj=>absurd hj (Nat.not_lt_zero j)⟩
 ·rintro ς G5 ⟨kvs,F,o4,o5,o6,o7,o8,rfl,g5,fr,wk,hm⟩;rw[Sf]at hm;refine⟨by unfold Ad;rw[fr _ _ Y y],?_⟩
  simp! only[];refine q pd kvs G5 (λb o e=>fr b o (λz=>by rw[z,J]at e;cases e) (R _ _ (n1.sa _ _ e))) g5 λa ha=>?_
  obtain⟨v,ev⟩:=Lb.mp ((wk.mem a).mpr (hm a (by lia)))
  obtain⟨r,us,rfl,hu,hl⟩:=wk.ex _ _ ev;have:=vp W F wk.nd wk.bd;exact⟨r,us,ev,hu,by lia⟩
 ·rintro i x ς G5 K hx ⟨kvs,F,o4,o5,o6,o7,o8,rfl,g5,fr,wk,hm⟩ hk;obtain⟨hi,rfl⟩:=Kh hx;refine⟨by unfold Ad;rw[fr _ _ Y y],?_⟩
  simp! only[UJ,sy g5];by_cases ci:(i:Int)∈F
  ·rw[(wk.mem i).mpr ci,if_neg (by decide)]
   refine hk _ _ ⟨kvs,F,_,_,_,_,_,rfl,g5,fr,wk,λj hj=>?_⟩;by_cases e:j=i
   ·rw[e];exact ci
   ·exact hm j (by lia)
  ·rw[wk.no ci,if_pos (by decide)]
   have ll:=vp W F wk.nd wk.bd;have kl:=wk.kl;simp! only[AJ];refine⟨by decide,by decide,?_⟩
   rw[pE g5];refine⟨Yg (show kvs.length<=8 by lia) (by decide),λG6 p6=>?_⟩
   simp! only[];refine xN (k:=k) st w8 p6.at (p6.sm _ _ L (fr _ _ L I)) (wk.put ci (by lia) (λe he=>(nomatch he)) (Me _)) λO xa o5 o6 o7 o8 G7 g7 ja za m7=>hk _ _ ⟨O,xa,_,_,_,_,_,rfl,g7,λq v hq e=>ja q v hq (p6.sm _ _ hq (fr q v hq e)),za,λj hj=>?_⟩
   by_cases e:j=i
   ·rw[e];exact m7 _ (Ag _ (by simp))
   ·exact m7 _ (nk _ (hm j (by lia)))

noncomputable def Tj  (z:Int):U->Bool
 |.tup [_,.int a,_]=>decide (a=z)
 |_=>ia
def ON     : revU (.tup xs) (.int (-1)) G Q=Q (.tup xs.reverse) G:=by
 unfold revU;dsimp only;exact propext ⟨λh=>h.2,λh=>⟨rfl,h⟩⟩

def WQ  (hu:∀e∈us,Ew N e)(hl:us.length<=60)(q:∀vs G',Sa G G'->(∀e∈vs,Ew N e)->vs.length=us.length->Q (.tup vs) G'):Ta T (k+1) HG [.tup us] G Q X:=by
 refine⟨rfl,?_⟩;simp! only[aH,Qb,Ab];refine⟨by decide,λp G1 I=>?_⟩
 simp! only[ON];refine Df (λi L G'=>∃vs o2,L=[ca (.tup us),ca (.loc p),o2]/\G' p=ca (.lst vs)/\(∀q v,q≠p->G1 q=ca v->G' q=ca v)/\(∀e∈vs,Ew N e)/\vs.length=i) ?_ ?_ ⟨[],_,rfl,I.at,λ_ _ _ e=>e,λ_ h=>(nomatch h),rfl⟩
 ·rintro L Y ⟨vs,o2,rfl,g2,fr,hv,vl⟩;rw[SB]at vl;refine⟨trivial,?_⟩;simp! only[];rw[it_l g2];exact q vs Y (λb o e=>fr b o (λz=>by rw[z,I.no]at e;cases e) (I.sa _ _ e)) hv vl
 ·rintro i x L Y K Z ⟨vs,o2,rfl,g2,fr,hv,vl⟩ hk;have J:i<us.reverse.length:=(Ka.mp Z).1;rw[SB]at J;obtain⟨s,y,rfl,hs,hy⟩:=hu x (Hc.mp (Ze Z));refine⟨trivial,?_⟩;simp! only[Xo g2];rw[if_neg (by decide)]
  simp! only[ix_t (He _ _),ix_t (Fc _ _ _),Ro g2];refine⟨by decide,Yg (show vs.length<=60 by lia) (by decide),λG3 R=>hk _ _ ⟨_,_,rfl,R.at,λb o O e=>R.sm _ _ O (fr b o O e),λe F=>?_,by rw[Ke,vl];rfl⟩⟩
  rcases Oa.mp F with F|F
  ·exact hv e F
  ·rw[Ea.mp F];exact⟨s,0-y,rfl,hs,by rcases hy with rfl|rfl<;>decide⟩
def dS  {X: KX}{pd: Aa}(hf:Fn G f c n)(hn:n<=900000000)(st:Bi W N es)(el:es.length<=48)(Z:G pe=ca (.lst es))(hl:∃s y b,Re s y F b∈es)(hu:∀e∈us,Ew N e)(ul:us.length<=50)
  (kk:∀e I o9 o10 G',Ew N e->I<W->(∃s y b,Re s y I b∈es)->Fn G' f c (n+1)->Sm f G G'->K [ca (.loc f),u1,ca (.loc pe),ca (.loc pd),ca e,u5,ca (.int I),ca (.tup (us++[e])),u8,o9,o10] G') :
  Dc T.gs (Ta T (k+1)) rA ⟨K,Q,λx _ G'=>X x G'⟩ [ca (.loc f),u1,ca (.loc pe),ca (.loc pd),u4,u5,ca (.int F),ca (.tup us),u8,u9,za] G:=by
 simp! only[rA];rw[it_l Z];refine⟨Jb el (by decide),?_⟩
 refine Rg (λi L G'=>G'=G/\L=(es.take i).filter (Tj F)) ?_ ?_ ⟨rfl,rfl⟩
 ·rintro L G1 ⟨rfl,rfl⟩;rw[Ng];refine⟨by unfold Ad;rw[Z],λp2 G2 O=>?_⟩
  obtain⟨s0,y0,b0,xa⟩:=hl;have pos:0<(es.filter (Tj F)).length:=Fe.mpr λz=>by
   have:Re s0 y0 F b0∈es.filter (Tj F):=Od.mpr ⟨xa,decide_eq_true rfl⟩;rw[z]at this;cases this
  have fl:(es.filter (Tj F)).length<=es.length:=List.length_filter_le _ _;simp! only[Pk O.at];refine Mc (hf.new O) (by lia) (by lia) (by lia) λr G3 a3 b3 f3 s3=>?_
  refine Mv (s3 _ _ (hf.away O).1 O.at) a3 b3 λu Y=>?_;obtain⟨hm,_⟩:=Od.mp Y;obtain⟨s,y,a,b,rfl,hs,hy,ha,hb⟩:=st.mem u hm;simp! only[Re];refine⟨trivial,by decide,Jb (show us.length+1<=60 by lia) (by decide),?_⟩
  exact kk _ b _ _ G3 ⟨s,y,rfl,hs,hy⟩ hb (let ⟨s',y',b',h'⟩:=st.sym _ _ _ _ hm;⟨s',y',b',h'⟩) f3 (O.sa.sm.trans s3)
 ·rintro i x L G1 K1 hx ⟨rfl,rfl⟩ hk hn';refine⟨by unfold Ad;rw[Z],?_⟩
  obtain⟨s,y,a,b,rfl,_⟩:=st.mem x (Ze hx);have R:(es.take (i+1)).filter (Tj F)=(es.take i).filter (Tj F)++if (a:Int)=F then [Re s y a b] else []:=by
   rw[Mg,hx,SK];congr 1;show List.filter (Tj F) [Re s y a b]=_;by_cases J:(a:Int)=F
   ·rw[if_pos J];simp[Tj,Re,J]
   ·rw[if_neg J];simp[Tj,Re,J]
  simp! only[Re,ix_t (Fc _ _ _)];by_cases J:(a:Int)=F
  ·rw[if_pos (by simpa using J)]
   rw[if_pos J]at R;exact hk _ _ ⟨rfl,R.symm⟩
  ·rw[if_neg (by simpa using J)]
   rw[if_neg J,Li]at R;exact hn' _ ⟨rfl,R.symm⟩


def eR  (hf:Fn G f c n)(hn:n<=890000000)(so:∀s∈ss,s.Ok W)(sl:ss.length<=24)(w8:W<=8)(xl:xs.length=W)(ne:ss≠[])(q:∀us G',(∀e∈us,Ew ss.length e)->us≠[]->us.length<=20->Fn G' f c (n+7)->Sm f G G'->Q (.tup us) G'):Ta T (k+2) JG [.loc f,Nb xs ss] G Q X:=by
 have s0:0<ss.length:=Fe.mpr ne;refine⟨rfl,?_⟩;simp! only[dH,Qb,Ab];refine⟨by decide,wT (k:=k) (xs:=xs) so sl λpe es G1 s1 ge st el=>?_⟩
 simp! only[];refine⟨by decide,fR (k:=k) (ss:=ss) st w8 xl ge λpd ka G2 s2 gd hw=>?_⟩
 have S2:=s1.trans s2;have f2:=hf.sa S2;have J:=s2 _ _ ge;simp! only[dI,Pk J];refine Mc f2 (by lia) (by lia) (by lia) λr G3 a3 b3 f3 s3=>?_
 have xa:pe≠f:=λz=>by
  obtain⟨ns,a,l,t,Z,_⟩:=f2.ex;rw[z,Z]at J;cases J
 have L:∀{G':Gp},pd=f->dGet ka (.inl (0:Int))=la:=λ{G'} z=>by
  obtain⟨ns,a,l,t,Z,_⟩:=f2.ex;rw[z,Z]at gd;have:=(MO.dK.inj (Te gd)).symm;rw[this];simp[dGet,Kd]
 have w0:0<W:=by
  obtain⟨sp,va⟩:=List.exists_mem_of_ne_nil _ ne;have:=(so sp va).o
  lia
 have L:pd≠f:=λz=>by
  have e:=L (G':=G) z;obtain⟨r,us,e',_⟩:=hw 0 w0;rw[show((0:Nat):Int)=0 from rfl,e]at e';cases e'
 refine Mv (s3 _ _ xa J) a3 b3 λu hu=>?_;obtain⟨s,y,a,b,rfl,hs,hy,ha,hb⟩:=st.mem u hu;simp! only[Re];refine⟨trivial,by decide,?_⟩
 simp! only[eI];refine⟨by decide,λp4 G4 n4=>Mc (f3.new n4) (by lia) (by decide) (by decide) λr5 G5 a5 b5 f5 s5=>?_⟩
 refine Jg [0,1,2,5] (s5 _ _ (f3.away n4).1 n4.at) a5 b5 λz hz=>?_;have ya:0<=z/\z<=5:=by simp only[Oc,Je,or_false]at hz;lia
 obtain⟨R,rfl⟩:=pi ya.1;have ja:Sm f G2 G5:=(s3.nw n4).trans s5;have S5:Sm f G G5:=S2.sm.trans ja;simp! only[];refine⟨by lia,by lia,?_⟩
 refine Df (λi ς G'=>∃(us:List U) (last:Nat) (o4 o8 o9 o10:Option U),ς=[ca (.loc f),ca (Nb xs ss),ca (.loc pe),ca (.loc pd),o4,ca (.int a),ca (.int last),ca (.tup us),o8,o9,o10]/\(∀e∈us,Ew ss.length e)/\us.length=i+1/\last<W/\(∃s y b,Re s y last b∈es)/\Fn G' f c (n+2+i)/\Sm f G2 G') ?_ ?_ ⟨_,b,_,_,_,_,rfl,λe F=>by rw[Ea.mp F];exact⟨s,y,rfl,hs,hy⟩,rfl,hb,st.sym _ _ _ _ hu,f5,ja⟩
 ·rintro ς G6 ⟨us,last,o4,o8,o9,o10,rfl,hus,ul,hlast,_,f6,s6⟩;rw[Sf]at ul f6;refine⟨trivial,?_⟩;have za:=s6 _ _ L gd;obtain⟨r1,u1,Z,h1,l1⟩:=hw last hlast;obtain⟨r2,u2,e2,h2,l2⟩:=hw a ha;simp! only[gI,Su za Z,ix_t (Fc _ _ _)];refine WQ (k:=k) h1 (by lia) λvs G7 Y hv vl=>?_
  simp! only[Su (Y _ _ za) e2,ix_t (Fc _ _ _)];refine⟨Jb (show us.length+vs.length<=60 by lia) (by decide),Jb (show(us++vs).length+u2.length<=60 by rw[Ke];lia) (by decide),?_⟩
  refine q _ G7 (λe F=>?_) (λz=>by have:=congrArg List.length z;rw[Ke,Ke]at this;simp only[Mn]at this;lia) (by simp only[Ke];lia) ((f6.sa Y).mono (by lia)) ((S2.sm.trans s6).trans Y.sm)
  rcases Oa.mp F with F|F
  ·rcases Oa.mp F with F|F
   ·exact hus e F
   ·exact hv e F
  ·exact h2 e F
 ·rintro i x ς G6 K hx ⟨us,last,o4,o8,o9,o10,rfl,hus,ul,hlast,hst,f6,s6⟩ hk;obtain⟨hi,rfl⟩:=Kh hx;refine⟨trivial,?_⟩;refine dS (k:=k) (W:=W) f6 (by lia) st (by lia) (s6 _ _ xa J) hst hus (by lia) λe O o9 o10 G7 F zb xb f7 Y=>hk _ _ ⟨_,O,_,_,_,_,rfl,λe' I=>?_,by rw[Ke,ul];rfl,zb,xb,f7,s6.trans Y⟩
  rcases Oa.mp I with I|I
  ·exact hus e' I
  ·rw[Ea.mp I];exact F

def Pr  (N:Nat)(u:U):Prop:=∃(z:Int) (us:List U),u=.tup [.int z,.tup us]/\(1<=z/\z<=999)/\(∀e∈us,Ew N e)/\us.length<=20

def BW  (hf:Fn G f c n)(hn:n<=880000000)(so:∀s∈ss,s.Ok W)(sl:ss.length<=24)(w8:W<=8)(xl:xs.length=W)(q:∀ps G',(∀u∈ps,Pr ss.length u)->ps.length<=24->Fn G' f c (n+400)->Sm f G G'->Q (.tup ps) G'):Ta T (k+3) pJ [.loc f,Nb xs ss] G Q X:=by
 refine⟨rfl,?_⟩;simp! only[nJ,Qb,Ab];refine⟨by decide,λp G1 F=>?_⟩
 have f1:=hf.new F;have O:=hf.away F;simp! only[CJ];refine⟨by decide,λp2 G2 J=>Mc (f1.new J) (by lia) (by decide) (by decide) λr3 G3 a3 b3 f3 s3=>?_⟩
 refine Jg [0,1,2,3,5,24] (s3 _ _ (f1.away J).1 J.at) a3 b3 λz hz=>?_;have xa:0<=z/\z<=24:=by simp only[Oc,Je,or_false]at hz;lia
 simp! only[Nb,ix_t (Fc _ _ _)];refine⟨by decide,?_⟩
 refine⟨.inl (by lia),?_⟩
 have g3:G3 p=ca (.lst []):=s3 _ _ O.1 (J.sa _ _ F.at);have S3:Sm f G G3:=(F.sa.sm.nw J).trans s3;obtain⟨R,hR,ja,Rn⟩:∃R:Nat,z*(if (!(ss.map Rb.u).isEmpty)=da then (1:Int) else 0)=(R:Int)/\R<=24/\(0<R->ss≠[]):=by
  by_cases e:ss=[]
  ·subst e;exact⟨0,by simp,by lia,λh=>absurd h (by lia)⟩
  ·have:(ss.map Rb.u).isEmpty=ia:=by cases ss with|nil=>exact absurd rfl e|cons=>rfl
   rw[this];obtain⟨m,rfl⟩:=pi xa.1;exact⟨m,by simp,by lia,λ_=>e⟩
 rw[hR];simp! only[];refine⟨by lia,by lia,?_⟩
 refine Df (λi ς G'=>∃ps o3 o4,ς=[ca (.loc f),ca (Nb xs ss),ca (.loc p),o3,o4]/\G' p=ca (.lst ps)/\(∀u∈ps,Pr ss.length u)/\ps.length=i/\Fn G' f c (n+1+10*i)/\Sm f G G') ?_ ?_ ⟨[],_,_,rfl,g3,λ_ h=>(nomatch h),rfl,f3,S3⟩
 ·rintro ς G4 ⟨ps,o3,o4,rfl,g4,hps,pl,f4,s4⟩;rw[Sf]at pl f4;refine⟨trivial,?_⟩;simp! only[];rw[it_l g4];exact q ps G4 hps (by lia) (f4.mono (by lia)) s4
 ·rintro i x ς G4 K hx ⟨ps,o3,o4,rfl,g4,hps,pl,f4,s4⟩ hk;obtain⟨hi,rfl⟩:=Kh hx;refine⟨trivial,?_⟩;simp! only[eK];refine Mc f4 (by lia) (by decide) (by decide) λra Ga aa ba fa sa=>Mc fa (by lia) (by decide) (by decide) λrb Gb ab bb fb sb=>⟨by decide,λpc Gc L=>Mc (fb.new L) (by lia) (by decide) (by decide) λrd Gd ad bd fd sd=>?_⟩
  refine Jg [1,1+ra,1+rb,999] (sd _ _ (fb.away L).1 L.at) ad bd λy hy=>?_;have Y:1<=y/\y<=999:=by simp only[Oc,Je,or_false]at hy;lia
  have I:Sm f G4 Gd:=((sa.trans sb).nw L).trans sd;have gd:=I _ _ O.1 g4;simp! only[Xo gd];refine eR (k:=k) fd (by lia) so sl w8 xl (Rn (by lia)) λus Ge za va ul fe se=>⟨by decide,?_⟩
  have ge:=se _ _ O.1 gd;rw[Ro ge];refine⟨Yg (show ps.length<=24 by lia) (by decide),λGf Z=>hk _ _ ⟨_,_,_,rfl,Z.at,λu hu=>?_,by rw[Ke,pl];rfl,(fe.off O Z).mono (by lia),λb o hb e=>Z.sm _ _ (λz=>?_) (se _ _ hb (I _ _ hb (s4 _ _ hb e)))⟩⟩
  ·rcases Oa.mp hu with hu|hu
   ·exact hps u hu
   ·rw[Ea.mp hu];exact⟨y,us,rfl,Y,za,ul⟩
  ·rw[z,F.no]at e;cases e

mutual
noncomputable def wt:Ma->Nat
 |.none=>5
 |.bool _=>5
 |.int _=>50
 |.str x=>10*x.length+2
 |.tuple y=>Cg y+3
 |.list y=>Cg y+3
 |.dict _=>2
noncomputable def Cg:List Ma->Nat
 |[]=>0
 |d::r=>wt d+2+Cg r
end
mutual
noncomputable def Dg (j:Nat):Ma->Prop
 |.none=>True
 |.bool _=>True
 |.int i=>i.natAbs<=10 ^ 39+j
 |.str x=>∀c∈x.cps.toList,c<16 ^ 8
 |.tuple y=>Gj j y
 |.list y=>Gj j y
 |.dict l=>l=[]
noncomputable def Gj (j:Nat):List Ma->Prop
 |[]=>True
 |d::r=>Dg j d/\Gj j r
end
def pW   : (tupleText ts).length<=Jt ts+3:=by
 have two:∀b:Bool,((((if b=da then ",)" else ")"):String):Str)).length<=2:=by decide
 have z:=two (ts.length==1);have one:(("(" : String):Str).length=1:=rfl
 have:=GR ts;simp only[tupleText,aB]at z ⊢
 lia
def cW   : (listText ts).length<=Jt ts+3:=by
 have:=pH ts 0 "["
 have one:(("[" : String):Str).length=1/\(("]" : String):Str).length=1:=⟨rfl,rfl⟩;simp only[listText,aB]
 lia
def ZS   (h:i.natAbs<10 ^ 45):Fits 50 0 (.int i):=by
 have y:i.natAbs.log2<1920:=by
  by_cases z:i.natAbs=0
  ·rw[z];decide
  ·exact Mf ((Nat.log2_lt z).mpr (Mf h (by decide:10 ^ 45<=2 ^ 160))) (by decide)
 refine⟨by simp[Gx,y],?_,ub _⟩
 simp only[Zk];have:=int_text_length_le10 (a:=i) (k:=45) (by decide) h
 show(PySem.Str.ofString (toString i)).length<=50;rw[ofString_length]
 lia
mutual
theorem rD {j:Nat}(y:j<=1000):∀{d:Ma},Dg j d->Fits (wt d) d.depth d
 |.none,_=>Fits.non.mono (by decide) (Me _)
 |.bool b,_=>(Fits.bl b).mono (ub _) (Me _)
 |.int i,h=>(ZS (Yg (show i.natAbs<=10 ^ 39+j from h) (Yg (Dx y _) (by decide)))).mono (ub _) (Me _)
 |.str x,h=>(Fits.str (m:=x.length) (ub _) h).mono (ub _) (Me _)
 |.tuple ds,h=>by
  obtain⟨F,z⟩:=Dy y (ds:=ds) h
  refine⟨by simp only[Gx];exact F,?_,ub _⟩
  simp only[Zk]
  exact Jb pW (Up z 3)
 |.list ds,h=>by
  obtain⟨F,z⟩:=Dy y (ds:=ds) h
  refine⟨by simp only[Gx];exact F,?_,ub _⟩
  simp only[Zk]
  exact Jb cW (Up z 3)
 |.dict l,h=>by
  have h:l=[]:=h
  subst h
  exact⟨Fits.dic.sh,Fits.dic.ln,ub _⟩
theorem Dy {j:Nat}(y:j<=1000):∀{ds:List Ma},Gj j ds->CK ds=da/\Jt (IK ds)<=Cg ds
 |[],_=>⟨rfl,ub _⟩
 |d::r,h=>by
  have f:=rD y (d:=d) h.1
  obtain⟨z,F⟩:=Dy y (ds:=r) h.2
  refine⟨by simp[CK,f.sh,z],?_⟩
  show Jt (d.shown::IK r)<=wt d+2+Cg r
  rw[piled_cons]
  have:=f.ln
  lia
end
structure Bx (w k j:Nat)(d:Ma):Prop where
 ok:Dg j d
 w:wt d<=w
 k:d.depth<=k
structure Cf (w k j:Nat)(ds:List Ma):Prop where
 ok:Gj j ds
 w:Cg ds<=w
 k:Rh ds<=k
theorem rp   : ∀{ds },Gj j ds↔∀d∈ds,Dg j d
 |[]=>⟨λ_ _ h=>(nomatch h),λ_=>trivial⟩
 |d::r=>by
  show(Dg j d/\Gj j r)↔_;rw[rp (ds:=r)];simp
theorem Fz  : ∀{ds } {d },d∈ds->d.depth<=Rh ds
 |e::r,d,h=>by
  show _<=max e.depth (Rh r);rcases Oc.mp h with rfl|h
  ·exact Nat.le_max_left _ _
  ·exact Jb (Fz h) (Nat.le_max_right _ _)
theorem VG  : ∀ds y ,Cg (ds++y)=Cg ds+Cg y
 |[],y=>by simp[Cg]
 |d::r,y=>by
  show wt d+2+Cg (r++y)=wt d+2+Cg r+Cg y;rw[VG r y];lia
section
variable {w w' k k' j j':Nat}{d:Ma}{ds es:List Ma}
def YF  (h:j<=j'):Dg j d->Dg j' d:=by
 intro hd;exact(go h d).1 hd
where
 go {j j':Nat} (h:j<=j') (d:Ma):(Dg j d->Dg j' d)/\True:=⟨λhd=>aux h hd,trivial⟩
 aux {j j':Nat} (h:j<=j'):∀{d:Ma},Dg j d->Dg j' d
  |.none,_=>trivial
  |.bool _,_=>trivial
  |.int i,hd=>Jb (show i.natAbs<=10 ^ 39+j from hd) (Dx h _)
  |.str _,hd=>hd
  |.tuple ds,hd=>auxA h (ds:=ds) hd
  |.list ds,hd=>auxA h (ds:=ds) hd
  |.dict _,hd=>hd
 auxA {j j':Nat} (h:j<=j'):∀{ds:List Ma},Gj j ds->Gj j' ds
  |[],_=>trivial
  |_::_,hd=>⟨aux h hd.1,auxA h hd.2⟩
def Bx.mono  (h:Bx w k j d)(F:w<=w')(z:k<=k')(I:j<=j'):Bx w' k' j' d:=⟨YF I h.ok,Jb h.w F,Jb h.k z⟩
def Bx.ft  (h:Bx w k j d)(z:j<=1000):Fits w k d:=(rD z h.ok).mono h.w h.k
def Cf.app  (h:Cf w k j ds)(h':Cf w' k j es):Cf (w+w') k j (ds++es):=by
 refine⟨rp.mpr λd hd=>?_,by rw[VG];exact Nat.add_le_add h.w h'.w,kA λd hd=>?_⟩<;>rcases Oa.mp hd with hd|hd
 ·exact rp.mp h.ok d hd
 ·exact rp.mp h'.ok d hd
 ·exact Jb (Fz hd) h.k
 ·exact Jb (Fz hd) h'.k
def Cf.one  (h:Bx w k j d):Cf (w+2) k j [d]:=⟨⟨h.ok,trivial⟩,Up h.w 2,kA λe z=>by rw[Ea.mp z];exact h.k⟩
def Cf.tup  (h:Cf w k j ds):Bx (w+3) (k+1) j (.tuple ds):=⟨h.ok,Up h.w 3,ut h.k⟩
def Cf.lst  (h:Cf w k j ds):Bx (w+3) (k+1) j (.list ds):=⟨h.ok,Up h.w 3,ut h.k⟩
def Cf.mono  (h:Cf w k j ds)(F:w<=w')(z:k<=k')(I:j<=j'):Cf w' k' j' ds:=⟨rp.mpr λd hd=>YF I (rp.mp h.ok d hd),Jb h.w F,Jb h.k z⟩
end

def Ob  (w k j:Nat)(G:Gp)(u:U):Prop:=∃d,Th G u d/\Bx w k j d
section
variable {k:Nat}{G G':Gp}{Q:K1}{X:KX}{f c p:Aa}{n w k0 j:Nat}{u:U}{d:Ma}{us:List U}{u1 u3 u4:Option U}
def Ob.sa  (h:Ob w k0 j G u)(s:Sa G G'):Ob w k0 j G' u:=let ⟨d,t,b⟩:=h;⟨d,t.sa s,b⟩
def Ob.mn  (h:Ob w k0 j G u)(z:Fn G f c n)(s:Sm f G G'):Ob w k0 j G' u:=let ⟨d,t,b⟩:=h;⟨d,t.mono z s,b⟩
noncomputable def hide  (G:Gp)(p:Aa):Gp:=λb=>if b=p then la else G b
def ij    : Sa (hide G p) G:=λb o e=>by
 unfold hide at e;split at e
 ·cases e
 ·exact e
def Sk     (e:G b=ca o)(h:b≠p):hide G p b=ca o:=by unfold hide;rw[if_neg h];exact e
def Sm.hide {f p:Aa}{G G':Gp}(s:Sm f G G'):Sm f (hide G p) (hide G' p):=λb o F e=>by
 by_cases z:b=p
 ·unfold Z.hide at e;rw[if_pos z]at e;cases e
 ·exact Sk (s b o F (ij b o e)) z
def Sa.hide {p:Aa}{G G':Gp}(s:Sa G G'):Sa (hide G p) (hide G' p):=λb o e=>by
 by_cases z:b=p
 ·unfold Z.hide at e;rw[if_pos z]at e;cases e
 ·exact Sk (s b o (ij b o e)) z
structure Hd (G:Gp)(p0 f c:Aa):Prop where
 nf:p0≠f
 nc:p0≠c
 ex:∃o,G p0=ca o
def Hd.sm   (h:Hd G p0 f c)(s:Sm f G G'):Hd G' p0 f c:=⟨h.nf,h.nc,let ⟨o,e⟩:=h.ex;⟨o,s _ _ h.nf e⟩⟩
def Fn.hide {z:Aa}(h:Fn G f c n)(hd:Hd G z f c):Fn (hide G z) f c n:=let ⟨F,a,l,t,L,J,I⟩:=h.ex;⟨F,a,l,t,Sk L (Ua hd.nf),Sk J (Ua hd.nc),I⟩
def Oh  (y:Aa)(w k j:Nat)(G:Gp)(u:U):Prop:=Ob w k j (hide G y) u
variable {p0:Aa}
def Oh.mn  (h:Oh p0 w k0 j G u)(z:Fn G f c n)(hd:Hd G p0 f c)(s:Sm f G G'):Oh p0 w k0 j G' u:=Ob.mn (G:=Z.hide G p0) h (z.hide hd) s.hide
end
def Hy   (h:i.natAbs<=10 ^ 39):Bx 50 0 0 (.int i):=⟨h,ub _,ub _⟩
def Wh.hid     (n:Wh G p o G'):Sa G (hide G' p):=λb u e=>Sk (n.sa _ _ e) λz=>by rw[z,n.no]at e;cases e
def Dh.hid     (n:Dh G p o G'):Sa (hide G p) (hide G' p):=λb u e=>by
 by_cases z:b=p
 ·unfold hide at e;rw[if_pos z]at e;cases e
 ·exact Sk (n.sm _ _ z (ij _ _ e)) z
structure Tl (G:Gp)(p f c:Aa)(us:List U)(n:Nat):Prop where
 g:G p=ca (.lst us)
 hd:Hd G p f c
 l:us.length<=n
 o:∀u∈us,Oh p 90000 20 0 G u
section
variable {G G':Gp}{u:U}{us vs:List U}{n m:Nat}{f c p:Aa}
def xP  (I:Fn G f c n)(g:G p=ca (.lst us)):p≠f:=λe=>by
 obtain⟨J,x,y,z,F,_⟩:=I.ex;rw[e,F]at g;cases g
def Tl.sm  (h:Tl G p f c us m)(z:Fn G f c n)(s:Sm f G G'):Tl G' p f c us m:=⟨s _ _ h.hd.nf h.g,h.hd.sm s,h.l,λu hu=>(h.o u hu).mn z h.hd s⟩
def Tl.app   (h:Tl G p f c us m)(F:Oh p 90000 20 0 G x)(w:Dh G p (.lst (us++[x])) G'):Tl G' p f c (us++[x]) (m+1):=by
 have s:∀{y:U},Oh p 90000 20 0 G y->Oh p 90000 20 0 G' y:=λo=>Ob.sa (G:=hide G p) o w.hid;refine⟨w.at,⟨h.hd.nf,h.hd.nc,_,w.at⟩,by rw[Ke];exact ut h.l,λy z=>?_⟩
 rcases Oa.mp z with z|z
 ·exact s (h.o y z)
 ·rw[Ea.mp z];exact s F
end

abbrev Wn:=List (Int×Int)
noncomputable def wu  (w:Int×Int):U:=.tup [.int w.1,.int w.2]
def Rc  (ws:Wn):U:=.tup (ws.map wu)
noncomputable def topO  (P:Int)(s:Rb):Int:=if s.lo+P-1<(if s.w = "span" then s.hi else P-s.hi) then s.lo+P-1 else if s.w = "span" then s.hi else P-s.hi
def winO  (P:Int)(ss:List Rb):Wn:=ss.map λs=>(s.lo,topO P s)
def Ir   {l:List Int}(g:G a=ca (.lst (l.map .int))):sumU [.loc a] G Q=Q (.int l.sum) G:=by
 unfold sumU;dsimp only;rw[g];dsimp only;rw[KF]
section
variable {k:Nat}{G:Gp}{Q:K1}{X:KX}{xs:List Str}{ss:List Rb}{ws:Wn}{P:Int}{W:Nat}{f c:Aa}
def OO  {i:Nat}(hs:ss[i]?=ca s)(h:s.Ok W)(q:Q (.int (if s.w = "span" then s.hi else P-s.hi)) G):Ta T (k+1) cG [Nb xs ss,.int P,.int i] G Q X:=by
 refine⟨rfl,?_⟩;simp! only[DF,Qb,Ab,Nb,ix_t (Fc _ _ _),ix_t (Tf hs),Rb.u];refine⟨trivial,?_⟩;rcases h.w with z|z
 ·rw[z,if_neg (by decide +kernel)]
  rw[z,if_neg (show ¬(("apart" : Str) = "span") by decide +kernel)]at q
  exact q
 ·rw[z,if_pos (by decide +kernel)]
  rw[z,if_pos rfl]at q;exact q
def EV  (L:∀s∈ss,s.Ok W)(R:ss.length<=24)(q:∀G',Sa G G'->Q (Rc (winO P ss)) G'):Ta T (k+3) bA [Nb xs ss,.int P] G Q X:=by
 refine⟨rfl,?_⟩;simp! only[yH,Qb,Ab,Nb,ix_t (Fc _ _ _),Bc];refine⟨by lia,by lia,by rw[Sf];exact Jb (show((ss.length:Int)).toNat<=24 by lia) (by decide),?_⟩
 refine Rg (λi y G'=>G'=G/\y=(winO P (ss.take i)).map wu) ?_ ?_ ⟨rfl,rfl⟩
 ·rintro y G' ⟨rfl,rfl⟩;rw[Sf,Ng];refine⟨trivial,λp J I=>?_⟩;dsimp only;rw[it_l I.at];exact q J I.sa
 ·rintro i x y G' K O ⟨rfl,rfl⟩ hk _;obtain⟨z,rfl⟩:=Kh O;have z:i<ss.length:=by lia
  have F:ss[i]?=ca ss[i]:=Sh z;refine⟨trivial,?_⟩;simp! only[];refine⟨rfl,?_⟩;simp! only[DH,Qb,Ab,Nb,ix_t (Fc _ _ _),ix_t (Tf F)];show tf (.tup [.str ss[i].w,.int ss[i].o,.int ss[i].t,.int ss[i].lo,.int ss[i].hi]) _ _ _;rw[ix_t (show atI [U.str ss[i].w,.int ss[i].o,.int ss[i].t,.int ss[i].lo,.int ss[i].hi] 3=ca (.int ss[i].lo)from rfl)];simp! only[];refine OO (xs:=xs) (P:=P) F (L _ (vt z)) ?_;simp! only[];refine⟨by decide,hk _ _ ⟨rfl,?_⟩⟩
  unfold winO;rw[Mg,F,ue,ue];rfl
def vF    (hs:s<ws.length)(wl:ws.length<=24)(q:Q (Rc (ws.set s w)) G):Ta T (k+1) AA [Rc ws,.int s,wu w] G Q X:=by
 refine⟨rfl,?_⟩;simp! only[PH,Qb,Ab,Rc];have z:cut (ws.map wu) la (ca (s:Int))=(ws.take s).map wu:=by rw[av,Ww]
 have F:cut (ws.map wu) (ca ((s:Int)+1)) la=(ws.drop (s+1)).map wu:=by
  have:=tz (ws.map wu) (s+1);rw[List.map_drop];exact this
 rw[z,F];refine⟨by decide,Jb (show _<=30 by simp;lia) (by decide),Jb (show _<=60 by simp;lia) (by decide),?_⟩
 have y:(ws.take s).map wu++[wu w]++(ws.drop (s+1)).map wu=(ws.set s w).map wu:=by
  rw[PL,if_pos hs];simp
 rw[y];exact q
def BV  {i:Nat}(hs:ss[i]?=ca s)(h:s.Ok W)(q:Q (wu (s.lo,topO P s)) G):Ta T (k+1) wI [Nb xs ss,.int P,.int i] G Q X:=by
 refine⟨rfl,?_⟩;simp! only[vH,Qb,Ab,Nb,ix_t (Fc _ _ _),ix_t (Tf hs),Rb.u];refine⟨trivial,?_⟩;unfold topO at q;rcases h.w with z|z
 ·rw[z,if_neg (by decide +kernel)]
  rw[z,if_neg (show ¬(("apart" : Str) = "span") by decide +kernel)]at q
  exact⟨by decide,q⟩
 ·rw[z,if_pos (by decide +kernel)]
  rw[z,if_pos rfl]at q;exact⟨by decide,q⟩
def bR  (L:∀s∈ss,s.Ok W)(R:ss.length<=24)(q:∀G',Sa G G'->Q (Rc (winO P ss)) G'):Ta T (k+2) oJ [Nb xs ss,.int P] G Q X:=by
 refine⟨rfl,?_⟩;simp! only[SJ,Qb,Ab,Nb,ix_t (Fc _ _ _),Bc];refine⟨by lia,by lia,by rw[Sf];exact Jb (show((ss.length:Int)).toNat<=24 by lia) (by decide),?_⟩
 refine Rg (λi y G'=>G'=G/\y=(winO P (ss.take i)).map wu) ?_ ?_ ⟨rfl,rfl⟩
 ·rintro y G' ⟨rfl,rfl⟩;rw[Sf,Ng];refine⟨trivial,λp J F=>?_⟩;dsimp only;rw[it_l F.at];exact q J F.sa
 ·rintro i x y G' K O ⟨rfl,rfl⟩ hk _;obtain⟨z,rfl⟩:=Kh O;have z:i<ss.length:=by lia
  have I:ss[i]?=ca ss[i]:=Sh z;refine⟨trivial,?_⟩;simp! only[];refine BV (xs:=xs) (P:=P) I (L _ (vt z)) (hk _ _ ⟨rfl,?_⟩);unfold winO;rw[Mg,I,ue,ue];rfl
def MF    (hs:s<ws.length)(wl:ws.length<=24)(q:Q (Rc (ws.set s (a,b))) G):Ta T (k+1) Uz [Rc ws,.int s,.int a,.int b] G Q X:=by
 refine⟨rfl,?_⟩;simp! only[gH,Qb,Ab,Rc];have z:cut (ws.map wu) la (ca (s:Int))=(ws.take s).map wu:=by rw[av,Ww]
 have F:cut (ws.map wu) (ca ((s:Int)+1)) la=(ws.drop (s+1)).map wu:=by
  have:=tz (ws.map wu) (s+1);rw[List.map_drop];exact this
 rw[z,F];refine⟨by decide,by decide,Jb (show _<=30 by simp;lia) (by decide),Jb (show _<=60 by simp;lia) (by decide),?_⟩
 have y:(ws.take s).map wu++[U.tup [.int a,.int b]]++(ws.drop (s+1)).map wu=(ws.set s (a,b)).map wu:=by
  rw[PL,if_pos hs];simp[wu]
 rw[y];exact q
end

noncomputable def bt  (bs:List Int)(x:Int):Int:=bs.getD x.toNat 0
def Vu  {bs:List Int}{x:Int}(h0:0<=x)(z:x<bs.length):atI (bs.map U.int) x=ca (.int (bt bs x)):=by
 obtain⟨j,rfl⟩:=pi h0;have y:j<bs.length:=by lia
 have:bs[j]?=ca (bt bs (j:Int)):=by unfold bt;simp[Hf,y]
 exact Tf this
def Nh  (bs:List Int)(ws:Wn):U->Int×Int
 |.tup [_,.int a,.int b]=>(bt bs b-bt bs a,bt bs b-bt bs a)
 |.tup [.int s,.int y]=>if y=1 then ws.getD s.toNat (0,0) else (-(ws.getD s.toNat (0,0)).2,-(ws.getD s.toNat (0,0)).1)
 |_=>(0,0)
def Ck  (bs:List Int)(ws:Wn)(r:List U):Int:=(r.map λv=>(Nh bs ws v).1).sum
def Ul  (bs:List Int)(ws:Wn)(r:List U):Int:=(r.map λv=>(Nh bs ws v).2).sum
def barB  (P:Int)(bs:List Int)(ws:Wn)(r:List U):Bool:=decide (Ul bs ws r/P*P<Ck bs ws r)

def rT  {ss: List Rb}(wl:ws.length=ss.length)(hs:∀z∈st,0<=z/\z<bs.length)(R:entB ss.length st v=da)(q:Q (mf (Nh bs ws v)) G):Ta T (k+1) uI [Tc bs,Rc ws,v] G Q X:=by
 refine⟨rfl,?_⟩;rcases Tv R with⟨a,b,rfl,O,L⟩|⟨s,y,rfl,hs',hy⟩
 ·have J:=hs a O;have I:=hs b L;simp! only[jA,Qb,Ab,Tc,ix_t (Fc _ _ _),ix_t (nD _ _ _ _),ix_t (Vu J.1 J.2),ix_t (Vu I.1 I.2)];exact⟨by decide,q⟩
 ·have F:s<ws.length:=by lia
  have Y:ws[s]?=ca ws[s]:=Sh F;have eg:ws.getD s (0,0)=ws[s]:=by simp[Hf,F]
  simp! only[jA,Qb,Ab,Rc,ix_t (Tf Y),wu];refine⟨trivial,trivial,?_⟩;have Z:Nh bs ws (.tup [.int (s:Int),.int y])=if y=1 then ws[s] else (-ws[s].2,-ws[s].1):=by
   show(if y=1 then ws.getD ((s:Int)).toNat (0,0) else _)=_
   rw[Kn,eg]
  rw[Z]at q;rcases hy with rfl|rfl
  ·rw[if_pos (by decide)]
   exact⟨by decide,q⟩
  ·rw[if_neg (by decide)]
   exact⟨by decide,q⟩
def uF  (wl:ws.length=ss.length)(hs:∀z∈st,0<=z/\z<bs.length)(hr:∀v∈r,entB ss.length st v=da)(L:r.length<=60)(q:∀G',Sa G G'->Q (.tup [.int (Ck bs ws r),.int (Ul bs ws r)]) G'):Ta T (k+2) Nz [Nb xs ss,.int P,Tc bs,Rc ws,.tup r] G Q X:=by
 refine⟨rfl,?_⟩;simp! only[sG,Qb,Ab];refine⟨Jb L (by decide),?_⟩
 refine Xr (λv=>mf (Nh bs ws v)) trivial (λv R K F=>?_) ?_
 ·simp! only[];exact rT wl hs (hr v R) F
 intro p1 Z y;rw[Dl]at y;simp! only[it_l y.at];refine⟨by rw[Bc];exact Jb L (by decide),?_⟩
 refine Xr (λu=>match u with|.tup [a,_]=>a|u=>u) (by unfold Ad;rw[y.at]) (λu hu K F=>?_) ?_
 ·obtain⟨e,O,rfl⟩:=Fb.mp hu;simp! only[mf];exact⟨trivial,F⟩
 intro p2 G2 I;have t1:[]++(r.map λv=>mf (Nh bs ws v)).map (λu=>match u with|.tup [a,_]=>a|u=>u)=(r.map λv=>(Nh bs ws v).1).map .int:=by
  rw[Dl,gk,gk];rfl
 rw[t1]at I;rw[Ir I.at,it_l (I.sa _ _ y.at)];refine⟨by rw[Bc];exact Jb L (by decide),?_⟩
 refine Xr (λu=>match u with|.tup [_,b]=>b|u=>u) (by unfold Ad;rw[I.sa _ _ y.at]) (λu hu K F=>?_) ?_
 ·obtain⟨e,O,rfl⟩:=Fb.mp hu;simp! only[mf];exact⟨trivial,F⟩
 intro p3 Y J;have t2:[]++(r.map λv=>mf (Nh bs ws v)).map (λu=>match u with|.tup [_,b]=>b|u=>u)=(r.map λv=>(Nh bs ws v).2).map .int:=by
  rw[Dl,gk,gk];rfl
 rw[t2]at J;rw[Ir J.at];exact⟨by decide,q Y ((y.sa.trans I.sa).trans J.sa)⟩
def XQ  (wl:ws.length=ss.length)(hs:∀z∈st,0<=z/\z<bs.length)(hr:∀v∈r,entB ss.length st v=da)(F:r.length<=60)(J:1<=P)(I:P<=600)(q:∀G',Sa G G'->Q (.bl (barB P bs ws r)) G'):Ta T (k+3) HH [Nb xs ss,.int P,Tc bs,Rc ws,.tup r] G Q X:=by
 refine⟨rfl,?_⟩;simp! only[CH,Qb,Ab];refine uF wl hs hr F λy s1=>?_;simp! only[];exact⟨trivial,by lia,by lia,.inr (by constructor<;>lia),q y s1⟩
def LF  {ss: List Rb}(wl:ws.length=ss.length)(hs:∀z∈st,0<=z/\z<bs.length)(hr:∀v∈r,entB ss.length st v=da)(q:∀G',Sa G G'->Q (.tup [.int (Ck bs ws r),.int (Ul bs ws r)]) G'):Ta T (k+1) xA [Tc bs,Rc ws,.tup r] G Q X:=by
 refine⟨rfl,?_⟩;simp! only[LH,Qb,Ab];refine⟨by decide,?_⟩
 simp! only[SI];refine Df (λi O G'=>∃(o4 o5 o6 o7:Option U),O=[ca (Tc bs),ca (Rc ws),ca (.tup r),ca (mf (Ck bs ws (r.take i),Ul bs ws (r.take i))),o4,o5,o6,o7]/\Sa G G') ?_ ?_ ⟨_,_,_,_,rfl,Sa.refl⟩
 ·rintro O G' ⟨o4,o5,o6,o7,rfl,s1⟩;rw[Ng];refine⟨trivial,?_⟩;simp! only[TJ];exact q G' s1
 ·rintro i x O G' K L ⟨o4,o5,o6,o7,rfl,s1⟩ hk;have he:=hr x (Ze L);have I:Ck bs ws (r.take (i+1))=Ck bs ws (r.take i)+(Nh bs ws x).1:=by unfold Ck;rw[Mg,L];simp
  have F:Ul bs ws (r.take (i+1))=Ul bs ws (r.take i)+(Nh bs ws x).2:=by unfold Ul;rw[Mg,L];simp
  refine⟨trivial,?_⟩;rcases Tv he with⟨a,b,rfl,ha,hb⟩|⟨s,y,rfl,hs',hy⟩
  ·have Z:=hs a ha;have Y:=hs b hb;simp! only[];rw[if_pos (by decide)]
   simp! only[Tc,ix_t (Fc _ _ _),ix_t (nD _ _ _ _),ix_t (Vu Z.1 Z.2),ix_t (Vu Y.1 Y.2),mf];refine⟨by decide,by simp,by decide,by decide,by decide,?_⟩
   simp! only[ix_t (He _ _),ix_t (Fc _ _ _)];refine⟨by decide,hk _ _ ⟨?w04,?w05,?w06,?w07,?e,s1⟩⟩
   case e=>
    rw[I,F,show(Nh bs ws (.tup [.str "home",.int a,.int b]))=(bt bs b-bt bs a,bt bs b-bt bs a)from rfl];rfl
  ·have R:s<ws.length:=by lia
   have ew:ws[s]?=ca ws[s]:=Sh R;have eg:ws.getD s (0,0)=ws[s]:=by simp[Hf,R]
   have e2:Nh bs ws (.tup [.int (s:Int),.int y])=if y=1 then ws[s] else (-ws[s].2,-ws[s].1):=by
    show(if y=1 then ws.getD ((s:Int)).toNat (0,0) else _)=_
    rw[Kn,eg]
   rw[e2]at I F;simp! only[];rw[if_neg (by decide)]
   simp! only[ix_t (He _ _),Rc,ix_t (Tf ew),wu];refine⟨trivial,by decide,by decide,by decide,λp2 G2 J=>?_⟩
   simp! only[ix_t (Fc _ _ _)];rcases hy with rfl|rfl
   ·rw[if_neg (by decide),ix_l J.at (show atI _ (0:Int)=ca _ from He _ _)]
    simp! only[mf,ix_t (He _ _),ix_t (Fc _ _ _)];refine⟨by decide,hk _ _ ⟨?w14,?w15,?w16,?w17,?e,s1.trans J.sa⟩⟩
    case e=>rw[I,F];rfl
   ·rw[if_pos (by decide),ix_l J.at (show atI _ (1:Int)=ca _ from Fc _ _ _)]
    simp! only[mf,ix_t (He _ _),ix_t (Fc _ _ _)];rw[Int.zero_sub,Int.zero_sub];refine⟨by decide,hk _ _ ⟨?w24,?w25,?w26,?w27,?e,s1.trans J.sa⟩⟩
    case e=>rw[I,F];rfl
def fQ  {a b:Int}(h:1<=P):decide (b<(a+P-1)/P*P)=decide (b/P*P<a):=by
 rw[ak,decide_eq_true_eq,decide_eq_true_eq];have O:=Al (a+P-1) (show P≠0 by lia)
 have R:=zl (a+P-1) (show 0<P by lia)
 have L:=Al b (show P≠0 by lia)
 have J:=zl b (show 0<P by lia)
 have F:=Fx (a+P-1) P;have I:=Fx b P;rw[Int.mul_comm]at F I;generalize (a+P-1)/P=x at *;generalize b/P=y at *;generalize (a+P-1)%P=u at *;generalize b%P=v at *;constructor
 ·intro z;by_cases c:a<=y*P
  ·exfalso;have:x<=y:=by
    by_cases c2:x<=y
    ·exact c2
    ·have:(y+1)*P<=x*P:=Zp (by lia) (by lia)
     rw[kB,Int.one_mul]at this
     lia
   have:x*P<=y*P:=Zp this (by lia)
   lia
  ·lia
 ·intro z;have:y<x:=by
   by_cases c2:y<x
   ·exact c2
   ·have:x*P<=y*P:=Zp (by lia) (by lia)
    lia
  have:(y+1)*P<=x*P:=Zp (by lia) (by lia)
  rw[kB,Int.one_mul]at this
  lia
def zV  {ss: List Rb}(wl:ws.length=ss.length)(hs:∀z∈st,0<=z/\z<bs.length)(hr:∀v∈r,entB ss.length st v=da)(F:1<=P)(I:P<=600)(q:∀G',Sa G G'->Q (.bl (barB P bs ws r)) G'):Ta T (k+2) HI [.int P,Tc bs,Rc ws,.tup r] G Q X:=by
 refine⟨rfl,?_⟩;simp! only[lJ,Qb,Ab];refine LF wl hs hr λy s1=>?_;simp! only[];refine⟨trivial,rfl,?_⟩;simp! only[uz,Qb,Ab];have:=q y s1;unfold barB at this;rw[<- fQ F]at this;exact⟨by lia,by lia,.inr (by constructor<;>lia),this⟩

noncomputable def sg  (e:Nat×Int):U:=.tup [.int e.1,.int e.2]
def lh  (p:Int×List (Nat×Int)):U:=.tup [.int p.1,.tup (p.2.map sg)]
noncomputable def Eg  (p:Int)(l:List Int)(r:List (Nat×Int)):List Int:=r.foldl (λl e=>l.set e.1 (l.getD e.1 0-p*e.2)) l
def lf  (l:List Int)(ps:List (Int×List (Nat×Int))):List Int:=ps.foldl (λl p=>Eg p.1 l p.2) l
structure EnOk (n:Nat)(e:Nat×Int):Prop where
 s:e.1<n
 y:e.2=1\/e.2=-1
structure PrOk (n:Nat)(p:Int×List (Nat×Int)):Prop where
 pr:1<=p.1/\p.1<=999
 r:∀e∈p.2,EnOk n e
 l:p.2.length<=60
theorem gF   : ∀{us },us.all (entB n [])=da->∃r:List (Nat×Int),us=r.map sg/\∀e∈r,EnOk n e
 |[],_=>⟨[],rfl,λ_ h=>(nomatch h)⟩
 |u::us,h=>by
  rw[Bh,Lc]at h;obtain⟨r,rfl,F⟩:=gF h.2;rcases Tv h.1 with⟨a,b,rfl,I,_⟩|⟨s,y,rfl,hs,hy⟩
  ·exact(nomatch I)
  ·refine⟨(s,y)::r,rfl,λe z=>?_⟩;rcases Oc.mp z with rfl|z
   ·exact⟨hs,hy⟩
   ·exact F e z
theorem Qz   : ∀{us },us.all (Ig ss)=da->∃ps:List (Int×List (Nat×Int)),us=ps.map lh/\∀p∈ps,PrOk ss.length p
 |[],_=>⟨[],rfl,λ_ h=>(nomatch h)⟩
 |u::us,h=>by
  rw[Bh,Lc]at h;obtain⟨ps,rfl,O⟩:=Qz h.2;have F:=h.1;unfold Ig at F;split at F
  ·rename_i p r;rw[Lc]at F;obtain⟨z,y⟩:=F;cases p with
   |int p=>
    have z:(decide (1<=p)&&decide (p<=999))=da:=z;rw[Lc,decide_eq_true_eq,decide_eq_true_eq]at z;cases r with
    |tup I=>
     have y:(decide (1<=I.length/\I.length<=60)&&(I.all (entB ss.length [])&&oh (I.map (endZ ss))))=da:=y;rw[Lc,Lc,decide_eq_true_eq]at y;obtain⟨r,rfl,L⟩:=gF y.2.1;refine⟨(p,r)::ps,rfl,λe J=>?_⟩;rcases Oc.mp J with rfl|J
     ·exact⟨z,L,by have:=y.1.2;rwa [Bc]at this⟩
     ·exact O e J
    |_=>cases y
   |_=>cases z
  ·cases F
def Bd  (B:Int)(l:List Int):Prop:=∀i,-B<=l.getD i 0/\l.getD i 0<=B
def Bd.step      (h:Bd B l)(J:1<=p/\p<=999)(z:EnOk n e):Bd (B+999) (l.set e.1 (l.getD e.1 0-p*e.2)):=λi=>by
 have F:=h i;have I:=h e.1;have L:p*e.2=p\/p*e.2=-p:=by rcases z.y with h|h<;>rw[h]<;>lia
 by_cases c:e.1=i
 ·subst c;by_cases c2:e.1<l.length
  ·have:(l.set e.1 (l.getD e.1 0-p*e.2)).getD e.1 0=l.getD e.1 0-p*e.2:=by simp[Hf,c2]
   rw[this];lia
  ·have:l.set e.1 (l.getD e.1 0-p*e.2)=l:=List.set_eq_of_length_le (by lia)
   rw[this];lia
 ·have:(l.set e.1 (l.getD e.1 0-p*e.2)).getD i 0=l.getD i 0:=by simp[Hf,uj c]
  rw[this];lia
def Bd.mono    (h:Bd B l)(e:B<=C):Bd C l:=λi=>by have:=h i;lia
theorem Bv    (y:1<=p/\p<=999):∀{r } {l } {B },(∀e∈r,EnOk n e)->Bd B l->Bd (B+999*r.length) (Eg p l r)/\(Eg p l r).length=l.length
 |[],l,B,_,h=>⟨h.mono (by simp),rfl⟩
 |e::r,l,B,he,h=>by
  have F:=h.step y (he e Uf);have:=Bv y (r:=r) (λx z=>he x (Le _ z)) F;refine⟨?_,?_⟩
  ·exact this.1.mono (by rw[pj];lia)
  ·show(Eg p (l.set e.1 (l.getD e.1 0-p*e.2)) r).length=_;rw[this.2,Mp]
theorem Oo   : ∀{ps } {l } {B },(∀p∈ps,PrOk n p)->Bd B l->Bd (B+60000*ps.length) (lf l ps)/\(lf l ps).length=l.length
 |[],l,B,_,h=>⟨h.mono (by simp),rfl⟩
 |p::ps,l,B,hp,h=>by
  have h0:=hp p Uf;have y:=Bv h0.pr h0.r h;have F:=h0.l;have:=Oo (ps:=ps) (λx z=>hp x (Le _ z)) (y.1.mono (show _<=B+60000 by lia))
  refine⟨?_,?_⟩
  ·exact this.1.mono (by rw[pj];lia)
  ·show(lf (Eg p.1 l p.2) ps).length=_;rw[this.2,y.2]

def zN          : denS gs Δ (.augS o i p e) D I G=(Ra gs Δ o).1 I G (λx F=>(Ra gs Δ i).1 I F (λy O=>Mo x y O λa Y=>(Ra gs Δ e).1 I Y (λb R=>fj p a b R λz L=>setU x y z L λJ=>D.nx I J) λx F=>D.ex x I F) λx F=>D.ex x I F) λx F=>D.ex x I F:=rfl
def TM   {l:List Int}(g:G a=ca (.lst (l.map .int)))(h:s<l.length)(q:Q (.int (l.getD s 0)) G):Mo (.loc a) (.int s) G Q:=by
 unfold Mo;dsimp only;rw[g];dsimp only;rw[Kn,Lf,Sh h];refine⟨by lia,?_⟩
 have:l.getD s 0=l[s]:=by simp[Hf,h]
 rw[this]at q;exact q
def AD   {l:List Int}(g:G a=ca (.lst (l.map .int)))(h:s<l.length)(q:∀G',Dh G a (.lst ((l.set s z).map .int)) G'->Q G'):setU (.loc a) (.int s) (.int z) G Q:=by
 unfold setU;dsimp only;rw[g];dsimp only;rw[DR (show s<(l.map U.int).length by rw[Bc];exact h)]
 dsimp only;rw[show(l.map U.int).set s (.int z)=(l.set s z).map .int by rw[List.map_set]]
 exact λG' p=>q G' p
def bG    {r:List (Nat×Int)}(h:r[j]?=ca e):Eg p l (r.take (j+1))=(Eg p l (r.take j)).set e.1 ((Eg p l (r.take j)).getD e.1 0-p*e.2):=by
 unfold Eg;rw[Mg,h,BK,GK];rfl
def zF   {ps:List (Int×List (Nat×Int))}(h:ps[j]?=ca p):lf l (ps.take (j+1))=Eg p.1 (lf l (ps.take j)) p.2:=by
 unfold lf;rw[Mg,h,BK,GK];rfl

def ZQ  (Y:∀p∈ps,PrOk wts.length p)(wl:wts.length<=24)(Z:Bd 100 wts)(q:∀a G',Sa G G'->G a=la->G' a=ca (.lst ((lf wts ps).map .int))->Q (.loc a) G'):Ta T (k+1) BG [Tc wts,.tup (ps.map lh)] G Q X:=by
 refine⟨rfl,?_⟩;simp! only[rG,Qb,Ab,Tc];refine λa G1 L=>?_;simp! only[nH];refine Df (λi I G'=>∃o3 o4 o5 o6,I=[ca (.tup (wts.map .int)),ca (.tup (ps.map lh)),ca (.loc a),o3,o4,o5,o6]/\Sa G G'/\G' a=ca (.lst ((lf wts (ps.take i)).map .int))) ?_ ?_ ⟨_,_,_,_,rfl,L.sa,L.at⟩
 ·rintro I G' ⟨o3,o4,o5,o6,rfl,s1,g1⟩;rw[Bc,Ng]at g1;refine⟨trivial,?_⟩;simp! only[oH];exact q a G' s1 L.no g1
 ·rintro i x I G' K z ⟨o3,o4,o5,o6,rfl,s1,g1⟩ hk;rw[Lf]at z;cases O:ps[i]? with
  |none=>rw[O]at z;cases z
  |some p=>
   rw[O]at z;cases z;have F:=Y p (Ze O);have hl:=(Oo (ps:=ps.take i) (n:=wts.length) (λx z=>Y x (yn z)) Z).2;refine⟨trivial,?_⟩;rw[show lh p=.tup [.int p.1,.tup (p.2.map sg)]from rfl];simp! only[];refine⟨trivial,?_⟩;refine Df (λj I G'=>∃o5 o6,I=[ca (.tup (wts.map .int)),ca (.tup (ps.map lh)),ca (.loc a),ca (.int p.1),ca (.tup (p.2.map sg)),o5,o6]/\Sa G G'/\G' a=ca (.lst ((Eg p.1 (lf wts (ps.take i)) (p.2.take j)).map .int))) ?_ ?_ ⟨_,_,rfl,s1,g1⟩
   ·rintro I G2 ⟨o5,o6,rfl,s2,g2⟩;rw[Bc,Ng,<- zF O]at g2;exact⟨trivial,hk _ _ ⟨_,_,_,_,rfl,s2,g2⟩⟩
   ·rintro j y I G2 K2 J ⟨o5,o6,rfl,s2,g2⟩ hk2;rw[Lf]at J;cases R:p.2[j]? with
    |none=>rw[R]at J;cases J
    |some e=>
     rw[R]at J;cases J;have he:=F.r e (Ze R);have xa:(Eg p.1 (lf wts (ps.take i)) (p.2.take j)).length=(lf wts (ps.take i)).length:=by
      have bd:=(Oo (ps:=ps.take i) (n:=wts.length) (λx z=>Y x (yn z)) Z).1;exact(Bv (n:=wts.length) F.pr (λx z=>F.r x (yn z)) bd).2
     have hs:=he.s;refine⟨trivial,?_⟩;rw[show sg e=.tup [.int e.1,.int e.2]from rfl];simp! only[];refine⟨trivial,?_⟩;simp! only[zN];refine TM g2 (by lia) ⟨.inl (by have:=F.pr;constructor<;>lia),?_⟩
     refine AD g2 (by lia) λG3 p3=>?_
     refine hk2 _ _ ⟨_,_,rfl,λb o e=>p3.sm _ _ (λy=>by rw[y,L.no]at e;cases e) (s2 _ _ e),?_⟩
     rw[bG R];exact p3.at

noncomputable def Vf  (ss:List Rb)(s:Nat):Int:=(ss.getD s ⟨"",0,0,0,0⟩).lo
def Sl  (ss:List Rb)(ws:Wn)(l:List Int)(i:Nat):Int:=l.getD i 0*((if 0<=l.getD i 0 then (ws.getD i (0,0)).1 else (ws.getD i (0,0)).2)-Vf ss i)
def Po  (ss:List Rb)(r:List (Nat×Int)):Int:=(r.map λe=>e.2*Vf ss e.1).sum
def Xi  (P:Int)(ss:List Rb)(ws:Wn)(p:Int×List (Nat×Int)):Int:=p.1*((Ck [] ws (p.2.map sg)+P-1)/P*P-Po ss p.2)
def Ak  (P:Int)(ss:List Rb)(ws:Wn)(y:List Int)(ps:List (Int×List (Nat×Int))):Int:=((Be ss.length).map (Sl ss ws (lf y ps))).sum+(ps.map (Xi P ss ws)).sum
def OR   (h:1<=P):-(-a/P)=(a+P-1)/P:=by
 have L:=Al (a+P-1) (show P≠0 by lia)
 have O:=zl (a+P-1) (show 0<P by lia)
 have J:=Al (-a) (show P≠0 by lia)
 have I:=zl (-a) (show 0<P by lia)
 have z:=Fx (a+P-1) P;have F:=Fx (-a) P;rw[Int.mul_comm]at z F;generalize (a+P-1)/P=y at *;generalize -a/P=x at *;generalize (a+P-1)%P=u at *;generalize -a%P=v at *;have e:(y+x)*P=y*P+x*P:=kB y x P;by_cases c:y+x<=-1
 ·have:(y+x)*P<=(-1)*P:=Zp c (by lia)
  lia
 ·by_cases c2:1<=y+x
  ·have:1*P<=(y+x)*P:=Zp c2 (by lia)
   lia
  ·lia

def VD  {r:List (Nat×Int)}(hr:∀e∈r,EnOk n e):∀v∈r.map sg,entB n [] v=da:=λv y=>by
 obtain⟨e,z,rfl⟩:=Fb.mp y;have h:=hr e z;show((decide (0<=(e.1:Int))&&decide ((e.1:Int)<=(n:Int)-1))&&(decide (e.2=1)||decide (e.2=-1)))=da;have:=h.s;rw[decide_eq_true (by lia),decide_eq_true (by lia)]
 rcases h.y with h|h<;>rw[h]<;>rfl
def Wu  {ss: List Rb}(hs:s<ss.length):atI (ss.map Rb.u) (s:Int)=ca (.tup [.str (ss.getD s ⟨"",0,0,0,0⟩).w,.int (ss.getD s ⟨"",0,0,0,0⟩).o,.int (ss.getD s ⟨"",0,0,0,0⟩).t,.int (Vf ss s),.int (ss.getD s ⟨"",0,0,0,0⟩).hi]):=Tf (f:=Rb.u) (zy hs)
def vT   (wl:ws.length=ss.length)(z:PrOk ss.length p)(R:1<=P)(O:P<=600)(q:∀G',Sa G G'->Q (.int (Xi P ss ws p)) G'):Ta T (k+3) JI [Nb xs ss,.int P,Rc ws,.int p.1,.tup (p.2.map sg)] G Q X:=by
 refine⟨rfl,?_⟩;simp! only[EI,Qb,Ab];refine⟨by decide,?_⟩
 refine uF (k:=k) (bs:=[]) (st:=[]) wl (λ_ h=>(nomatch h)) (VD z.r) (by rw[Bc];exact z.l) λY s1=>?_
 simp! only[];refine⟨trivial,?_⟩;simp! only[sJ];refine⟨by lia,by lia,?_⟩
 rw[OR R];simp! only[tJ];refine⟨by rw[Bc];exact Jb z.l (by decide),?_⟩
 refine Xr (λu=>match u with|.tup [.int s,.int y]=>.int (y*Vf ss s.toNat)|u=>u) trivial (λu hu K I=>?_) λO L F=>?_
 ·obtain⟨e,J,rfl⟩:=Fb.mp hu;have h:=z.r e J;rw[show sg e=.tup [.int e.1,.int e.2]from rfl]at I ⊢;simp! only[Nb,ix_t (Fc _ _ _),ix_t (Wu h.s)];rw[ix_t (show atI [U.str (ss.getD e.1 ⟨"",0,0,0,0⟩).w,.int (ss.getD e.1 ⟨"",0,0,0,0⟩).o,.int (ss.getD e.1 ⟨"",0,0,0,0⟩).t,.int (Vf ss e.1),.int (ss.getD e.1 ⟨"",0,0,0,0⟩).hi] 3=ca (.int (Vf ss e.1))from rfl)];refine⟨trivial,.inl ?_,I⟩;rcases h.y with h|h<;>rw[h]<;>constructor<;>decide
 ·have e:[]++(p.2.map sg).map (λu=>match u with|.tup [.int s,.int y]=>.int (y*Vf ss s.toNat)|u=>u)=(p.2.map λe=>e.2*Vf ss e.1).map U.int:=by
   rw[Dl,gk,gk];rfl
  rw[e]at F;dsimp only;rw[Ir F.at];exact⟨.inr (by constructor<;>lia),.inl (by have:=z.pr;constructor<;>lia),q L (s1.trans F.sa)⟩


def tT  (wl:ws.length=ss.length)(el:wts.length=ss.length)(sl:ss.length<=24)(hw:Bd 100 wts)(R:∀p∈ps,PrOk ss.length p)(pl:ps.length<=24)(p1:1<=P)(p2:P<=600)(q:∀G',Sa G G'->Q (.int (Ak P ss ws wts ps)) G'):Ta T (k+4) LG [Nb xs ss,.int P,Tc wts,Rc ws,.tup (ps.map lh)] G Q X:=by
 have hl:=Oo (ps:=ps) (n:=ss.length) R hw;refine⟨rfl,?_⟩;simp! only[iH,Qb,Ab];refine ZQ (k:=k+2) (by rw[el];exact R) (by lia) hw λa G1 s1 na g1=>?_
 simp! only[iI,Nb,ix_t (Fc _ _ _),Bc];refine⟨by lia,by lia,by rw[Sf];exact Jb (show((ss.length:Int)).toNat<=24 by lia) (by decide),?_⟩
 refine Rg (λi y G'=>G'=G1/\y=((Be i).map (Sl ss ws (lf wts ps))).map .int) ?_ ?_ ⟨rfl,rfl⟩
 ·rintro y G' ⟨rfl,rfl⟩;rw[Sf];refine⟨trivial,λpa G2 n2=>?_⟩;simp! only[jI];refine⟨by rw[Bc];exact Jb pl (by decide),?_⟩
  refine Rg (λi y G'=>Sa G2 G'/\y=((ps.take i).map (Xi P ss ws)).map .int) ?_ ?_ ⟨Sa.refl,rfl⟩
  ·rintro y G3 ⟨s3,rfl⟩;rw[Bc,Ng];refine⟨trivial,λpb Z Y=>?_⟩;simp! only[kI];rw[Ir (Y.sa _ _ (s3 _ _ n2.at)),Ir Y.at];exact q Z ((s1.trans n2.sa).trans (s3.trans Y.sa))
  ·rintro i x y G3 K F ⟨s3,rfl⟩ hk _;rw[Lf]at F;cases J:ps[i]? with
   |none=>rw[J]at F;cases F
   |some p=>
    rw[J]at F;cases F;refine⟨trivial,?_⟩;rw[show lh p=.tup [.int p.1,.tup (p.2.map sg)]from rfl];simp! only[];refine⟨trivial,?_⟩;refine vT (k:=k) wl (R p (Ze J)) p1 p2 λZ s4=>hk _ _ ⟨s3.trans s4,?_⟩;rw[Mg,J,ue,ue];rfl
 ·rintro i x y G' K F ⟨rfl,rfl⟩ hk _;obtain⟨O,rfl⟩:=Kh F;have O:i<ss.length:=by lia
  have iw:i<ws.length:=by lia
  have ew:ws[i]?=ca (ws.getD i (0,0)):=by simp[Hf,iw]
  have il:i<(lf wts ps).length:=by rw[hl.2,el];exact O
  have L:atI ((lf wts ps).map U.int) (i:Int)=ca (.int ((lf wts ps).getD i 0)):=Tf (by simp[Hf,il])
  have bd:=hl.1 i;refine⟨trivial,?_⟩;simp! only[Nb,ix_t (Fc _ _ _),ix_t (Wu O)];rw[ix_t (show atI [U.str (ss.getD i ⟨"",0,0,0,0⟩).w,.int (ss.getD i ⟨"",0,0,0,0⟩).o,.int (ss.getD i ⟨"",0,0,0,0⟩).t,.int (Vf ss i),.int (ss.getD i ⟨"",0,0,0,0⟩).hi] 3=ca (.int (Vf ss i))from rfl)];rw[show Rc ws=.tup (ws.map wu)from rfl];simp! only[ix_t (Tf ew),ix_l g1 L];refine⟨rfl,?_⟩;simp! only[FI,Qb,Ab];rw[show wu (ws.getD i (0,0))=.tup [.int (ws.getD i (0,0)).1,.int (ws.getD i (0,0)).2]from rfl];simp! only[];refine⟨trivial,?_⟩;have I:∀z:Int,z=(if 0<=(lf wts ps).getD i 0 then (ws.getD i (0,0)).1 else (ws.getD i (0,0)).2)->CMul ((lf wts ps).getD i 0) (z-Vf ss i)/\K (ca (.int ((lf wts ps).getD i 0*(z-Vf ss i)))) G':=λz hz=>by
   refine⟨.inl (by constructor<;>lia),hk _ _ ⟨rfl,?_⟩⟩
   rw[hz,jt,ue,ue];rfl
  by_cases c:0<=(lf wts ps).getD i 0
  ·rw[if_pos (by simpa using c)]
   exact I _ (by rw[if_pos c])
  ·rw[if_neg (by simpa using c)]
   exact I _ (by rw[if_neg c])


def NO   (y:1<=P)(z:P<=600)(q:Q (.int ((a+P-1)/P*P)) G):Ta T (k+1) Dz [.int P,.int a] G Q X:=by
 refine⟨rfl,?_⟩;simp! only[uz,Qb,Ab];exact⟨by lia,by lia,.inr (by constructor<;>lia),q⟩
def PU  (wl:ws.length=ss.length)(Z:wts.length=ss.length)(sl:ss.length<=24)(hw:Bd 100 wts)(hp:∀p∈ps,PrOk ss.length p)(pl:ps.length<=24)(p1:1<=P)(p2:P<=600)(q:∀G',Sa G G'->Q (.int (Ak P ss ws wts ps)) G'):Ta T (k+2) FH [Nb xs ss,.int P,Tc wts,Rc ws,.tup (ps.map lh)] G Q X:=by
 have hl:=Oo (ps:=ps) (n:=ss.length) hp hw;refine⟨rfl,?_⟩;simp! only[AH,Qb,Ab,Tc];refine λa G1 n1=>?_;simp! only[WH];refine Df (λi J G'=>∃o7 o8 o9 o10 o11,J=[ca (Nb xs ss),ca (.int P),ca (.tup (wts.map .int)),ca (Rc ws),ca (.tup (ps.map lh)),ca (.loc a),ca (.int ((ps.take i).map (Xi P ss ws)).sum),o7,o8,o9,o10,o11,la]/\Sa G G'/\G' a=ca (.lst ((lf wts (ps.take i)).map .int))) ?_ ?_ ⟨_,_,_,_,_,rfl,n1.sa,n1.at⟩
 ·rintro J G' ⟨o7,o8,o9,o10,o11,rfl,s1,g1⟩;rw[Bc,Ng]at g1;rw[Bc,Ng];refine⟨trivial,?_⟩;simp! only[XH,Pk g1,Bc];refine⟨by lia,by rw[hl.2,Z];lia,?_⟩
  refine Df (λi J O=>∃o10 o12,J=[ca (Nb xs ss),ca (.int P),ca (.tup (wts.map .int)),ca (Rc ws),ca (.tup (ps.map lh)),ca (.loc a),ca (.int ((ps.map (Xi P ss ws)).sum+((Be i).map (Sl ss ws (lf wts ps))).sum)),o7,o8,o9,o10,o11,o12]/\O=G') ?_ ?_ ⟨o10,la,by simp,rfl⟩
  ·rintro J O ⟨o10,o12,rfl,rfl⟩;rw[Sf,hl.2,Z];refine⟨trivial,?_⟩;simp! only[YH];have:=q O s1;unfold Ak at this;rw[Int.add_comm]at this;exact this
  ·rintro i x J O K I ⟨o10,o12,rfl,rfl⟩ hk;obtain⟨hi,rfl⟩:=Kh I;have hi:i<ss.length:=by rw[hl.2,Z]at hi;lia
   have iw:i<ws.length:=by lia
   have ew:ws[i]?=ca (ws.getD i (0,0)):=by simp[Hf,iw]
   have il:i<(lf wts ps).length:=by rw[hl.2,Z];exact hi
   have L:atI ((lf wts ps).map U.int) (i:Int)=ca (.int ((lf wts ps).getD i 0)):=Tf (by simp[Hf,il])
   have bd:=hl.1 i;refine⟨trivial,?_⟩;simp! only[QJ];rw[show Rc ws=.tup (ws.map wu)from rfl];simp! only[ix_t (Tf ew),ix_l g1 L];rw[show wu (ws.getD i (0,0))=.tup [.int (ws.getD i (0,0)).1,.int (ws.getD i (0,0)).2]from rfl];have R:∀z:Int,z=(if 0<=(lf wts ps).getD i 0 then (ws.getD i (0,0)).1 else (ws.getD i (0,0)).2)->Dc T.gs (Ta T (k+1)) DA ⟨K,Q,λx _ G'=>X x G'⟩ [ca (Nb xs ss),ca (.int P),ca (.tup (wts.map .int)),ca (.tup (ws.map wu)),ca (.tup (ps.map lh)),ca (.loc a),ca (.int ((ps.map (Xi P ss ws)).sum+((Be i).map (Sl ss ws (lf wts ps))).sum)),o7,o8,o9,ca (.int i),o11,ca (.int z)] O:=λz hz=>by
    simp! only[DA,Nb,ix_t (Fc _ _ _),ix_t (Wu hi),ix_l g1 L];rw[ix_t (show atI [U.str (ss.getD i ⟨"",0,0,0,0⟩).w,.int (ss.getD i ⟨"",0,0,0,0⟩).o,.int (ss.getD i ⟨"",0,0,0,0⟩).t,.int (Vf ss i),.int (ss.getD i ⟨"",0,0,0,0⟩).hi] 3=ca (.int (Vf ss i))from rfl)];simp! only[];refine⟨.inl (by constructor<;>lia),hk _ _ ⟨ca (.int i),ca (.int z),?_,rfl⟩⟩
    have e:((Be (i+1)).map (Sl ss ws (lf wts ps))).sum=((Be i).map (Sl ss ws (lf wts ps))).sum+(lf wts ps).getD i 0*(z-Vf ss i):=by
     rw[jt,ue,Pw,hz];simp[Sl]
    rw[e,Int.add_assoc];rfl
   by_cases c:(lf wts ps).getD i 0<0
   ·rw[if_pos (by simpa using c)]
    simp! only[ix_t (Fc _ _ _)];exact R _ (by rw[if_neg (by lia)])
   ·rw[if_neg (by simpa using c)]
    simp! only[ix_t (He _ _)];exact R _ (by rw[if_pos (by lia)])
 ·rintro i x J G' K I ⟨o7,o8,o9,o10,o11,rfl,s1,g1⟩ hk;rw[Lf]at I;cases Y:ps[i]? with
  |none=>rw[Y]at I;cases I
  |some p=>
   rw[Y]at I;cases I;have F:=hp p (Ze Y);have xa:=Oo (ps:=ps.take i) (n:=ss.length) (λx I=>hp x (yn I)) hw;refine⟨trivial,?_⟩;rw[show lh p=.tup [.int p.1,.tup (p.2.map sg)]from rfl];simp! only[];refine⟨trivial,?_⟩;simp! only[NJ];simp! only[OJ];refine Df (λj J G'=>∃o10 o11,J=[ca (Nb xs ss),ca (.int P),ca (.tup (wts.map .int)),ca (Rc ws),ca (.tup (ps.map lh)),ca (.loc a),ca (.int ((ps.take i).map (Xi P ss ws)).sum),ca (.int p.1),ca (.tup (p.2.map sg)),ca (.int (Po ss (p.2.take j))),o10,o11,la]/\Sa G G'/\G' a=ca (.lst ((Eg p.1 (lf wts (ps.take i)) (p.2.take j)).map .int))) ?_ ?_ ⟨_,_,rfl,s1,g1⟩
   ·rintro J O ⟨o10,o11,rfl,s2,g2⟩;rw[Bc,Ng,<- zF Y]at g2;rw[Bc,Ng];refine⟨trivial,?_⟩;simp! only[PJ];refine⟨by decide,?_⟩
    refine LF (k:=k) (bs:=[]) (st:=[]) wl (λ_ h=>(nomatch h)) (VD F.r) λG3 s3=>?_;simp! only[ix_t (He _ _)];refine NO (k:=k) p1 p2 ?_;simp! only[];refine⟨.inl (by have:=F.pr;constructor<;>lia),hk _ _ ⟨ca (.int p.1),ca (.tup (p.2.map sg)),ca (.int (Po ss p.2)),o10,o11,?_,s2.trans s3,s3 _ _ g2⟩⟩
    have e:((ps.take (i+1)).map (Xi P ss ws)).sum=((ps.take i).map (Xi P ss ws)).sum+Xi P ss ws p:=by
     rw[Mg,Y,ue,Pw];simp
    rw[e];rfl
   ·rintro j y J O K2 hy ⟨o10,o11,rfl,s2,g2⟩ hk2;rw[Lf]at hy;cases ee:p.2[j]? with
    |none=>rw[ee]at hy;cases hy
    |some e=>
     rw[ee]at hy;cases hy;have he:=F.r e (Ze ee);have za:=(Bv (n:=ss.length) F.pr (r:=p.2.take j) (λx I=>F.r x (yn I)) xa.1).2;have hs:=he.s;have ls:e.1<(Eg p.1 (lf wts (ps.take i)) (p.2.take j)).length:=by rw[za,xa.2,Z];exact hs
     have L:atI ((Eg p.1 (lf wts (ps.take i)) (p.2.take j)).map U.int) (e.1:Int)=ca (.int ((Eg p.1 (lf wts (ps.take i)) (p.2.take j)).getD e.1 0)):=Tf (by simp[Hf,ls])
     refine⟨trivial,?_⟩;rw[show sg e=.tup [.int e.1,.int e.2]from rfl];simp! only[];refine⟨trivial,?_⟩;simp! only[ix_l g2 L];refine⟨.inl (by have:=F.pr;constructor<;>lia),?_⟩
     refine AD g2 ls λG3 p3=>?_;simp! only[Nb,ix_t (Fc _ _ _),ix_t (Wu hs)];rw[ix_t (show atI [U.str (ss.getD e.1 ⟨"",0,0,0,0⟩).w,.int (ss.getD e.1 ⟨"",0,0,0,0⟩).o,.int (ss.getD e.1 ⟨"",0,0,0,0⟩).t,.int (Vf ss e.1),.int (ss.getD e.1 ⟨"",0,0,0,0⟩).hi] 3=ca (.int (Vf ss e.1))from rfl)];refine⟨.inl (by rcases he.y with h|h<;>rw[h]<;>constructor<;>decide),?_⟩
     refine hk2 _ _ ⟨ca (.int e.1),ca (.int e.2),?_,λb o e=>p3.sm _ _ (λy=>by rw[y,n1.no]at e;cases e) (s2 _ _ e),?_⟩
     ·have e3:Po ss (p.2.take (j+1))=Po ss (p.2.take j)+e.2*Vf ss e.1:=by
       unfold Po;rw[Mg,ee,ue,Pw];simp
      rw[e3];rfl
     ·rw[bG ee];exact p3.at

noncomputable def Xf  (x:Str):U->Bool
 |.str w=>decide (w=x)
 |_=>ia
noncomputable def tupL  : U->List U
 |.tup y=>y
 |_=>[]
noncomputable def nh  : U->Int
 |.int i=>i
 |_=>0
def Rr    (h:Xc z y u=da):∃i,u=.int i/\z<=i/\i<=y:=by
 cases u with
 |int i=>
  have h:(decide (z<=i)&&decide (i<=y))=da:=h;rw[Lc,decide_eq_true_eq,decide_eq_true_eq]at h;exact⟨i,rfl,h⟩
 |_=>cases h
noncomputable def lowW  (ws:Wn)(j:Nat)(i:Int):Wn:=ws.set j ((ws.getD j (0,0)).1,i)
noncomputable def Ko  (ws:Wn)(j:Nat)(i:Int):Wn:=ws.set j (i+1,(ws.getD j (0,0)).2)
def psOf  (u:U):List (Int×List (Nat×Int)):=(tupL u).map λp=>match p with
 |.tup [.int p,.tup r]=>(p,r.map λe=>match e with|.tup [.int s,.int y]=>(s.toNat,y)|_=>(0,0))
 |_=>(0,[])
def fF  (ps:List (Int×List (Nat×Int))):psOf (.tup (ps.map lh))=ps:=by
 unfold psOf tupL;rw[gk];refine(Ws λp _=>?_).trans (dB ps);show(p.1,(p.2.map sg).map _)=p;rw[gk];have:p.2.map ((λe=>match e with|.tup [.int s,.int y]=>(s.toNat,y)|_=>(0,0)) ∘ sg)=p.2:=(Ws λe _=>rfl).trans (dB p.2)
 rw[this]
def fltM  (P:Int)(ss:List Rb)(z:List Int)(y:Int)(ws:Wn):U->Option Str
 |.tup [w,r]=>if Xf "prices" w=da then (if Rm ss r=da then (if y<=Ak P ss ws z (psOf r) then la else ca "bound") else ca "price") else if Xf "ring" w=da then (if Wf ss [] r=da then (if barB P [] ws (tupL r)=da then la else ca "bar") else ca "ring") else ca "shape"
 |.tup [w,s,c,_,_]=>if Xf "split" w=da then (if Xc 0 ((ss.length:Int)-1) s=da then (if Xc (ws.getD (nh s).toNat (0,0)).1 ((ws.getD (nh s).toNat (0,0)).2-1) c=da then la else ca "cut") else ca "span") else ca "shape"
 |_=>ca "shape"
noncomputable def fU  : Option Str->U
 |none=>.non
 |some x=>.str x
abbrev Nd:=U×Wn
def kids  : Nd->List Nd
 |(.tup [_,s,c,a,b],ws)=>[(a,lowW ws (nh s).toNat (nh c)),(b,Ko ws (nh s).toNat (nh c))]
 |_=>[]
structure Eh (xs:List Str)(ss:List Rb)(P:Int)(wts:List Int):Prop where
 so:∃W,∀s∈ss,s.Ok W
 sl:ss.length<=24
 p1:1<=P
 p2:P<=600
 el:wts.length=ss.length
 hw:Bd 100 wts

def rR   {kk:Bool->Prop}(h:Th G u d)(q:kk (Xf x u)):cmpU .Eq u (.str x) G kk:=by
 show uw u (.str x) G kk;cases h with
 |lst g h=>exact .inr (.inl ⟨_,g,q⟩)
 |dic g=>exact .inl ⟨_,g,q⟩
 |_=>exact q
def bf  (x:Str)(n:Int):U->Bool
 |.tup y=>decide ((y.length:Int)=n)&&Xf x (y.headD .non)
 |_=>ia
def Ez    (L:1<=m)(t:Th G u d)(q:Q (.bl (bf x m u)) G):Ta T (k+1) bw [u,.str x,.int m] G Q X:=by
 refine⟨rfl,?_⟩;simp! only[JH,Qb,Ab,Lg t (show "tuple" ∈ ["bool", "int", "str", "list", "tuple", "dict"] by decide)]
 cases t with
 |@tup y F z=>
  rw[show Vg (.tuple F) "tuple" = da from rfl,if_pos rfl];simp! only[];have e:bf x m (.tup y)=(decide ((y.length:Int)=m)&&Xf x (y.headD .non)):=rfl;rw[e]at q;by_cases c:(y.length:Int)=m
  ·rw[decide_eq_true c]at q ⊢;rw[if_pos rfl];cases z with
   |nil=>simp at c;lia
   |@cons O R J I t0 Y=>
    simp! only[ix_t (He _ _)];exact rR t0 q
  ·rw[decide_eq_false c]at q ⊢;rw[if_neg (by decide)]
   exact q
 |_=>exact q
def Xv    (h:Xf x u=da):u=.str x:=by
 cases u with
 |str w=>rw[of_decide_eq_true (show decide (w=x)=da from h)]
 |_=>cases h
def qE    (h:bf x (m+1:Nat) u=da):∃us,u=.tup (.str x::us)/\us.length=m:=by
 cases u with
 |tup us=>
  have h:(decide ((us.length:Int)=(m+1:Nat))&&Xf x (us.headD .non))=da:=h;rw[Lc,decide_eq_true_eq]at h;cases us with
  |nil=>exact absurd h.1 (by simp;lia)
  |cons w us=>
   have:=Xv h.2;subst this;exact⟨us,rfl,by have:=h.1;rw[pj]at this;lia⟩
 |_=>cases h
def Ob.two  (h:Ob w n 0 G (.tup [u,r])):∃z,Th G r z:=by
 obtain⟨d,t,b⟩:=h;cases t with
 |tup F=>match F with|.cons _ (.cons h2 .nil)=>exact⟨_,h2⟩
def Ob.five  (h:Ob w n 0 G (.tup [u,s,c,a,b])):∃m J F ds O,n=m+1/\Th G s ds/\Th G c O/\Ob J m 0 G a/\Ob F m 0 G b/\J+F+7<=w:=by
 obtain⟨d,t,z⟩:=h;cases t with
 |tup L=>
  match L with
  |@Ld.cons _ _ d0 _ _ h0 (@Ld.cons _ _ d1 _ _ h1 (@Ld.cons _ _ d2 _ _ h2 (@Ld.cons _ _ d3 _ _ h3 (@Ld.cons _ _ d4 _ _ h4 .nil))))=>
   have R:wt d0+2+(wt d1+2+(wt d2+2+(wt d3+2+(wt d4+2+0))))+3<=w:=z.w;have Y:max d0.depth (max d1.depth (max d2.depth (max d3.depth (max d4.depth 0))))+1<=n:=z.k;have I:Dg 0 d0/\Dg 0 d1/\Dg 0 d2/\Dg 0 d3/\Dg 0 d4/\True:=z.ok;exact⟨n-1,wt d3,wt d4,d1,d2,by lia,h1,h2,⟨d3,h3,I.2.2.2.1,ub _,by lia⟩,⟨d4,h4,I.2.2.2.2.1,ub _,by lia⟩,by lia⟩
def IW  (z:Eh xs ss P wts)(wl:ws.length=ss.length)(t:Th G u d)(q:∀G',Sa G G'->Q (fU (if Wf ss [] u=da then (if barB P [] ws (tupL u)=da then la else ca ("bar" : Str)) else ca ("ring" : Str))) G') :
  Ta T (k+5) yI [Nb xs ss,.int P,Tc [],Tc [],Rc ws,u] G Q X:=by
 refine⟨rfl,?_⟩;simp! only[xH,Qb,Ab];refine MG (k:=k) t (QF _) z.sl λI s1=>?_;cases c:Wf ss [] u with
 |false=>
  have:=q I s1;rw[c]at this;exact this
 |true=>
  simp! only[];cases t with
  |@tup y O L=>
   have F:(decide (1<=y.length/\y.length<=60)&&(y.all (entB ss.length [])&&oh (y.map (endZ ss))))=da:=c;rw[Lc,Lc,decide_eq_true_eq]at F;refine XQ (k:=k+1) (bs:=[]) (st:=[]) wl (λ_ h=>(nomatch h)) (Qa.mp F.2.1) F.1.2 z.p1 z.p2 λJ s2=>?_;have:=q J (s1.trans s2);rw[c,if_pos rfl]at this;have e:tupL (.tup y)=y:=rfl;rw[e]at this;simp! only[];cases c2:barB P [] ws y<;>rw[c2]at this<;>exact this
  |_=>cases c
def NW  (R:Eh xs ss P wts)(wl:ws.length=ss.length)(hs:Th G s ds)(I:Th G c O)
  (q:Q (fU (if Xc 0 ((ss.length:Int)-1) s=da then (if Xc (ws.getD (nh s).toNat (0,0)).1 ((ws.getD (nh s).toNat (0,0)).2-1) c=da then la else ca ("cut" : Str)) else ca ("span" : Str))) G) :
  Ta T (k+3) TH [Nb xs ss,Rc ws,.tup [.str "split",s,c,a,b]] G Q X:=by
 refine⟨rfl,?_⟩;simp! only[OH,Qb,Ab];refine⟨trivial,?_⟩;simp! only[XJ,Nb,ix_t (Fc _ _ _),Bc];refine Uv (k:=k) hs ?_
 simp! only[];cases c1:Xc 0 ((ss.length:Int)-1) s with
 |false=>rw[c1]at q;exact q
 |true=>
  rw[c1,if_pos rfl]at q;rw[if_neg (by decide)]
  obtain⟨i,rfl,z,L⟩:=Rr c1;obtain⟨j,rfl⟩:=pi z;have y:j<ws.length:=by lia
  have F:ws[j]?=ca ws[j]:=Sh y;have J:ws.getD (nh (.int (j:Int))).toNat (0,0)=ws[j]:=by
   show ws.getD ((j:Int)).toNat (0,0)=_;rw[Kn];simp[Hf,y]
  rw[J]at q;simp! only[YJ,Rc,ix_t (Tf F)];show Qc _ (.tup [.int ws[j].1,.int ws[j].2]) _ _;simp! only[];refine⟨trivial,?_⟩;refine Uv (k:=k) I ?_
  simp! only[];cases c2:Xc ws[j].1 (ws[j].2-1) c<;>rw[c2]at q<;>exact q
def AW  (y:Eh xs ss P wts)(wl:ws.length=ss.length)(t:Th G u d)(q:∀G',Sa G G'->Q (fU (if Rm ss u=da then (if bnd<=Ak P ss ws wts (psOf u) then la else ca ("bound" : Str)) else ca ("price" : Str))) G') :
  Ta T (k+7) SH [Nb xs ss,.int P,Tc wts,.int bnd,Rc ws,u] G Q X:=by
 refine⟨rfl,?_⟩;simp! only[NH,Qb,Ab];refine HW (k:=k) t y.sl λI s1=>?_;simp! only[];cases c:Rm ss u with
 |false=>
  have:=q I s1;rw[c]at this;exact this
 |true=>
  rw[if_neg (by decide)]
  cases t with
  |@tup F Y R=>
   have z:(decide (F.length<=24)&&F.all (Ig ss))=da:=c;rw[Lc,decide_eq_true_eq]at z;obtain⟨L,rfl,O⟩:=Qz z.2;simp! only[WJ];refine tT (k:=k+2) wl y.el y.sl y.hw O (by have:=z.1;rwa [Bc]at this) y.p1 y.p2 λJ s2=>?_
   have:=q J (s1.trans s2);rw[c,if_pos rfl,fF]at this;simp! only[];by_cases c2:bnd<=Ak P ss ws wts L
   ·rw[if_pos c2]at this;rw[if_pos (by simpa using c2)]
    exact this
   ·rw[if_neg c2]at this;rw[if_neg (by simpa using c2)]
    exact this
  |_=>cases c


def dG  (h0:bf "prices" 2 u=ia)(F:bf "ring" 2 u=ia)(y:bf "split" 5 u=ia):fltM P ss wts bnd ws u=ca ("shape" : Str):=by
 unfold fltM;split
 ·rename_i w r;rw[if_neg,if_neg]
  ·intro z;have:bf "ring" 2 (.tup [w,r])=da:=by show(da&&Xf "ring" w)=da;rw[z];rfl
   rw[this]at F;cases F
  ·intro z;have:bf "prices" 2 (.tup [w,r])=da:=by show(da&&Xf "prices" w)=da;rw[z];rfl
   rw[this]at h0;cases h0
 ·rename_i w s c I up;rw[if_neg];intro z;have:bf "split" 5 (.tup [w,s,c,I,up])=da:=by show(da&&Xf "split" w)=da;rw[z];rfl
  rw[this]at y;cases y
 ·rfl
def sh_2   (h:bf x 2 u=da):∃r,u=.tup [.str x,r]:=by
 obtain⟨y,rfl,l⟩:=qE (m:=1) h
 match y,l with
 |[r],_=>exact⟨r,rfl⟩
def sh_5   (h:bf x 5 u=da):∃s c a b,u=.tup [.str x,s,c,a,b]:=by
 obtain⟨y,rfl,l⟩:=qE (m:=4) h
 match y,l with
 |[s,c,a,b],_=>exact⟨s,c,a,b,rfl⟩
def HF   : fltM P ss wts bnd ws (.tup [.str "ring",r])=(if Wf ss [] r=da then (if barB P [] ws (tupL r)=da then la else ca ("bar" : Str)) else ca ("ring" : Str)):=by
 unfold fltM;dsimp only;rw[if_neg (show ¬Xf "prices" (.str "ring")=da by decide +kernel),if_pos (show Xf "ring" (.str "ring")=da by decide +kernel)]
def iW  (z:Eh xs ss P wts)(wl:ws.length=ss.length)(o:Ob w n 0 G u)(q:∀G',Sa G G'->Q (fU (fltM P ss wts bnd ws u)) G') :
  Ta T (k+8) EW [Rc ws,u,Nb xs ss,.int P,Tc wts,.int bnd] G Q X:=by
 obtain⟨d,t,_⟩:=id o;refine⟨rfl,?_⟩;simp! only[sA,Qb,Ab];refine Ez (k:=k+6) (by decide) t ?_
 simp! only[];cases c0:bf "prices" 2 u with
 |true=>
  rw[if_pos rfl];obtain⟨r,rfl⟩:=sh_2 c0;obtain⟨I,y⟩:=o.two;simp! only[ix_t (Fc _ _ _)];exact AW (k:=k) z wl y q
 |false=>
  rw[if_neg (by decide)]
  simp! only[];refine⟨by decide,by decide,?_⟩
  refine⟨rfl,?_⟩;simp! only[wH,Qb,Ab];refine Ez (k:=k+5) (by decide) t ?_
  simp! only[];cases c1:bf "ring" 2 u with
  |true=>
   rw[if_pos rfl];obtain⟨r,rfl⟩:=sh_2 c1;obtain⟨I,y⟩:=o.two;simp! only[ix_t (Fc _ _ _)];refine IW (k:=k+1) z wl y λF s1=>?_;rw[<- HF];exact q F s1
  |false=>
   rw[if_neg (by decide)]
   simp! only[iJ];refine Ez (k:=k+5) (by decide) t ?_
   simp! only[];cases c2:bf "split" 5 u with
   |true=>
    rw[if_pos rfl];obtain⟨s,c,J,up,rfl⟩:=sh_5 c2;obtain⟨m,R,L,Y,O,rfl,t1,t2,_⟩:=o.five;simp! only[];exact NW (k:=k+3) z wl t1 t2 (q G Sa.refl)
   |false=>
    rw[if_neg (by decide)]
    simp! only[jJ];have:=q G Sa.refl;rw[dG c0 c1 c2]at this;exact this
def GF  (h0:fltM P ss wts bnd ws u=la):(∃r,u=.tup [.str "prices",r])\/(∃r,u=.tup [.str "ring",r])\/∃(j:Nat) (i:Int) (a b:U),u=.tup [.str "split",.int j,.int i,a,b]/\j<ss.length:=by
 unfold fltM at h0;split at h0
 ·rename_i w r;by_cases c:Xf "prices" w=da
  ·rw[Xv c];exact .inl ⟨_,rfl⟩
  ·rw[if_neg c]at h0;by_cases c:Xf "ring" w=da
   ·rw[Xv c];exact .inr (.inl ⟨_,rfl⟩)
   ·rw[if_neg c]at h0;cases h0
 ·rename_i w s c z up;by_cases c1:Xf "split" w=da
  ·rw[if_pos c1]at h0;by_cases c2:Xc 0 ((ss.length:Int)-1) s=da
   ·rw[if_pos c2]at h0;obtain⟨a,rfl,F,I⟩:=Rr c2;obtain⟨j,rfl⟩:=pi F;by_cases y:Xc (ws.getD (nh (.int (j:Int))).toNat (0,0)).1 ((ws.getD (nh (.int (j:Int))).toNat (0,0)).2-1) c=da
    ·obtain⟨i,rfl,_⟩:=Rr y;rw[Xv c1];exact .inr (.inr ⟨j,i,z,up,rfl,by lia⟩)
    ·rw[if_neg y]at h0;cases h0
   ·rw[if_neg c2]at h0;cases h0
  ·rw[if_neg c1]at h0;cases h0
 ·cases h0
def Fo  (x:Nd):U:=.tup [x.1,Rc x.2]
def SU     (y:j<ws.length)(wl:ws.length<=24)(q:∀p G',Wh G p (.lst [.tup [a,Rc (lowW ws j i)],.tup [b,Rc (Ko ws j i)]]) G'->Q (.loc p) G') :
  Ta T (k+2) zA [Rc ws,.tup [.str "split",.int j,.int i,a,b]] G Q X:=by
 have z:ws[j]?=ca ws[j]:=Sh y;have F:ws.getD j (0,0)=ws[j]:=by simp[Hf,y]
 refine⟨rfl,?_⟩;simp! only[mw,Qb,Ab,ix_t (He _ _)];rw[if_neg (by decide +kernel)]
 simp! only[ZJ];refine⟨trivial,?_⟩;rw[show Rc ws=.tup (ws.map wu)from rfl,ix_t (Tf z)];show Qc _ (.tup [.int ws[j].1,.int ws[j].2]) _ _;simp! only[];refine⟨trivial,by decide,?_⟩
 refine vF (k:=k) (ws:=ws) (w:=(ws[j].1,i)) y wl ?_
 simp! only[];refine⟨by decide,by decide,?_⟩
 refine vF (k:=k) (ws:=ws) (w:=(i+1,ws[j].2)) y wl ?_
 simp! only[];refine⟨by decide,by decide,λp G' n=>?_⟩
 unfold lowW Ko at q;rw[F]at q;exact q p G' n
def NG   {x:Str}(y:x = "ring" \/ x = "prices")(q:∀p G',Wh G p (.lst []) G'->Q (.loc p) G'):Ta T (k+2) zA [Rc ws,.tup (.str x::us)] G Q X:=by
 refine⟨rfl,?_⟩;simp! only[mw,Qb,Ab,ix_t (He _ _)];rw[if_pos (by rcases y with rfl|rfl<;>decide +kernel)]
 simp! only[];exact⟨by decide,q⟩
def uT  (I:Eh xs ss P wts)(wl:ws.length=ss.length)(h0:fltM P ss wts bnd ws u=la)(q:∀p G',Sa G G'->G' p=ca (.lst ((kids (u,ws)).map Fo))->Q (.loc p) G'):Ta T (k+2) zA [Rc ws,u] G Q X:=by
 have J:=I.sl;rcases GF h0 with⟨r,rfl⟩|⟨r,rfl⟩|⟨j,i,a,b,rfl,hj⟩
 ·exact NG (k:=k) (.inr rfl) λF z y=>q F z y.sa y.at
 ·exact NG (k:=k) (.inl rfl) λF z y=>q F z y.sa y.at
 ·exact SU (k:=k) (by lia) (by lia) λF z y=>q F z y.sa y.at

inductive cf (P:Int)(ss:List Rb)(wts:List Int)(bnd:Int):List Nd->Nat->Option (Str×Nat)->Prop
 |nil {n:Nat}:cf P ss wts bnd [] n la
 |bad {s:List Nd} {u:U} {h:Wn} {n:Nat} {x:Str}:fltM P ss wts bnd h u=ca x->cf P ss wts bnd (s++[(u,h)]) n (ca (x,n))
 |go {s:List Nd} {u:U} {h:Wn} {n:Nat} {o:Option (Str×Nat)}:fltM P ss wts bnd h u=la->cf P ss wts bnd (s++(kids (u,h)).reverse) (n+1) o->cf P ss wts bnd (s++[(u,h)]) n o
def Qv  {y:Type}{s t:List y}{a b:y}(h:s++[a]=t++[b]):s=t/\a=b:=by
 have:=List.append_inj' h rfl;exact⟨this.1,(QK this.2).1⟩
def cf.uniq         (h:cf P ss wts bnd s n o):∀{L },cf P ss wts bnd s n L->o=L:=by
 induction h with
 |nil=>
  intro L I;generalize e:([]:List Nd)=z at I;cases I with
  |nil=>rfl
  |_=>simp at e
 |@bad s u R n x O=>
  intro L I;generalize e:s++[(u,R)]=z at I;cases I with
  |nil=>simp at e
  |bad F=>
   obtain⟨rfl,J⟩:=Qv e;cases J;rw[O]at F;cases F;rfl
  |go F=>
   obtain⟨rfl,J⟩:=Qv e;cases J;rw[O]at F;cases F
 |@go s u R n o O _ Z=>
  intro L I;generalize e:s++[(u,R)]=z at I;cases I with
  |nil=>simp at e
  |bad F=>
   obtain⟨rfl,J⟩:=Qv e;cases J;rw[O]at F;cases F
  |go F Y=>
   obtain⟨rfl,J⟩:=Qv e;cases J;exact Z Y
abbrev Nn:=Nd×Nat
structure NdOk (G:Gp)(ss:List Rb)(x:Nn):Prop where
 l:x.1.2.length=ss.length
 t:Ob x.2 99 0 G x.1.1
def Ob.pos     (h:Ob w n 0 G u):1<=w:=by
 obtain⟨d,_,b⟩:=h;have:1<=wt d:=by cases d<;>(show 1<=_)<;>first|decide|exact uB _ _|exact Jb (by decide) (uB 2 _)|exact Jb (by decide) (uB 3 _)
 exact Jb this b.w
theorem mF    : ∀{l:List Nn},(∀x∈l,NdOk G ss x)->l.length<=(l.map (·.2)).sum
 |[],_=>ub _
 |x::l,h=>by
  have I:=(h x Uf).t.pos;have F:=mF λz y=>h z (Le _ y);rw[pj,af,List.sum_cons]
  lia
def ES  {y:Type}(l:List y):l=[]\/∃s a,l=s++[a]:=by
 rcases List.eq_nil_or_concat l with h|⟨s,a,h⟩
 ·exact .inl h
 ·exact .inr ⟨s,a,by rw[h,List.concat_eq_append]⟩
def DD     {kk:Bool->Prop}(g:G a=ca (.lst us)):truU (.loc a) G kk=kk (!us.isEmpty):=by unfold truU;dsimp only;rw[g]
def mt_pop     (g:G p=ca (.lst us)):Oe .pop (.loc p) G=ca ("list", "list.pop"):=by unfold Oe;dsimp only;rw[g]
def dP      (g:G a=ca (.lst xs))(g':G b=ca (.lst ys)):Yd .extend (.loc a) [.loc b] G Q=(xs.length+ys.length<=Wa/\putO G a (.lst (xs++ys)) (Q .non)):=by unfold Yd Ev;dsimp only;rw[g,g']
def NN      (g:G a=ca (.lst us)):revU (.loc a) (.int (-1)) G Q=newO G (.lst us.reverse) Q:=by
 unfold revU Ad;dsimp only;rw[g];simp
def qQ       (g:G p=ca (.lst (us++[u])))(q:∀G',Dh G p (.lst us) G'->Q u G'):Yd .pop (.loc p) [] G Q:=by
 dsimp only[Yd];unfold popU;dsimp only;rw[g];dsimp only;have y:(us++[u])[(us++[u]).length-1]?=ca u:=by simp
 have z:(us++[u]).dropLast=us:=by simp
 rw[y,z];exact λG' h=>q G' h

def Ob.up   (I:Ob w n 0 G u)(J:w<=w')(F:n<=z):Ob w' z 0 G u:=let ⟨d,t,b⟩:=I;⟨d,t,b.mono J F (ub _)⟩
def JR  (wl:h.length=ss.length)(f:fltM P ss wts bnd h u=la)(o:Ob w n 0 G u):∃(m:Nat) (l:List Nn),m<n/\l.map (·.1)=kids (u,h)/\(l.map (·.2)).sum+3<=w/\l.length<=2/\∀x∈l,x.1.2.length=ss.length/\Ob x.2 m 0 G x.1.1:=by
 have y:kids (u,h)=[]->(∃L,u=.tup L)->∃(m:Nat) (l:List Nn),m<n/\l.map (·.1)=kids (u,h)/\(l.map (·.2)).sum+3<=w/\l.length<=2/\∀x∈l,x.1.2.length=ss.length/\Ob x.2 m 0 G x.1.1:=by
  rintro e ⟨L,rfl⟩;obtain⟨d,t,b⟩:=o;cases t with
  |@tup _ z Z=>
   have e1:Cg z+3<=w:=b.w;have e2:Rh z+1<=n:=b.k;exact⟨n-1,[],by lia,by rw[e];rfl,by show 0+3<=w;lia,by decide,λ_ h=>nomatch h⟩
 rcases GF f with⟨r,rfl⟩|⟨r,rfl⟩|⟨j,i,a,b,rfl,hj⟩
 ·exact y rfl ⟨_,rfl⟩
 ·exact y rfl ⟨_,rfl⟩
 ·obtain⟨m,J,F,z,dc,rfl,_,_,R,O,Y⟩:=o.five;refine⟨m,[((a,lowW h j i),J),((b,Ko h j i),F)],zB _,rfl,by show J+(F+0)+3<=w;lia,ub _,λx I=>?_⟩
  simp only[Oc,Je,or_false]at I;rcases I with rfl|rfl
  ·exact⟨(Mp ..).trans wl,R⟩
  ·exact⟨(Mp ..).trans wl,O⟩
def YM  (hC:Eh xs ss P wts)(o:Ob w 99 0 G I)(hN:w<=100000)(hH:h0.length=ss.length)(qt:∀G',Sa G G'->cf P ss wts bnd [(I,h0)] 0 la->Q (.bl da) G')(qx:∀x m G',Sa G G'->cf P ss wts bnd [(I,h0)] 0 (ca (x,m))->m<=100000->X ⟨1,[.str x,.int m]⟩ G') :
  Ta T (k+9) GW [I,Rc h0,.non,.non,.non,.non,.non,Nb xs ss,.int P,Tc wts,.int bnd] G Q X:=by
 refine⟨rfl,?_⟩;simp! only[uA,Qb,Ab];refine⟨by decide,by decide,λpl G2 n2=>?_⟩
 dsimp only;rw[S_wh];have Z:∀{Ga Gb:Gp} {u:MO},Sa G Ga->Dh Ga pl u Gb->Sa G Gb:=λ{Ga Gb u} s w b z e=>w.sm _ _ (λy=>by rw[y,n2.no]at e;cases e) (s b z e)
 refine⟨λn ς G'=>∃(l:List Nn) (i:Nat) (o4 o5 o6:Option U),ς=[ca I,ca (Rc h0),ca (.loc pl),ca (.int i),o4,o5,o6,ca (Nb xs ss),ca (.int P),ca (Tc wts),ca (.int bnd)]/\n=(l.map (·.2)).sum/\n+i<=100000/\Sa G G'/\G' pl=ca (.lst ((l.map (·.1)).map Fo))/\(∀x∈l,NdOk G ss x)/\∀o,cf P ss wts bnd (l.map (·.1)) i o->cf P ss wts bnd [(I,h0)] 0 o,
  ⟨w+0,[((I,h0),w)],0,ca .non,ca .non,ca .non,rfl,rfl,by lia,n2.sa,n2.at,λx F=>?_,λo (h:cf P ss wts bnd [(I,h0)] 0 o)=>h⟩,?_⟩
 ·rw[Ea.mp F];exact⟨hH,o⟩
 rintro n ς G3 ⟨l,i,o4,o5,o6,rfl,rfl,hn,s3,L,hl,O⟩;have ll:=mF hl;simp! only[];rcases ES l with rfl|⟨l,x,rfl⟩
 ·rw[DD L,if_neg (by simp)]
  simp! only[];exact qt G3 s3 (O la .nil)
 ·rw[DD L,if_pos (by simp)]
  obtain⟨⟨u,J⟩,w1⟩:=x;have F:=hl ((u,J),w1) (by simp)
  have xa:∀x∈l,NdOk G ss x:=λx F=>hl x (by simp[F])
  have hO:J.length=ss.length:=F.l;have hu:Ob w1 99 0 G u:=F.t;rw[ue,ue]at L;have e0:((l++[((u,J),w1)]).map (·.2)).sum=(l.map (·.2)).sum+w1:=by simp
  rw[e0]at hn ⊢;rw[ue]at O;have O:∀o,cf P ss wts bnd (l.map (·.1)++[(u,J)]) i o->cf P ss wts bnd [(I,h0)] 0 o:=O;have L:G3 pl=ca (.lst ((l.map (·.1)).map Fo++[.tup [u,Rc J]])):=L;simp! only[hJ,mt_pop L];refine qQ L λG4 p4=>?_;have g4:=p4.at
  have s4:=Z s3 p4;simp! only[];refine⟨trivial,?_⟩;refine iW (k:=k) hC hO (hu.sa s4) λG5 s5=>?_;have Y:=s4.trans s5;have g5:=s5 _ _ g4;simp! only[];cases c:fltM P ss wts bnd J u with
  |some x=>
   have:=hu.pos;exact⟨rfl,qx x i G5 Y (O _ (.bad c)) (by lia)⟩
  |none=>
   simp! only[fU];rw[show ∀kk:Bool->Prop,lj .non .non kk=kk da from λ_=>rfl,if_neg (by decide)]
   obtain⟨m,R,mn,ke,ks,k2,kh⟩:=JR hO c hu;simp! only[ME g5];refine uT (k:=k+6) hC hO c λp6 G6 s6 za=>?_;have g6:=s6 _ _ g5;simp! only[];rw[NN za];intro p7 G7 n7;rw[dP (n7.sa _ _ g6) n7.at];refine⟨?_,λG8 p8=>?_⟩
   ·refine Jb (m:=200000) ?_ (by decide)
    rw[<- ke];simp only[Bc,SB,Ke,IL]at ll ⊢
    lia
   have s8:=Z (Y.trans (s6.trans n7.sa)) p8;have g8:=p8.at
   simp! only[];have e8:(l.map (·.1)).map Fo++((kids (u,J)).map Fo).reverse=((l++R.reverse).map (·.1)).map Fo:=by
    rw[ue,ue,yt,yt,ke]
   rw[e8]at g8;have e9:((l++R.reverse).map (·.2)).sum=(l.map (·.2)).sum+(R.map (·.2)).sum:=by
    rw[ue,Pw,yt,List.sum_reverse]
   refine⟨(l.map (·.2)).sum+(R.map (·.2)).sum,by lia,l++R.reverse,i+1,_,_,_,rfl,e9.symm,by lia,s8,g8,λx F=>?_,λo h=>O o (.go c ?_)⟩
   ·rcases Oa.mp F with h|h
    ·exact xa x h
    ·have:=kh x (Hc.mp h);exact⟨this.1,this.2.up (ub _) (by lia)⟩
   ·rw[ue,yt,ke]at h;exact h
def aR  (F:Eh xs ss P wts)(o:Ob w 99 0 G z)(J:w<=100000)(O:∀G',Sa G G'->cf P ss wts bnd [(z,winO P ss)] 0 la->Q (.bl da) G')(L:∀x m G',Sa G G'->cf P ss wts bnd [(z,winO P ss)] 0 (ca (x,m))->m<=100000->X ⟨1,[.str x,.int m]⟩ G') :
  Ta T (k+10) xI [Nb xs ss,.int P,Tc wts,.int bnd,z] G Q X:=by
 obtain⟨W,I⟩:=F.so;refine⟨rfl,?_⟩;simp! only[Zz,Qb,Ab];refine EV (k:=k+6) I F.sl λR s1=>?_;exact YM (k:=k) (h0:=winO P ss) F (o.sa s1) J (Bc _) (λy s2=>O y (s1.trans s2)) λx m y s2=>L x m y (s1.trans s2)


def Lk  {i: Nat}{y: Vb}{v: U}(z:(kvs.map (·.1)).Nodup)(h:kvs[i]?=ca (y,v)):dGet kvs y=ca v:=by
 induction kvs generalizing i with
 |nil=>cases h
 |cons x r I=>
  rw[af,Cb]at z;unfold dGet;cases i with
  |zero=>
   have:x=(y,v):=by simpa using h
   subst this;rw[List.find?_cons_of_pos (by simp)]
   rfl
  |succ i=>
   have h:r[i]?=ca (y,v):=by simpa using h
   have F:x.1≠y:=λe=>z.1 (e ▸ Xs (f:=(·.1)) (Ze h));rw[List.find?_cons_of_neg (by simpa using F)]
   exact I z.2 h
def GM  {kvs: List (Vb×U)}(F:(kvs.map (·.1)).Nodup)(h:kvs[i]?=ca (z,u)):(kvs.map λI=>if I.1=z then (I.1,v) else I)=kvs.set i (z,v):=by
 induction kvs generalizing i with
 |nil=>cases h
 |cons x r J=>
  rw[af,Cb]at F;cases i with
  |zero=>
   have:x=(z,u):=by simpa using h
   subst this;rw[af,if_pos rfl,UK];congr 1;refine(Ws λy O=>if_neg λe=>F.1 ?_).trans (dB r);exact e ▸ Xs (f:=(·.1)) O
  |succ i=>
   have h:r[i]?=ca (z,u):=by simpa using h
   have L:x.1≠z:=λe=>F.1 (e ▸ Xs (f:=(·.1)) (Ze h));rw[af,if_neg L,TK,J F.2 h]
def HM  {y: Vb}{v: U}(z:(kvs.map (·.1)).Nodup)(h:kvs[i]?=ca (y,u)):dPut kvs y v=kvs.set i (y,v):=by
 unfold dPut;rw[if_pos (Ic.mpr ⟨_,Ze h,by simp⟩)]
 exact GM z h
def oy  {kvs: List (Vb×U)}(I:(kvs.map (·.1)).Nodup):Rj kvs=kvs:=by
 have O:∀(kvs F:List (Vb×U)),((F++kvs).map (·.1)).Nodup->kvs.foldl (λF J=>dPut F J.1 J.2) F=F++kvs:=by
  intro kvs
  induction kvs with
  |nil=>intro F _;simp
  |cons x r L=>
   intro F I;have e:dPut F x.1 x.2=F++[x]:=by
    unfold dPut;rw[if_neg];intro z;obtain⟨y,R,e⟩:=Ic.mp z;rw[ue,kC]at I;exact I.2.2 y.1 (Xs (f:=(·.1)) R) x.1 (by simp) (of_decide_eq_true e)
   show r.foldl _ (dPut F x.1 x.2)=_;rw[e,L (F++[x]) (by rw[Op];exact I),Op]
   rfl
 exact O kvs [] I
noncomputable def mnyU  : List (Vb×U):=[(.inr "ring",.int 2),(.inr "split",.int 5),(.inr "prices",.int 2),(.inr "stay",.int 4),(.inr "enough",.int 1)]
def KE  : (mnyU.map (·.1)).Nodup:=by decide +kernel
def Xh  (u:U):Str:=if bf "ring" 2 u=da then "ring" else if bf "split" 5 u=da then "split" else if bf "prices" 2 u=da then "prices" else ""
noncomputable def wdsU  : List U:=[.str "ring",.str "split",.str "prices"]
def Nj     (h:x≠w):bf w m (.tup (.str x::us))=ia:=by
 show(_&&decide (x=w))=ia;rw[decide_eq_false h,KB]
def gQ    (h:∀x,Xf x y=ia):Xh (.tup (y::z)) = "" := by
 have e:∀x m,bf x m (.tup (y::z))=ia:=λx m=>by show(_&&Xf x y)=ia;rw[h,KB]
 unfold Xh;rw[e,e,e];rfl
def yv     (h:(x,m)∈[(("ring" : Str),(2:Int)),("split",5),("prices",2)]):Xh (.tup (.str x::y))=if decide ((y.length:Int)+1=m)=da then x else "" := by
 have own:∀{x:Str} {m:Int},bf x m (.tup (.str x::y))=decide ((y.length:Int)+1=m):=λ{x m}=>by
  show(decide (((y.length+1:Nat):Int)=m)&&decide (x=x))=_;rw[decide_eq_true (rfl:x=x),Bool.and_true];rfl
 simp only[Oc,Je,or_false,Prod.mk.injEq]at h;unfold Xh;rcases h with⟨rfl,rfl⟩|⟨rfl,rfl⟩|⟨rfl,rfl⟩
 ·rw[own,Nj (w := "split") (by decide +kernel),Nj (w := "prices") (by decide +kernel)];rfl
 ·rw[own,Nj (w := "ring") (by decide +kernel),Nj (w := "prices") (by decide +kernel)];rfl
 ·rw[own,Nj (w := "split") (by decide +kernel),Nj (w := "ring") (by decide +kernel)];rfl

def FV  (t:Th G u d)(g:G pw=ca (.lst wdsU))(q:∀G',Sa G G'->Q (.str (Xh u)) G'):Ta T (k+1) RH [.loc pw,u] G Q X:=by
 refine⟨rfl,?_⟩;simp! only[MH,Qb,Ab];refine⟨by decide,?_⟩
 show newO G (.dK (Rj mnyU)) _;rw[oy KE];intro Y J I;have R:=I.at
 have t2:=t.sa I.sa;have gw:=I.sa _ _ g;have q2:=q J I.sa;simp! only[VJ,Lg t2 (show "tuple" ∈ ["bool", "int", "str", "list", "tuple", "dict"] by decide)]
 cases t2 with
 |@tup us ds Z=>
  rw[show Vg (.tuple ds) "tuple" = da from rfl,if_neg (by decide)]
  simp! only[];cases Z with
  |nil=>exact⟨Me _,q2⟩
  |@cons u0 d0 F dr t0 tr=>
   rw[show(u0::F).isEmpty=ia from rfl,if_neg (by decide)]
   simp! only[ix_t (He _ _),Lg t0 (show "str" ∈ ["bool", "int", "str", "list", "tuple", "dict"] by decide)]
   refine⟨Me _,?_⟩;cases t0 with
   |str x=>
    rw[show Vg (Ma.str x) "str" = da from rfl,if_neg (by decide)]
    refine in_l gw rfl rfl ?_;have z:∀(m:Int) (i:Nat),(x,m)∈[(("ring" : Str),(2:Int)),("split",5),("prices",2)]->mnyU[i]?=ca (.inr x,.int m)->(wdsU.any λy=>Xg y (.str x))=da->if (!wdsU.any λy=>Xg y (.str x))=da then Q (.str "") J else Dc T.gs (Ta T k) OA ⟨λ_ G'=>Q .non G',Q,λx _ G'=>X x G'⟩ [ca (.loc pw),ca (.tup (.str x::F)),ca (.loc Y)] J:=by
     intro m i hm hi O;rw[O,if_neg (by decide)]
     rw[yv hm]at q2;simp! only[OA,ix_t (He _ _),ix_d R (Lk KE hi)];by_cases c:(F.length:Int)+1=m
     ·rw[decide_eq_true c,if_pos rfl]at q2;rw[if_pos (by simpa using c)]
      exact q2
     ·rw[decide_eq_false c,if_neg (by decide)]at q2
      rw[if_neg (by simpa using c)]
      exact q2
    by_cases c1:x = "ring"
    ·subst c1;exact z 2 0 (by simp) rfl (by decide +kernel)
    by_cases c2:x = "split"
    ·subst c2;exact z 5 1 (by simp) rfl (by decide +kernel)
    by_cases L:x = "prices"
    ·subst L;exact z 2 2 (by simp) rfl (by decide +kernel)
    have e:(wdsU.any λy=>Xg y (.str x))=ia:=by
     show((("ring" : Str)==x)||((("split" : Str)==x)||((("prices" : Str)==x)||false)))=ia;simp[Ua c1,Ua c2,Ua L]
    rw[e,if_pos (by decide)]
    have:Xh (.tup (.str x::F)) = "" := by
     unfold Xh;rw[Nj c1,Nj c2,Nj L];rfl
    rw[this]at q2;exact q2
   |_=>
    rw[gQ (λ_=>rfl)]at q2;exact q2
 |_=>exact q2

def Ap  (xs:List Str)(ss:List Rb)(P:Int)(pw:Aa)(z:List Int)(y i:Int):List (Vb×U):=[(.inr "plan",Nb xs ss),(.inr "cycle",.int P),(.inr "words",.loc pw),(.inr "at",.int i),(.inr "weights",Tc z),(.inr "bound",.int y)]

def Lj  : ((Ap xs ss P pw wts bnd i).map (·.1)).Nodup:=by
 show [(.inr "plan" : Vb),.inr "cycle",.inr "words",.inr "at",.inr "weights",.inr "bound"].Nodup;decide +kernel
noncomputable def oU  : Option (Str×Nat)->U
 |none=>.non
 |some (x,n)=>.tup [.str x,.int n]
def GO  {i:Nat}(z:Eh xs ss P wts)(wl:ws.length=ss.length)(t:Th G u d)(hu:(∃r,u=.tup [.str "prices",r])\/∃r,u=.tup [.str "ring",r])(g:G pb=ca (.dK (Ap xs ss P pw wts bnd (i+1))))(q:∀G',Sa G G'->Q (oU ((fltM P ss wts bnd ws u).map λx=>(x,i))) G') :
  Ta T (k+5) QA [.loc pb,u,Rc ws,.int i] G Q X:=by
 have two:∀{w r:U},u=.tup [w,r]->∃L,Th G r L:=by
  rintro w r rfl;cases t with
  |tup R=>match R with|.cons _ (.cons h2 .nil)=>exact⟨_,h2⟩
 refine⟨rfl,?_⟩;simp! only[EJ,Qb,Ab,ix_d g (Lk Lj (i:=0) rfl),ix_d g (Lk Lj (i:=1) rfl)];refine⟨trivial,?_⟩;rcases hu with⟨r,rfl⟩|⟨r,rfl⟩
 ·have fr:fltM P ss wts bnd ws (.tup [.str "prices",r])=(if Rm ss r=da then (if bnd<=Ak P ss ws wts (psOf r) then la else ca ("bound" : Str)) else ca ("price" : Str)):=rfl
  rw[fr]at q;obtain⟨L,I⟩:=two rfl;simp! only[LA,ix_t (He _ _)];rw[if_neg (by decide +kernel)]
  simp! only[xJ,ix_t (Fc _ _ _)];refine AV (k:=k) I z.sl λJ s1=>?_;simp! only[];cases c:Rm ss r with
  |false=>
   have:=q J s1;rw[c]at this;exact⟨by decide,this⟩
  |true=>
   rw[if_neg (by decide)]
   cases I with
   |@tup y ds R=>
    have F:(decide (y.length<=24)&&y.all (Ig ss))=da:=c;rw[Lc,decide_eq_true_eq]at F;obtain⟨Z,rfl,hp⟩:=Qz F.2;have Y:=s1 _ _ g;simp! only[yJ,ix_d Y (Lk Lj (i:=4) rfl),ix_t (Fc _ _ _)];refine PU (k:=k+2) wl z.el z.sl z.hw hp (by have:=F.1;rwa [Bc]at this) z.p1 z.p2 λO s2=>?_
    have:=q O (s1.trans s2);rw[c,if_pos rfl,fF]at this;simp! only[zJ,ix_d (s2 _ _ Y) (Lk Lj (i:=5) rfl)];by_cases c2:bnd<=Ak P ss ws wts Z
    ·rw[if_pos c2]at this;rw[if_pos (by simpa using c2)]
     exact this
    ·rw[if_neg c2]at this;rw[if_neg (by simpa using c2)]
     exact⟨by decide,this⟩
   |_=>cases c
 ·rw[HF]at q;obtain⟨L,I⟩:=two rfl;simp! only[LA,ix_t (He _ _)];rw[if_pos (by decide +kernel)]
  simp! only[ix_t (Fc _ _ _)];refine⟨by decide,?_⟩
  refine fG (k:=k+1) (st:=[]) I (λ_ h=>(nomatch h)) z.sl λJ s1=>?_;simp! only[];cases c:Wf ss [] r with
  |false=>
   have:=q J s1;rw[c]at this;exact⟨by decide,this⟩
  |true=>
   rw[if_neg (by decide)]
   cases I with
   |@tup y ds R=>
    have F:(decide (1<=y.length/\y.length<=60)&&(y.all (entB ss.length [])&&oh (y.map (endZ ss))))=da:=c;rw[Lc,Lc,decide_eq_true_eq]at F;simp! only[ix_t (Fc _ _ _)];refine⟨by decide,?_⟩
    refine zV (k:=k+2) (bs:=[]) (st:=[]) wl (λ_ h=>(nomatch h)) (Qa.mp F.2.1) z.p1 z.p2 λO s2=>?_;have:=q O (s1.trans s2);rw[c,if_pos rfl]at this;have e:tupL (.tup y)=y:=rfl;rw[e]at this;simp! only[];cases c2:barB P [] ws y with
    |true=>rw[c2]at this;exact this
    |false=>rw[c2]at this;exact⟨by decide,this⟩
   |_=>cases c

def MvOk  (xs:List Str)(ss:List Rb)(P:Int)(z:List Int)(y:Int)(F pw:Aa)(X:KX)(k n:Nat):Prop:=
 ∀{G:Gp} {u:U} {w i:Nat} {h:Wn} {Q:K1},Ob w n 0 (hide G F) u->h.length=ss.length->G F=ca (.dK (Ap xs ss P pw z y i))->G pw=ca (.lst wdsU)->i+w<=100000->
  (∀(r:Option (Str×Nat)) (j:Nat) (G':Gp),Sm F G G'->G' F=ca (.dK (Ap xs ss P pw z y j))->j<=i+w->(∀x m,r=ca (x,m)->m<=100000)->(∀s o,(r=la->cf P ss z y s j o)->(∀p,r=ca p->o=ca p)->cf P ss z y (s++[(u,h)]) i o)->Q (oU r) G')->
  Ta T k aw [.loc F,u,Rc h] G Q X
section
variable {k:Nat}{G G':Gp}{Q:K1}{X:KX}{xs:List Str}{ss:List Rb}{P bnd:Int}{wts:List Int}{u r a b:U}{d:Ma}{pb pw:Aa}{w n m wa wb i:Nat}{h ha hb:Wn}{us:List U}
def Yo   (s:Sm p G G'):Sa (hide G p) (hide G' p):=λq v e=>by
 by_cases z:q=p
 ·unfold hide at e;rw[if_pos z]at e;cases e
 ·exact Sk (s q v z (ij q v e)) z
def OU  (hC:Eh xs ss P wts):∀n,MvOk xs ss P wts bnd pb pw X (k+n+6) n:=by
 intro n
 induction n using Nat.strongRecOn generalizing k with
 |ind n ih=>
 intro G u w i h Q ou wl gp gw hi q;obtain⟨d,t0,bx⟩:=id ou;have t:Th G u d:=t0.sa ij;have va:pw≠pb:=λz=>by rw[z,gp]at gw;cases gw
 refine⟨rfl,?_⟩;simp! only[uH,Qb,Ab,ix_d gp (Lk Lj (i:=3) rfl)];rw[Hr gp];refine⟨by show 6<Wa;decide,λG1 p1=>?_⟩
 have wp:=ou.pos;have g1:G1 pb=ca (.dK (Ap xs ss P pw wts bnd ((i+1:Nat):Int))):=by
  have e:=p1.at
  rw[HM Lj (i:=3) rfl]at e;exact e
 have s1:Sm pb G G1:=p1.sm;have o1:Ob w n 0 (hide G1 pb) u:=ou.sa (Yo s1);have t1:Th G1 u d:=(t0.sa (Yo s1)).sa ij;have w1:=s1 _ _ va gw;simp! only[aJ,ix_d g1 (Lk Lj (i:=2) rfl)];refine FV (k:=k+n+4) t1 w1 λL R=>?_;have S3:Sm pb G L:=s1.trans R.sm;have g3:=R _ _ g1;have w3:=R _ _ w1;have t3:Th L u d:=t1.sa R;have o3:Ob w n 0 (hide L pb) u:=ou.sa (Yo S3);have I:∀m,m<n->MvOk xs ss P wts bnd pb pw X (k+n+5) m:=λm hm=>by
  have:=@ih m hm (k+(n-1-m))
  rwa [show k+(n-1-m)+m+6=k+n+5 by lia]at this
 have za:∀(x:Str) (Y:Gp),fltM P ss wts bnd h u=ca x->Sa L Y->Q (.tup [.str x,.int i]) Y:=λx Y f ja=>q (ca (x,i)) (i+1) Y (S3.trans ja.sm) (ja _ _ g3) (by lia) (λy m e=>by cases e;lia) λs o _ h2=>by rw[h2 _ rfl];exact .bad f
 have xa:((∃r,u=.tup [.str "prices",r])\/∃r,u=.tup [.str "ring",r])->Ta T (k+n+5) QA [.loc pb,u,Rc h,.int i] L Q X:=λhu=>by
  refine GO (k:=k+n) hC wl t3 hu g3 λY s4=>?_;refine q _ (i+1) Y (S3.trans s4.sm) (s4 _ _ g3) (by lia) (λx m e=>?_) λs o h1 h2=>?_
  ·cases f:fltM P ss wts bnd h u with
   |none=>rw[f]at e;cases e
   |some y=>rw[f]at e;cases e;lia
  ·cases f:fltM P ss wts bnd h u with
   |none=>
    rw[f]at h1;refine .go f ?_;have ek:kids (u,h)=[]:=by rcases hu with⟨r,rfl⟩|⟨r,rfl⟩<;>rfl
    rw[ek,List.reverse_nil,Li];exact h1 rfl
   |some y=>
    rw[f]at h2;rw[h2 _ rfl];exact .bad f
 simp! only[bJ];cases c1:bf "ring" 2 u with
 |true=>
  obtain⟨r,rfl⟩:=sh_2 c1;rw[show Xh (.tup [.str "ring",r]) = "ring" by rw[yv (m:=2) (by simp)];exact if_pos (by simp)]
  rw[if_neg (by decide +kernel)]
  simp! only[fw];rw[if_pos (by decide +kernel)]
  simp! only[];exact xa (.inr ⟨r,rfl⟩)
 |false=>
 cases c2:bf "prices" 2 u with
 |true=>
  obtain⟨r,rfl⟩:=sh_2 c2;rw[show Xh (.tup [.str "prices",r]) = "prices" by rw[yv (m:=2) (by simp)];exact if_pos (by simp)]
  rw[if_neg (by decide +kernel)]
  simp! only[fw];rw[if_pos (by decide +kernel)]
  simp! only[];exact xa (.inl ⟨r,rfl⟩)
 |false=>
 cases c4:bf "split" 5 u with
 |true=>
  obtain⟨O,c,a,b,rfl⟩:=sh_5 c4;obtain⟨m,wa,wb,ka,jb,rfl,_,_,oa,ob,hw⟩:=ou.five;obtain⟨ds,dc,ts,tc⟩:∃ds dc,Th L O ds/\Th L c dc:=by
   obtain⟨m',xb,zb,ds,dc,_,ts,tc,_⟩:=o3.five;exact⟨ds,dc,ts.sa ij,tc.sa ij⟩
  rw[show Xh (.tup [.str "split",O,c,a,b]) = "split" by rw[yv (m:=5) (by simp)];exact if_pos (by simp)]
  rw[if_neg (by decide +kernel)]
  simp! only[fw];rw[if_neg (by decide +kernel)]
  simp! only[cJ];rw[show Z.cut [U.str "split",O,c,a,b] (ca 1) (ca 3)=[O,c]from rfl];simp! only[];refine⟨trivial,?_⟩;simp! only[dJ,ix_d g3 (Lk Lj (i:=0) rfl),Nb,ix_t (Fc _ _ _),Bc];refine xp (k:=k+(m+1)+4) ts ?_;simp! only[];have fr:fltM P ss wts bnd h (.tup [.str "split",O,c,a,b])=(if Xc 0 ((ss.length:Int)-1) O=da then (if Xc (h.getD (nh O).toNat (0,0)).1 ((h.getD (nh O).toNat (0,0)).2-1) c=da then la else ca ("cut" : Str)) else ca ("span" : Str)):=rfl
  cases c5:Xc 0 ((ss.length:Int)-1) O with
  |false=>
   rw[c5,if_neg (by decide)]at fr
   exact⟨by decide,za _ L fr Sa.refl⟩
  |true=>
   rw[c5,if_pos rfl]at fr;rw[if_neg (by decide)]
   obtain⟨iz,rfl,z0,z1⟩:=Rr c5;obtain⟨F,rfl⟩:=pi z0;have sl:=hC.sl;have il:F<h.length:=by lia
   have ew:h[F]?=ca h[F]:=Sh il;have eg:h.getD F (0,0)=h[F]:=by simp[Hf,il]
   have ya:h.getD (nh (.int (F:Int))).toNat (0,0)=h[F]:=by
    show h.getD ((F:Int)).toNat (0,0)=_;rw[Kn];exact eg
   rw[ya]at fr;simp! only[eJ];rw[show Rc h=.tup (h.map wu)from rfl];rw[ix_t (Tf ew)];show Qc _ (.tup [.int h[F].1,.int h[F].2]) _ _;simp! only[];refine⟨trivial,?_⟩;simp! only[fJ];refine xp (k:=k+(m+1)+4) tc ?_;simp! only[];cases c6:Xc h[F].1 (h[F].2-1) c with
   |false=>
    rw[c6,if_neg (by decide)]at fr
    exact⟨by decide,za _ L fr Sa.refl⟩
   |true=>
    rw[c6,if_pos rfl]at fr;rw[if_neg (by decide)]
    obtain⟨J,rfl,_,_⟩:=Rr c6;have el:lowW h F J=h.set F (h[F].1,J):=by unfold lowW;rw[eg]
    have eh:Ko h F J=h.set F (J+1,h[F].2):=by unfold Ko;rw[eg]
    have ek:kids (.tup [.str "split",.int F,.int J,a,b],h)=[(a,h.set F (h[F].1,J)),(b,h.set F (J+1,h[F].2))]:=by rw[<- el,<- eh];rfl
    simp! only[gJ];rw[ix_t (show atI [U.str "split",.int F,.int J,a,b] 3=ca a from rfl)];refine MF (k:=k+(m+1)+4) (ws:=h) il (by lia) ?_
    refine I m (zB _) (oa.sa (Yo S3)) ((Mp ..).trans wl) g3 w3 (by lia) λr1 j1 Y s4 g4 b4 m4 q4=>?_
    simp! only[OI];have w4:=s4 _ _ va w3;cases r1 with
    |some p=>
     obtain⟨x,y⟩:=p;rw[show ∀kk:Bool->Prop,lj (oU (ca (x,y))) .non kk=kk ia from λ_=>rfl];rw[if_neg (by decide)]
     simp! only[qA];refine q (ca (x,y)) j1 Y (S3.trans s4) g4 (by lia) m4 λs o _ h2=>.go fr ?_
     rw[ek];have e:s++[(a,h.set F (h[F].1,J)),(b,h.set F (J+1,h[F].2))].reverse=(s++[(b,h.set F (J+1,h[F].2))])++[(a,h.set F (h[F].1,J))]:=by simp
     rw[e];exact q4 _ o (λz=>by cases z) h2
    |none=>
     rw[show ∀kk:Bool->Prop,lj (oU la) .non kk=kk da from λ_=>rfl];rw[if_pos rfl];simp! only[];rw[ix_t (show atI [U.str "split",.int F,.int J,a,b] 4=ca b from rfl)];refine MF (k:=k+(m+1)+4) (ws:=h) il (by lia) ?_
     refine I m (zB _) ((ob.sa (Yo S3)).sa (Yo s4)) ((Mp ..).trans wl) g4 w4 (by lia) λr2 j2 G5 s5 g5 b5 m5 q5=>?_
     simp! only[qA];refine q r2 j2 G5 ((S3.trans s4).trans s5) g5 (by lia) m5 λs o h1 h2=>.go fr ?_
     rw[ek];have e:s++[(a,h.set F (h[F].1,J)),(b,h.set F (J+1,h[F].2))].reverse=(s++[(b,h.set F (J+1,h[F].2))])++[(a,h.set F (h[F].1,J))]:=by simp
     rw[e];exact q4 _ o (λ_=>q5 s o h1 h2) λp z=>by cases z
 |false=>
  rw[show Xh u = "" by unfold Xh;rw[c1,c2,c4];rfl]
  rw[if_pos (by decide +kernel)]
  simp! only[];exact⟨by decide,za _ L (dG c2 c1 c4) Sa.refl⟩
end

noncomputable def W7  : List Str:=["shape", "ring", "bar", "span", "cut", "price", "bound"]
def bT        (h0:fltM P ss wts bnd h u=ca x):x∈W7:=by
 unfold fltM at h0;have e:∀{y:Str},y∈W7->ca y=ca x->x∈W7:=λF z=>by cases z;exact F
 have m:∀y∈W7,y∈W7:=λ_ h=>h;split at h0<;>(repeat' split at h0)<;>first|cases h0;done|exact e (by simp[W7]) h0
def yT        (h:cf P ss wts bnd s n o):∀{x } {m },o=ca (x,m)->x∈W7:=by
 induction h with
 |nil=>intro x m e;cases e
 |bad y=>intro x m e;cases e;exact bT y
 |go _ _ z=>exact z
def wN  : ∀x∈W7,x.length<=6/\∀c∈x.cps.toList,c<16 ^ 8:=by decide +kernel
noncomputable def aU  : Option (Str×Nat)->U
 |none=>.bl da
 |some (x,n)=>.tup [.str x,.int n]
def AN   (y:∀x m,o=ca (x,m)->x∈W7)(F:∀x m,o=ca (x,m)->m<=100000):∃z ,∀G Q ,Q (.str z) G->Ho [aU o] G Q:=by
 match o,y,F with
 |none,_,_=>exact⟨_,λG Q q=>⟨.bool da,.bl da,(Fits.bl da).mono (by decide) (Me _),q⟩⟩
 |some (x,m),y,F=>
  have J:=wN x (y x m rfl);have L:=F x m rfl;have I:Bx 200 1 0 (.tuple [.str x,.int m]):=⟨⟨J.2,Jb (show(m:Int).natAbs<=100000 by lia) (by decide),trivial⟩,by show(10*x.length+2)+2+(50+2+0)+3<=200;lia,by show max 0 (max 0 0)+1<=1;decide⟩
  exact⟨_,λG Q q=>⟨.tuple [.str x,.int m],.tup (.cons (.str x) (.cons (.int _) .nil)),(I.ft (by decide)).mono (by decide) (by decide),q⟩⟩
def BP  : ∀(kvs acc:List (Vb×U)),((acc++kvs).map (·.1)).Nodup->kvs.foldl (λacc I=>dPut acc I.1 I.2) acc=acc++kvs:=by
 intro kvs
 induction kvs with
 |nil=>intro acc _;simp
 |cons x r L=>
  intro acc F;have e:dPut acc x.1 x.2=acc++[x]:=by
   unfold dPut;rw[if_neg];intro z;obtain⟨y,J,e⟩:=Ic.mp z;rw[ue,kC]at F;exact F.2.2 y.1 (Xs (f:=(·.1)) J) x.1 (by simp) (of_decide_eq_true e)
  show r.foldl _ (dPut acc x.1 x.2)=_;rw[e,L (acc++[x]) (by rw[Op];exact F),Op]
  rfl

def WM     (g:G a=ca (.dK kvs)):Oe .update (.loc a) G=ca ("dict", "dict.update"):=by unfold Oe;dsimp only;rw[g]
def up_l      (g:G a=ca (.dK kvs))(F:G b=ca (.dK y))(J:a≠b)(z:kvs.length+y.length<=Wa)(I:((kvs++y).map (·.1)).Nodup)(q:∀G',Dh G a (.dK (kvs++y)) G'->Q .non G'):Yd .update (.loc a) [.loc b] G Q:=by
 unfold Yd updU;dsimp only;rw[g,F];refine⟨J,z,?_⟩;rw[BP y kvs I];exact λG' p=>q G' p
theorem FO  (Z:Eh xs ss P wts)(o:Ob w 60 0 G th)(hw:w<=100000)(q:∀o G',Sa G G'->cf P ss wts bnd [(th,winO P ss)] 0 o->(∀x m,o=ca (x,m)->m<=100000)->Q (aU o) G') :
  Ta T (k+67) II [Nb xs ss,.int P,Tc wts,.int bnd,th] G Q X:=by
 obtain⟨W,so⟩:=Z.so;refine⟨rfl,?_⟩;simp! only[DI,Qb,Ab];refine⟨by decide,λpw G1 I=>⟨by decide,?_⟩⟩
 have xa:(([(.inr "plan",Nb xs ss),(.inr "cycle",.int P),(.inr "words",.loc pw),(.inr "at",.int 0)]:List (Vb×U)).map (·.1)).Nodup:=by
  show [(.inr "plan" : Vb),.inr "cycle",.inr "words",.inr "at"].Nodup;decide +kernel
 rw[oy xa];intro J G2 F;simp! only[qJ,WM F.at];refine⟨by decide,?_⟩
 have za:(([(.inr "weights",Tc wts),(.inr "bound",.int bnd)]:List (Vb×U)).map (·.1)).Nodup:=by
  show [(.inr "weights" : Vb),.inr "bound"].Nodup;decide +kernel
 rw[oy za];intro pm G3 L;have ne:J≠pm:=λz=>by have:=L.no;rw[<- z,F.at]at this;cases this
 refine up_l (L.sa _ _ F.at) L.at ne (by show 4+2<=Wa;decide) Lj λG4 p4=>?_
 simp! only[rJ];refine bR (k:=k+64) so Z.sl λG5 R=>?_;have nb:pw≠J:=λz=>by have:=F.no;rw[<- z,I.at]at this;cases this
 have O:Sa G (hide G4 J):=λb v e=>Sk (p4.sm _ _ (λy=>by rw[y]at e;have:=F.no;rw[I.sa _ _ e]at this;cases this) (L.sa _ _ (F.sa _ _ (I.sa _ _ e)))) λy=>by rw[y]at e;have:=F.no;rw[I.sa _ _ e]at this;cases this
 have g5:G5 J=ca (.dK (Ap xs ss P pw wts bnd ((0:Nat):Int))):=R _ _ p4.at
 have gw:G5 pw=ca (.lst wdsU):=R _ _ (p4.sm _ _ nb (L.sa _ _ (F.sa _ _ I.at)));refine OU (k:=k) (n:=60) Z (h:=winO P ss) (w:=w) (i:=0) ((o.sa O).sa R.hide) (Bc _) g5 gw (by lia) λr j G6 s6 g6 bj br hr=>?_
 have ja:Sa G G6:=λb v e=>by
  have Y:b≠J:=λy=>by rw[y]at e;have:=F.no;rw[I.sa _ _ e]at this;cases this
  exact s6 _ _ Y (R _ _ (ij _ _ (O _ _ e)))
 have ho:cf P ss wts bnd [(th,winO P ss)] 0 r:=by
  have:=hr [] r (λz=>by rw[z];exact .nil) λp z=>z
  exact this
 have:=q r G6 ja ho br;simp! only[];cases r with
 |none=>
  rw[show ∀kk:Bool->Prop,lj (oU la) .non kk=kk da from λ_=>rfl];rw[if_pos rfl];exact this
 |some p=>
  obtain⟨x,y⟩:=p;rw[show ∀kk:Bool->Prop,lj (oU (ca (x,y))) .non kk=kk ia from λ_=>rfl];rw[if_neg (by decide)]
  exact this
def dR  (J:Eh xs ss P wts)(o:Ob w 60 0 G F)(I:w<=100000)(q:∀o G',Sa G G'->cf P ss wts bnd [(F,winO P ss)] 0 o->(∀x m,o=ca (x,m)->m<=100000)->Q (aU o) G') :
  Ta T (k+11) IJ [Nb xs ss,.int P,Tc wts,.int bnd,F] G Q X:=by
 refine⟨rfl,?_⟩;simp! only[FJ,Qb,Ab];refine aR (k:=k) J (o.up (ub _) (by decide)) I (λy s1 z=>?_) λx m y s1 z L=>⟨.inl trivial,?_⟩
 ·simp! only[];exact q la y s1 z λx m e=>nomatch e
 ·simp[rh,yp,Qg,lit1,litH,atsH,Vk,clsF,clsA,-AK];simp! only[];exact q (ca (x,m)) y s1 z λx m e=>by cases e;exact L


def KO  (hf:Fn G f c n)(hn:n<=900000000)(q:∀(W:Nat) P G' ,0<W->W<=8->1<=P->P<=30->Fn G' f c (n+3)->Sm f G G'->Q (.tup [.int W,.int P]) G'):Ta T (k+2) GI [.loc f] G Q X:=by
 refine⟨rfl,?_⟩;simp! only[kJ,Qb,Ab];refine Mc hf (by lia) (by decide) (by decide) λr G1 a1 b1 J s1=>?_
 simp! only[];by_cases R:r=0
 ·rw[if_pos (by simpa using R)]
  refine Mc J (by lia) (by decide) (by decide) λw G2 a2 b2 f2 s2=>Mc f2 (by lia) (by decide) (by decide) λp Z a3 Y L I=>⟨by decide,?_⟩
  have:=q (6+w.toNat) (1+p) Z (by lia) (by lia) (by lia) (by lia) L ((s1.trans s2).trans I)
  rw[show((6+w.toNat:Nat):Int)=6+w by lia]at this
  exact this
 ·rw[if_neg (by simpa using R)]
  simp! only[];refine⟨by decide,λp2 G2 F=>Mc (J.new F) (by lia) (by decide) (by decide) λr3 Z a3 Y L I=>?_⟩
  refine Jg [2,3,3,4,2,4,5,1] (I _ _ (J.away F).1 F.at) a3 Y λz hz=>?_;have za:1<=z/\z<=5:=by simp only[Oc,Je,or_false]at hz;lia
  have S3:=(s1.nw F).trans I;simp! only[];refine⟨by decide,λp4 G4 O=>?_⟩
  refine Jg [30,30,7,4,2] O.at (by lia) (by show _<(5:Int);lia) λy hy=>?_
  have xa:1<=y/\y<=30:=by simp only[Oc,Je,or_false]at hy;lia
  refine Mc (L.new O) (by lia) (by lia) (by lia) λp G5 a5 b5 f5 s5=>⟨by decide,?_⟩
  have:=q z.toNat (1+p) G5 (by lia) (by lia) (by lia) (by lia) f5 ((S3.nw O).trans s5)
  rw[show((z.toNat:Nat):Int)=z by lia]at this
  exact this
noncomputable def wz  : Nat->Nat
 |0=>62
 |n+1=>6*wz n
def Oz  (n:Nat)(G:Gp)(u:U):Prop:=Ob (wz n) n 0 G u
noncomputable def OC  (x:Str):Bool:=decide (x.length<=6)&&x.cps.all (·< 128)
theorem Jk  : ∀n,62<=wz n
 |0=>ub _
 |n+1=>by have:=Jk n;show 62<=6*wz n;lia
section
variable {n:Nat}{G G':Gp}{a b c d e:U}{us:List U}{ds:List Ma}{p:Aa}
theorem Hv  : ∀{us },(∀u∈us,Oz n G u)->∃ds,Ld G us ds/\Cf (us.length*(wz n+2)) n 0 ds
 |[],_=>⟨[],.nil,trivial,Me _,Me _⟩
 |u::r,h=>by
  obtain⟨d,t,b⟩:=h u Uf;obtain⟨ds,ts,bs⟩:=Hv λv y=>h v (Le _ y);refine⟨d::ds,.cons t ts,⟨⟨b.ok,bs.ok⟩,?_,Dj.mpr ⟨b.k,bs.k⟩⟩⟩;have F:=b.w;have z:=bs.w;show wt d+2+Cg ds<=(r.length+1)*(wz n+2);rw[Nat.succ_mul];lia
def wF   (h:m<=5):m*(wz n+2)+3<=wz (n+1):=by
 have:=Jk n;have y:=uK (wz n+2) h;show _<=6*wz n
 lia
def Oz.tup  (h:∀u∈us,Oz n G u)(l:us.length<=5):Oz (n+1) G (.tup us):=by
 obtain⟨z,t,b⟩:=Hv h;exact⟨.tuple z,.tup t,b.tup.mono (wF l) (ub _) (ub _)⟩
def Oz.lst  (g:G p=ca (.lst us))(h:∀u∈us,Oz n G u)(l:us.length<=5):Oz (n+1) G (.loc p):=by
 obtain⟨z,t,b⟩:=Hv h;exact⟨.list z,.lst g t,b.lst.mono (wF l) (ub _) (ub _)⟩
def Oz.non  : Oz n G .non:=⟨_,.non,trivial,Jb (show 5<=62 by decide) (Jk n),Me _⟩
def Oz.bl   : Oz n G (.bl x):=⟨_,.bl x,trivial,Jb (show 5<=62 by decide) (Jk n),Me _⟩
def Oz.int   (h:i.natAbs<=10 ^ 39):Oz n G (.int i):=⟨_,.int i,h,Jb (show 50<=62 by decide) (Jk n),Me _⟩
def Oz.sm   (h:-1000<=i/\i<=1000):Oz n G (.int i):=Oz.int (Jb (show i.natAbs<=1000 by lia) (by decide))
def Oz.str   (h:OC x=da):Oz n G (.str x):=by
 unfold OC at h;rw[Lc,decide_eq_true_eq]at h;refine⟨_,.str x,λc z=>?_,Jb (show 10*x.length+2<=62 by lia) (Jk n),Me _⟩
 have:=Array.all_eq_true_iff_forall_mem.mp h.2 c (by simpa using z)
 exact iB (of_decide_eq_true this) (by decide)
def Oz.dic  (g:G p=ca (.dK [])):Oz (n+1) G (.loc p):=⟨_,.dic g,rfl,Jb (show 2<=62 by decide) (Jk _),ut (Me _)⟩
def Oz.six  (h:∀u∈us,Oz n G u)(l:us.length<=6):Oz (n+2) G (.tup us):=by
 obtain⟨z,t,b⟩:=Hv h;refine⟨.tuple z,.tup t,b.tup.mono ?_ (Hw _) (ub _)⟩;have:=Jk n;have F:=uK (wz n+2) l;show _<=6*(6*wz n)
 lia
abbrev Ou  (G:Gp)(u:U):Prop:=Ob 90000 20 0 G u
def Oz.ou  (h:Oz 4 G a):Ou G a:=Ob.up h (by decide) (by decide)
def Lr    {Q:K1}(z:G u=ca (.lst xs))(F:G v=ca (.lst ys))(O:xs.length<=m)(R:ys.length<=100)(Y:m<=1000)(J:∀x∈xs,Ou G x)(L:∀y∈ys,Ou G y)(q:∀p G',Wh G p (.lst (xs++ys)) G'->(xs++ys).length<=m+ys.length->(∀x∈xs++ys,Ou G x)->Q (.loc p) G'):binU .Add (.loc u) (.loc v) G Q:=by
 refine⟨_,_,z,F,Jb (show _<=1100 by lia) (by decide),λp G' n=>q p G' n (by rw[Ke];lia) λx I=>?_⟩
 rcases Oa.mp I with h|h
 ·exact J x h
 ·exact L x h
end
def RB  (us:List U)(n:Nat):Prop:=∃y,(∀G,Ld G us y)/\Cf (109*n) 1 0 y
theorem RB.of   (I:N<=24):∀{us },(∀e∈us,Ew N e)->RB us us.length
 |[],_=>⟨[],λ_=>.nil,trivial,ub _,Me _⟩
 |u::r,h=>by
  obtain⟨s,y,rfl,R,J⟩:=h u Uf;obtain⟨O,t,b⟩:=RB.of I λe F=>h e (Le _ F);have L:y.natAbs<=10 ^ 39:=by rcases J with rfl|rfl<;>decide
  have s1:(s:Int).natAbs<=10 ^ 39:=Jb (show(s:Int).natAbs<=24 by lia) (by decide)
  have z:Bx 107 1 0 (.tuple [.int s,.int y]):=((Cf.one (Hy s1)).app (Cf.one (Hy L))).tup;refine⟨.tuple [.int s,.int y]::O,λG=>.cons (.tup (.cons (.int _) (.cons (.int _) .nil))) (t G),((Cf.one z).app b).mono ?_ (ub _) (ub _)⟩;show 107+2+109*r.length<=109*(r.length+1)
  lia

theorem nE   (F:N<=24):∀{ps },(∀u∈ps,Pr N u)->∃ds,(∀G,Ld G ps ds)/\Cf (2242*ps.length) 3 0 ds
 |[],_=>⟨[],λ_=>.nil,trivial,ub _,Me _⟩
 |u::r,h=>by
  obtain⟨z,O,rfl,hz,y,Z⟩:=h u Uf;obtain⟨ds,t,b⟩:=nE F λe y=>h e (Le _ y);obtain⟨I,Y,R⟩:=(RB.of F y);have L:z.natAbs<=10 ^ 39:=Jb (show z.natAbs<=999 by lia) (by decide)
  have J:Bx 2240 3 0 (.tuple [.int z,.tuple I]):=(((Cf.one ((Hy L).mono (ub _) (by decide:0<=2) (ub _))).app (Cf.one R.tup)).tup).mono (by show 50+2+(109*O.length+3+2)+3<=2240;lia) (by decide) (ub _)
  refine⟨.tuple [.int z,.tuple I]::ds,λG=>.cons (.tup (.cons (.int _) (.cons (.tup (Y G)) .nil))) (t G),((Cf.one J).app b).mono ?_ (ub _) (ub _)⟩;show 2240+2+2242*r.length<=2242*(r.length+1)
  lia

def CV  (hf:Fn G f c n)(hn:n<=900000000)(sl:ss.length<=24)(q:∀(F:List Int) G' ,F.length=ss.length->Bd 100 F->Fn G' f c (n+100)->Sm f G G'->Q (Tc F) G'):Ta T (k+2) vJ [.loc f,Nb xs ss] G Q X:=by
 refine⟨rfl,?_⟩;simp! only[uJ,Qb,Ab];refine Mc hf (by lia) (by decide) (by decide) λxa G1 a1 b1 f1 s1=>⟨by decide,λp G2 L=>?_⟩
 have hp:=f1.away L;simp! only[jK,Nb,ix_t (Fc _ _ _)];refine Df (λi ς G'=>∃(F:List Int) (o4:Option U),ς=[ca (.loc f),ca (Nb xs ss),ca (.int xa),ca (.loc p),o4]/\Fn G' f c (n+1+3*i)/\Sm f G G'/\G' p=ca (.lst (F.map .int))/\F.length=i/\∀z∈F,-100<=z/\z<=100) ?_ ?_ ⟨[],la,rfl,f1.new L,s1.nw L,L.at,rfl,λ_ h=>(nomatch h)⟩
 ·rintro ς G3 ⟨F,o4,rfl,f3,s3,g3,hl,hb⟩;rw[Bc]at hl f3;refine⟨trivial,?_⟩;simp! only[];rw[it_l g3];refine q F G3 hl (λi=>?_) (f3.mono (by lia)) s3
  by_cases c:i<F.length
  ·have e:F.getD i 0=F[i]:=by simp[Hf,c]
   rw[e];have:=hb _ (vt c)
   lia
  ·have e:F.getD i 0=0:=by simp[Hf,cC (by lia:F.length<=i)]
   rw[e];decide
 ·rintro i x ς G3 K hx ⟨F,o4,rfl,f3,s3,g3,hl,hb⟩ hk;have hi:=(Ka.mp hx).1;rw[Bc]at hi;refine⟨trivial,?_⟩;simp! only[Xo g3];refine Mc f3 (by lia) (by decide) (by decide) λr1 G4 a4 b4 f4 s4=>Mc f4 (by lia) (by decide) (by decide) λr2 G5 a5 b5 f5 s5=>⟨by decide,λp6 G6 O=>Mc (f5.new O) (by lia) (by decide) (by decide) λr3 G7 a7 b7 f7 s7=>?_⟩
  refine Jg [0,1,99] (s7 _ _ (f5.away O).1 O.at) a7 b7 λz hz=>⟨by decide,λp8 G8 R=>?_⟩
  have za:0<=z/\z<=99:=by simp only[Oc,Je,or_false]at hz;lia
  refine Jg [r1,r2,z] R.at a1 b1 λy hy=>?_;have Y:-100<=y/\y<=100:=by simp only[Oc,Je,or_false]at hy;lia
  have J:Sm f G3 G8:=(((s4.trans s5).nw O).trans s7).nw R;have g8:=J _ _ hp.1 g3;rw[Ro g8];refine⟨by rw[Bc];exact Yg (show _<=24 by lia) (by decide),λG9 Z=>?_⟩
  refine hk _ _ ⟨F++[y],ca x,rfl,(f7.new R).off hp Z |>.mono (by lia),λb v I e=>Z.sm _ _ (λz=>?_) (J _ _ I (s3 _ _ I e)),?_,by rw[Ke,hl];rfl,λz hz=>?_⟩
  ·have:=L.no;rw[<- z,s1 _ _ I e]at this;cases this
  ·rw[ue];exact Z.at
  ·rcases Oa.mp hz with h|h
   ·exact hb z h
   ·rw[Ea.mp h];exact Y

noncomputable def endU  : U:=.tup [.str "prices",.tup []]
def Ff  {p:U->Prop}:∀u∈([]:List U),p u:=nofun
def Qd  {p:U->Prop}(h:p a)(t:∀u∈l,p u):∀u∈a::l,p u:=λu hu=>by
 rcases Oc.mp hu with rfl|hu
 ·exact h
 ·exact t u hu
def Oz.mono     (h:Oz n G a)(e:n<=m):Oz m G a:=by
 refine Ob.up h ?_ e
 induction e with
 |refl=>exact ub _
 |@step j _ z=>exact Jb z (show wz j<=6*wz j by lia)
def Pj    : Oz (n+2) G endU:=Oz.tup (Qd (Oz.str (by decide +kernel)) (Qd (Oz.tup Ff (by decide)) Ff)) (by decide)

def mn_7  {X: KX}(hf:Fn G f c n)(hn:n<=800000000)(so:∀s∈ss,s.Ok W)(sl:ss.length<=24)(w8:W<=8)(xl:xs.length=W)(h:Tl G p f c ws m)(hm:m<=900)(q:∀p' ws G',G' p'=ca (.lst ws)->(ws.length<=2000/\∀u∈ws,Ou G' u)->Fn G' f c (n+400)->(∀b v,b≠f->G b=ca v->G' b=ca v)->Q (.loc p') G') :
  Dc T.gs (Ta T (k+3)) gA ⟨λ_ G'=>Q .non G',Q,λx _ G'=>X x G'⟩ [ca (.loc f),ca (Nb xs ss),ca endU,ca (.loc p),o4,o5] G:=by
 have hu:∀u∈ws,Ou G u:=λx y=>Ob.sa (h.o x y) ij;simp! only[gA];refine⟨by decide,by decide,by decide,by decide,by decide,λp1 G1 z=>?_⟩
 refine Lr (z.sa _ _ h.g) z.at h.l (by simp) (by lia) (λx y=>(hu x y).sa z.sa) ?_ λp2 G2 F l2 h2=>?_
 ·repeat' first|exact Ff|refine Qd (Oz.ou ?_) ?_|refine Qd ?_ ?_|exact Pj|exact Oz.non|exact Oz.str (by decide +kernel)|exact Oz.sm (by lia)|refine Oz.tup ?_ (by simp)
 have f2:=(hf.new z).new F;have xa:=(hf.new z).away F;simp! only[];refine BW (k:=k) f2 (by lia) so sl w8 xl λps G3 R pl f3 s3=>⟨by decide,by decide,λp4 O I=>?_⟩
 have g4:=I.sa _ _ (s3 _ _ xa.1 F.at);have za:∀x∈ws++_,Ou O x:=λx y=>((((h2 x y).sa F.sa).mn f2 s3).sa I.sa);refine Lr g4 I.at l2 (by simp) (by simp;lia) za ?_ λp5 G5 L l5 h5=>?_
 ·refine Qd ?_ Ff;obtain⟨Y,t,b⟩:=nE sl R;obtain⟨J,t0,Z⟩:Oz 0 O (.str "prices"):=Oz.str (by decide +kernel)
  have w0:wt J<=62:=Z.w;have w1:=b.w;have k0:=Z.k;have k1:=b.k;refine⟨.tuple [J,.tuple Y],.tup (.cons t0 (.cons (.tup (t O)) .nil)),⟨Z.ok,b.ok,trivial⟩,?_,?_⟩
  ·show wt J+2+(Cg Y+3+2+0)+3<=90000;have:=Nat.mul_le_mul_left 2242 pl
   lia
  ·show max J.depth (max (Rh Y+1) 0)+1<=20
   lia
 have S2:=z.sa.trans F.sa;exact q p5 _ G5 L.at ⟨Jb l5 (by simp;lia),λx y=>(h5 x y).sa L.sa⟩ ((f3.new I).new L) λb v hb e=>L.sa _ _ (I.sa _ _ (s3 _ _ hb (S2 _ _ e)))
def mn_6  {X: KX}(hf:Fn G f c n)(hn:n<=790000000)(so:∀s∈ss,s.Ok W)(sl:ss.length<=24)(Z:W<=8)(xl:xs.length=W)(h:Tl G p f c ws m)(hm:m<=800)(q:∀y ws G',G' y=ca (.lst ws)->(ws.length<=2000/\∀u∈ws,Ou G' u)->Fn G' f c (n+400)->(∀b v,b≠f->G b=ca v->b≠p->G' b=ca v)->Q (.loc y) G') :
  Dc T.gs (Ta T (k+3)) fA ⟨λ_ G'=>Q .non G',Q,λx _ G'=>X x G'⟩ [ca (.loc f),ca (Nb xs ss),ca endU,ca (.loc p),o4,o5] G:=by
 simp! only[fA];refine⟨⟨by decide,by decide,by decide⟩,by decide,by decide,?_⟩
 refine Df (λi O G'=>∃ws o5,O=[ca (.loc f),ca (Nb xs ss),ca endU,ca (.loc p),o4,o5]/\Tl G' p f c ws (m+i)/\Fn G' f c n/\∀b v,b≠f->G b=ca v->b≠p->G' b=ca v) ?_ ?_ ⟨ws,o5,rfl,h,hf,λb v _ e _=>e⟩
 ·rintro O G' ⟨ws,o5,rfl,h1,f1,s1⟩;refine⟨trivial,?_⟩;refine mn_7 (k:=k) f1 (by lia) so sl Z xl h1 (by show m+7<=900;lia) λy I Y g2 hw f2 s2=>?_
  exact q y I Y g2 hw f2 λb v F e z=>s2 b v F (s1 b v F e z)
 ·rintro i x O G' K R ⟨ws,o5,rfl,h1,f1,s1⟩ hk;have hi:i<7:=by
   have:=(Ka.mp R).1;simpa using this
  have J:∀G,Oz 1 G x:=by
   have:=Ze R;intro G;refine(?_:∀u∈_,Oz 1 G u) x this
   repeat' first|exact Ff|refine Qd ?_ ?_|exact Oz.non|exact Oz.bl|exact Oz.str (by decide +kernel)|exact Oz.sm (by lia)|exact Oz.int (by decide)|refine Oz.tup ?_ (by simp)
  refine⟨trivial,?_⟩;simp! only[RI,Xo h1.g];refine⟨by decide,by decide,by decide,by decide,?_⟩
  rw[Ro h1.g];refine⟨Yg (show _<=1000 by have:=h1.l;lia) (by decide),λG4 L=>?_⟩
  refine hk _ _ ⟨ws++[.tup [.str "split",.int 0,x,endU,.tup [.str "ring",.tup [.tup [.int 0,.int 1]]]]],ca x,rfl,h1.app (Oz.ou ?_) L,f1.off ⟨h1.hd.nf,h1.hd.nc⟩ L,λb v F e z=>L.sm _ _ z (s1 b v F e z)⟩;refine Oz.tup ?_ (by simp)
  refine Qd (Oz.str (by decide +kernel)) (Qd (Oz.sm (by decide)) (Qd ((J _).mono (by decide)) ?_))
  repeat' first|exact Ff|refine Qd ?_ ?_|exact Pj|exact Oz.str (by decide +kernel)|exact Oz.sm (by lia)|refine Oz.tup ?_ (by simp)
def mn_5  {X: KX}(hf:Fn G f c n)(hn:n<=780000000)(so:∀s∈ss,s.Ok W)(sl:ss.length<=24)(w8:W<=8)(xl:xs.length=W)(h:Tl G p f c ws m)(hm:m<=700)(q:∀L ws G',G' L=ca (.lst ws)->(ws.length<=2000/\∀u∈ws,Ou G' u)->Fn G' f c (n+420)->(∀b v,b≠f->G b=ca v->b≠p->G' b=ca v)->Q (.loc L) G') :
  Dc T.gs (Ta T (k+3)) dA ⟨λ_ G'=>Q .non G',Q,λx _ G'=>X x G'⟩ [ca (.loc f),ca (Nb xs ss),ca endU,ca (.loc p),o4,o5] G:=by
 simp! only[dA,Nb,ix_t (Fc _ _ _),Bc];refine⟨⟨by decide,by decide,by decide⟩,by decide,?_⟩
 refine Df (λi ς G'=>∃ws o4,ς=[ca (.loc f),ca (Nb xs ss),ca endU,ca (.loc p),o4,o5]/\Tl G' p f c ws (m+i)/\Fn G' f c (n+i)/\∀b v,b≠f->G b=ca v->b≠p->G' b=ca v) ?_ ?_ ⟨ws,o4,rfl,h,hf,λb v _ e _=>e⟩
 ·rintro ς G' ⟨ws,o4,rfl,h1,f1,s1⟩;refine⟨trivial,?_⟩;refine mn_6 (k:=k) f1 (by show n+8<=_;lia) so sl w8 xl h1 (by show m+8<=800;lia) λL R G2 g2 hw f2 s2=>?_
  exact q L R G2 g2 hw (f2.mono (by show n+8+400<=_;lia)) λb v J e I=>s2 b v J (s1 b v J e I) I
 ·rintro i x ς G' K hx ⟨ws,o4,rfl,h1,f1,s1⟩ hk;have hi:i<8:=by
   have:=(Ka.mp hx).1;simpa using this
  have Y:∀G,Oz 1 G x:=by
   have:=Ze hx;intro G;refine(?_:∀u∈_,Oz 1 G u) x this
   repeat' first|exact Ff|refine Qd ?_ ?_|exact Oz.non|exact Oz.bl|exact Oz.str (by decide +kernel)|exact Oz.sm (by lia)|exact Oz.int (by decide)|refine Oz.tup ?_ (by simp)
  refine⟨trivial,?_⟩;simp! only[QI,Xo h1.g];refine⟨by decide,λp2 G2 O=>?_⟩
  refine Mc (f1.new O) (by lia) (by decide) (by decide) λr G3 a3 b3 f3 s3=>?_
  refine Jg [0,1,5] (s3 _ _ (f1.away O).1 O.at) a3 b3 λz hz=>?_;have xa:0<=z/\z<=5:=by simp only[Oc,Je,or_false]at hz;lia
  simp! only[];refine⟨by decide,?_⟩
  have F:=(Sm.refl.nw O).trans s3;have y:=h1.sm f1 F;rw[Ro y.g];refine⟨Yg (show _<=1000 by have:=y.l;lia) (by decide),λG4 Z=>?_⟩
  refine hk _ _ ⟨ws++[.tup [.str "split",x,.int z,endU,endU]],ca x,rfl,y.app (Oz.ou ?_) Z,f3.off ⟨y.hd.nf,y.hd.nc⟩ Z,λb v J e I=>Z.sm _ _ I (F _ _ J (s1 b v J e I))⟩;refine Oz.tup ?_ (by simp)
  exact Qd (Oz.str (by decide +kernel)) (Qd ((Y _).mono (by decide)) (Qd (Oz.sm (by lia)) (Qd Pj (Qd Pj Ff))))


def mn_3  {X: KX}(hf:Fn G f c n)(hn:n<=770000000)(so:∀s∈ss,s.Ok W)(sl:ss.length<=24)(w8:W<=8)(xl:xs.length=W)(g:G p=ca (.lst ws))(wl:ws.length<=12)(hw:∀u∈ws,Ou G u)(q:∀J ws G',G' J=ca (.lst ws)->(ws.length<=2000/\∀u∈ws,Ou G' u)->Fn G' f c (n+420)->(∀b v,b≠f->G b=ca v->G' b=ca v)->Q (.loc J) G') :
  Dc T.gs (Ta T (k+3)) cA ⟨λ_ G'=>Q .non G',Q,λx _ G'=>X x G'⟩ [ca (.loc f),ca (Nb xs ss),ca endU,ca (.loc p),o4,o5] G:=by
 simp! only[cA];refine⟨by decide,by decide,by decide,by decide,by decide,λp1 G1 L=>?_⟩
 refine Lr (L.sa _ _ g) L.at wl (by simp) (by decide) (λx Z=>(hw x Z).sa L.sa) ?_ λp2 G2 n2 l2 h2=>?_
 ·refine Qd (Oz.ou ?_) (Qd (Oz.ou ?_) (Qd (Oz.ou ?_) (Qd (Oz.ou ?_) Ff)))
  ·repeat' first|exact Ff|refine Qd ?_ ?_|exact Oz.str (by decide +kernel)|refine Oz.tup ?_ (by simp)
  ·repeat' first|exact Ff|refine Qd ?_ ?_|exact Pj|exact Oz.str (by decide +kernel)|exact Oz.sm (by lia)|refine Oz.tup ?_ (by simp)
  ·repeat' first|exact Ff|refine Qd ?_ ?_|exact Pj|exact Oz.str (by decide +kernel)|exact Oz.sm (by lia)|refine Oz.tup ?_ (by simp)
  ·refine Oz.six (n:=2) ?_ (by simp)
   repeat' first|exact Ff|refine Qd ?_ ?_|exact Pj|exact Oz.str (by decide +kernel)|exact Oz.sm (by lia)
 simp! only[cI];refine⟨by decide,by decide,λp3 G3 n3=>⟨by decide,λp4 G4 n4=>⟨by decide,by decide,by decide,by decide,by decide,by decide,by decide,λp5 G5 R=>⟨by decide,by decide,by decide,λp6 O I=>?_⟩⟩⟩⟩
 have g3:=((n4.sa.trans R.sa).trans I.sa) _ _ n3.at
 have g4:=(R.sa.trans I.sa) _ _ n4.at
 have g5:=I.sa _ _ R.at
 have y:=((n3.sa.trans n4.sa).trans R.sa).trans I.sa;refine Lr (y _ _ n2.at) I.at l2 (by simp) (by simp) (λx Z=>((h2 x Z).sa n2.sa).sa y) ?_ λp7 G7 F l7 h7=>?_
 ·have o1:Oz 1 O (.loc p3):=Oz.lst g3 Ff (by simp)
  have o2:Oz 1 O (.loc p4):=Oz.dic g4;have o3:Oz 1 O (.loc p5):=Oz.lst g5 (Qd (Oz.str (by decide +kernel)) Ff) (by simp)
  repeat' first|exact Ff|refine Qd (Oz.ou ?_) ?_|refine Qd ?_ ?_|exact Pj|exact o1.mono (by decide)|exact o2.mono (by decide)|exact o3.mono (by decide)|exact Oz.non|exact Oz.bl|exact Oz.str (by decide +kernel)|exact Oz.sm (by lia)|refine Oz.tup ?_ (by simp)
 have Y:Sa G O:=(L.sa.trans n2.sa).trans y;have S:Sa G G7:=Y.trans F.sa;have aa:=(hf.sa Y).away F;refine mn_5 (k:=k) (m:=40) (hf.sa S) (by lia) so sl w8 xl ⟨F.at,⟨aa.1,aa.2,_,F.at⟩,?_,λu hu=>(h7 u hu).sa F.hid⟩ (by decide) λJ xa G8 g8 h8 f8 s8=>q J xa G8 g8 h8 f8 λb v hb e=>s8 b v hb (S _ _ e) λz=>?_
 ·simp at l7 ⊢;lia
 ·have:=Y _ _ e;rw[z,F.no]at this;cases this
def cR  (hf:Fn G f c n)(hn:n<=770000000)(so:∀s∈ss,s.Ok W)(sl:ss.length<=24)(w8:W<=8)(xl:xs.length=W)(q:∀y ws G',G' y=ca (.lst ws)->(ws.length<=2000/\∀u∈ws,Ou G' u)->Fn G' f c (n+420)->Sm f G G'->Q (.loc y) G') :
  Ta T (k+4) IG [.loc f,Nb xs ss] G Q X:=by
 refine⟨rfl,?_⟩;simp! only[cH,Qb,Ab];refine⟨by decide,by decide,?_⟩
 simp! only[BI];refine⟨by decide,by decide,by decide,by decide,by decide,by decide,λp1 G1 Y=>⟨by decide,by decide,by decide,by decide,λZ G2 O=>⟨by decide,by decide,λp3 J z=>?_⟩⟩⟩
 have g1:=(O.sa.trans z.sa) _ _ Y.at
 have g2:=z.sa _ _ O.at
 have L:=(Y.sa.trans O.sa).trans z.sa;have h3:∀u∈[endU,.tup [.str "prices",.tup [],.tup []],.tup [.str "prices"],.loc p1,.tup [.str "price",.tup []],.tup [.str "prices",.non],.tup [.str "prices",.loc Z]],Ou J u:=by
  have o1:Oz 2 J (.loc p1):=Oz.lst g1 (Qd (Oz.str (by decide +kernel)) (Qd (Oz.tup Ff (by simp)) Ff)) (by simp)
  have o2:Oz 1 J (.loc Z):=Oz.lst g2 Ff (by simp)
  repeat' first|exact Ff|refine Qd (Oz.ou ?_) ?_|refine Qd ?_ ?_|exact Pj|exact o1.mono (by decide)|exact o2.mono (by decide)|exact Oz.non|exact Oz.str (by decide +kernel)|exact Oz.sm (by lia)|refine Oz.tup ?_ (by simp)
 simp! only[CI];refine⟨by decide,by decide,by decide,by decide,by decide,by decide,by decide,by decide,by decide,by decide,by decide,by decide,λp4 G4 F=>?_⟩
 refine Lr (F.sa _ _ z.at) F.at (m:=7) (ub _) (by simp) (by decide) (λx I=>(h3 x I).sa F.sa) ?_ λp5 G5 R l5 h5=>?_
 ·repeat' first|exact Ff|refine Qd (Oz.ou ?_) ?_|refine Qd ?_ ?_|exact Oz.non|exact Oz.str (by decide +kernel)|exact Oz.sm (by lia)|refine Oz.tup ?_ (by simp)
 have S:Sa G G5:=(L.trans F.sa).trans R.sa;exact mn_3 (k:=k) (hf.sa S) hn so sl w8 xl R.at (by simpa using l5) (λx I=>(h5 x I).sa R.sa) λy ws G6 g6 h6 f6 s6=>q y ws G6 g6 h6 f6 λb v hb e=>s6 b v hb (S _ _ e)


theorem IR  {X: KX}(L:Eh xs ss P wts)(o:Ou G x)(O:∀G' Q ,Sa G G'->Q (.str z) G'->Ho [x] G' Q)(kk:∀o10 o11 G',Sa G G'->K [ca (.loc a),ca (.loc f),o2,o3,ca (.int P),ca (Nb xs ss),ca (Tc wts),ca x,ca (.str z),ca (.int bnd),o10,o11] G') :
  Dc T.gs (Ta T (k+67)) RA ⟨K,Q,λx _ G'=>X x G'⟩ [ca (.loc a),ca (.loc f),o2,o3,ca (.int P),ca (Nb xs ss),ca (Tc wts),ca x,ca (.str z),ca (.int bnd),o10,o11] G:=by
 simp! only[RA];refine FO (k:=k) L (o.up (ub _) (by decide)) (by decide) λo1 R s1 y F=>?_
 simp! only[LJ];refine dR (k:=k+56) L ((o.sa s1).up (ub _) (by decide)) (by decide) λo2 Y s2 I _=>?_
 have e:=cf.uniq y I;subst e;obtain⟨t,J⟩:=AN (λx m e=>yT y e) F;simp! only[MJ];refine J _ _ (J _ _ (sF ?_));rw[if_neg (by decide)]
 simp! only[];refine O _ _ (s1.trans s2) (sF ?_);rw[if_neg (by decide)]
 exact kk _ _ _ (s1.trans s2)
theorem QT  {X: KX}(R:Eh xs ss P wts)(I:Fn G f c n)(hn:n<=100000000)(o:Ou G x)(kk:∀o8 o9 o10 o11 G',Fn G' f c (n+1)->Sm f G G'->K [ca (.loc a),ca (.loc f),o2,o3,ca (.int P),ca (Nb xs ss),ca (Tc wts),ca x,o8,o9,o10,o11] G') :
  Dc T.gs (Ta T (k+67)) BA ⟨K,Q,λx _ G'=>X x G'⟩ [ca (.loc a),ca (.loc f),o2,o3,ca (.int P),ca (Nb xs ss),ca (Tc wts),ca x,o8,o9,o10,o11] G:=by
 obtain⟨d,t,b⟩:=id o;obtain⟨z,L⟩:∃z:Str,∀(G':Gp) (Q:K1),Sm f G G'->Q (.str z) G'->Ho [x] G' Q:=⟨_,λG' Q s q=>⟨d,(t.mono I s).du,(b.ft (by decide)).mono (by decide) (by decide),q⟩⟩
 simp! only[BA];refine L _ _ Sm.refl ?_;simp! only[VH];refine⟨⟨by decide,by decide,by decide⟩,Mc I (by lia) (by decide) (by decide) λr O a1 b1 Z s1=>⟨by decide,?_⟩⟩
 refine Df (λi J G'=>Sa O G'/\∃o9 o10 o11,J=[ca (.loc a),ca (.loc f),o2,o3,ca (.int P),ca (Nb xs ss),ca (Tc wts),ca x,ca (.str z),o9,o10,o11]) ?_ ?_ ⟨Sa.refl,_,_,_,rfl⟩
 ·rintro J G' ⟨s2,o9,o10,o11,rfl⟩;exact⟨trivial,kk _ _ _ _ _ (Z.sa s2) (s1.trans s2.sm)⟩
 ·rintro i y J G' K hy ⟨s2,o9,o10,o11,rfl⟩ hk;obtain⟨F,rfl⟩:∃F,y=.int F:=by
   have:=Ze hy;simp only[Oc,Je,or_false]at this;rcases this with rfl|rfl|rfl<;>exact⟨_,rfl⟩
  refine⟨trivial,?_⟩;refine IR (k:=k) R (((o.mn I s1).sa s2)) (λG' Q s q=>L G' Q (s1.trans (s2.trans s).sm) q) λo10 o11 G3 Y=>hk _ _ ⟨s2.trans Y,_,_,_,rfl⟩
theorem UM  {X: KX}(L:Eh xs ss P wts)(Z:∀s∈ss,s.Ok W)(R:W<=8)(xl:xs.length=W)(Y:Fn G f c n)(hn:n<=90000000)(kk:∀o7 o8 o9 o10 o11 G',Fn G' f c (n+2500)->K [ca (.loc a),ca (.loc f),o2,o3,ca (.int P),ca (Nb xs ss),ca (Tc wts),o7,o8,o9,o10,o11] G') :
  Dc T.gs (Ta T (k+67)) Yz ⟨K,Q,λx _ G'=>X x G'⟩ [ca (.loc a),ca (.loc f),o2,o3,ca (.int P),ca (Nb xs ss),ca (Tc wts),o7,o8,o9,o10,o11] G:=by
 simp! only[Yz];refine cR (k:=k+63) Y (by lia) Z L.sl R xl λp ws G1 y hw z s1=>?_
 rw[it_l y];have I:p≠f:=xP z y;refine Df (λi F G'=>Sm f G1 G'/\Fn G' f c (n+420+i)/\∃o7 o8 o9 o10 o11,F=[ca (.loc a),ca (.loc f),o2,o3,ca (.int P),ca (Nb xs ss),ca (Tc wts),o7,o8,o9,o10,o11]) ?_ ?_ ⟨Sm.refl,z,_,_,_,_,_,rfl⟩
 ·rintro F O ⟨s2,f2,o7,o8,o9,o10,o11,rfl⟩;exact⟨by unfold Ad;rw[s2 _ _ I y],kk _ _ _ _ _ _ (f2.mono (by lia))⟩
 ·rintro i x F O Kz J ⟨s2,f2,o7,o8,o9,o10,o11,rfl⟩ hk;have hi:=(Ka.mp J).1;refine⟨by unfold Ad;rw[s2 _ _ I y],?_⟩
  exact QT (k:=k) L f2 (by lia) ((hw.2 x (Ze J)).mn z s2) λo8 o9 o10 o11 G3 f3 s3=>hk _ _ ⟨s2.trans s3,f3,_,_,_,_,_,rfl⟩
theorem vD  {X: KX}{W: Nat}(w0:0<W)(y:W<=8)(J:1<=P)(z:P<=600)(L:Fn G f c n)(hn:n<=80000000)(kk:∀o3 o4 o5 o6 o7 o8 o9 o10 o11 G',Fn G' f c (n+4000)->K [ca (.loc a),ca (.loc f),o2,o3,o4,o5,o6,o7,o8,o9,o10,o11] G') :
  Dc T.gs (Ta T (k+67)) Xz ⟨K,Q,λx _ G'=>X x G'⟩ [ca (.loc a),ca (.loc f),o2,ca (.int W),ca (.int P),o5,o6,o7,o8,o9,o10,o11] G:=by
 simp! only[Xz];refine NU (k:=k+64) L (by lia) J z w0 y (by decide) (by decide) λxs ss G1 xl nm I F O s1=>?_
 simp! only[SG];refine CV (k:=k+65) O (by lia) I λxa G2 el R Z s2=>?_
 exact UM (k:=k) ⟨⟨W,F⟩,I,J,z,el,R⟩ F y xl Z (by lia) λ_ _ _ _ _ G' Y=>kk _ _ _ _ _ _ _ _ _ _ (Y.mono (by lia))
def Rest  (a f:Aa)(y:Sg):Prop:=∃o2 o3 o4 o5 o6 o7 o8 o9 o10 o11:Option U,y=[ca (.loc a),ca (.loc f),o2,o3,o4,o5,o6,o7,o8,o9,o10,o11]
theorem iT  {X: KX}(L:Fn G f c n)(hn:n<=70000000)(kk:∀I G',Rest a f I->Fn G' f c (n+5000)->K I G') :
  Dc T.gs (Ta T (k+67)) Wz ⟨K,Q,λx _ G'=>X x G'⟩ [ca (.loc a),ca (.loc f),o2,o3,o4,o5,o6,o7,o8,o9,o10,o11] G:=by
 simp! only[Wz];refine KO (k:=k+65) L (by lia) λW P G1 O J Y R Z s1=>?_
 simp! only[];refine⟨trivial,?_⟩;simp! only[RG];refine Mc Z (by lia) (by decide) (by decide) λr G2 a2 b2 F s2=>?_
 simp! only[];by_cases z:r=0
 ·rw[if_pos (by simpa using z)]
  simp! only[];refine⟨by decide,trivial,?_⟩
  exact vD (k:=k) (W:=8) (P:=600) (by decide) (by decide) (by decide) (by decide) F (by lia) λ_ _ _ _ _ _ _ _ _ G' y=>kk _ _ ⟨_,_,_,_,_,_,_,_,_,_,rfl⟩ (y.mono (by lia))
 ·rw[if_neg (by simpa using z)]
  exact vD (k:=k) O J Y (by lia) F (by lia) λ_ _ _ _ _ _ _ _ _ G' y=>kk _ _ ⟨_,_,_,_,_,_,_,_,_,_,rfl⟩ (y.mono (by lia))
def law_ir   a (ns:List Int)(Z:ns.length<=63):Ta T 300 my [.loc a] (G0 a ns) (λu _=>u=.bl da) λ_ _=>False:=by
 refine⟨rfl,?_⟩;simp! only[yD,Qb,Ab,nF];refine JO (k:=298) (show G0 a ns a=ca (.fro (ns.map .int))from if_pos rfl) λf c Y R=>?_;refine⟨by decide,by decide,?_⟩
 refine Df (λi y F=>Rest a f y/\Fn F f c (5000*i)) ?_ ?_ ⟨⟨_,_,_,_,_,_,_,_,_,_,rfl⟩,R⟩
 ·rintro y I ⟨_,_⟩;exact⟨trivial,trivial⟩
 ·rintro i x y I K O ⟨⟨o2,o3,o4,o5,o6,o7,o8,o9,o10,o11,rfl⟩,f2⟩ hk;obtain⟨z,rfl⟩:=Kh O;have z:i<3:=z;exact⟨trivial,iT (k:=232) f2 (by lia) λy F L J=>hk _ _ ⟨L,J⟩⟩

def sts  : List Pa:=[s_is_whole,s_is_within,s_top_of,s_window_of,s_windows_of,s_with_window,s_is_work_of,s_is_entry,s_ends_of,s_is_ring,s_entry_sums,s_sums_of,s_ring_bars,s_has_shape,s_split_fault,s_ring_fault,s_node_fault,s_split_sides,s_look_through,s_is_priced_ring,s_are_prices,s_left_of,s_shown_by_span,s_shown_by_ring,s_shown_by,s_price_fault,s_lets_waits,s_law_fed,s_law_draw,s_law_fit,s_law_any_span,s_law_a_plan,s_law_window,s_law_all_windows,s_law_some_weights,s_law_is_from,s_law_two_ends,s_law_is_ring,s_law_sums_of,s_law_up,s_law_is_barred,s_law_are_prices,s_law_shows,s_law_steps,s_law_ways,s_law_back,s_law_with,s_law_word_of,s_law_end_judged,s_law_judged,s_law_walk,s_law_some_prices,s_law_waits_told,s_law_waits_due,s_law_few_shape,s_law_menu,s_law]
def prog_rep  : Mj T 0 T.funs sts=da:=by decide +kernel
def FW  : NestS T sts Zz s_lets_waits mI WI s_look_through uA sA where
 sc:=Gr (by decide +kernel)
 body:=rfl
 text:=⟨_,_,_,_,_,_,_,_,rfl,by unfold tabs;exact List.Mem.head _,by decide +kernel,rfl,by decide +kernel,rfl⟩
 fi:=rfl
 fl:=rfl
 gl:=rfl
 gs:=rfl
 dbg:=⟨rfl,rfl,rfl,rfl⟩
 caps:=λi j e=>by
  rcases i with _|i
  ·cases e;exact⟨by decide,_,rfl,rfl,rfl,rfl⟩
  rcases i with _|i
  ·cases e;exact⟨by decide,_,rfl,rfl,rfl,rfl⟩
  rcases i with _|i
  ·cases e;exact⟨by decide,_,rfl,rfl,rfl,rfl⟩
  rcases i with _|i
  ·cases e;exact⟨by decide,_,rfl,rfl,rfl,rfl⟩
  cases e
 fge:=by decide
 frees:=by decide +kernel
 as2:=rfl
 cs:=zP (by decide +kernel)
 args:=⟨rfl,rfl⟩
 ann:=λ_=>rfl
 bind:=λ_ _ _ _ _ _ _ _=>rfl
 ff:=rfl
 ffs:=rfl
 ffb:=rfl
 ffp:=rfl
 ffl:=rfl
 hdv:=rfl
 dvb:=rfl
 dvN:=rfl
 hdc:=rfl
 dcp:=rfl
 dcN:=by decide
 ok:=by decide +kernel
 un:=rfl
 hs:=⟨mw,rfl,rfl⟩
 nz:=λz I y G J E F h=>by
  obtain⟨_,_,h⟩:=Wr (show slot y 4 _ from h);obtain⟨_,_,h⟩:=Wr (show slot y 0 _ from h);obtain⟨_,_,h⟩:=Wr (show slot y 1 _ from h);exact F _ _ _ _ _ h
def prog_eq  : Hk T sts 0 T.funs sts:=⟨rfl,rfl,rfl,rfl,rfl,rfl,rfl,rfl,rfl,rfl,rfl,rfl,rfl,rfl,rfl,rfl,rfl,rfl,rfl,rfl,rfl,rfl,rfl,rfl,rfl,rfl,⟨rfl,_,_,_,_,FW⟩,rfl,rfl,rfl,rfl,rfl,rfl,rfl,rfl,rfl,rfl,rfl,rfl,rfl,rfl,rfl,rfl,rfl,rfl,rfl,rfl,rfl,rfl,rfl,rfl,rfl,rfl,rfl,rfl,rfl,rfl,trivial⟩
def tabsU  : ∀t∈tabs,∀t'∈tabs,t.1=t'.1->t=t':=by
 intro t h t' y e;simp only[tabs,Oc,Je,or_false]at h;simp only[tabs,Oc,Je,or_false]at y;rcases h with rfl<;>rcases y with rfl<;>first|rfl|exact absurd e (by decide)
noncomputable def tbs  : List (Str×Aa×Aa):=[("lets_waits",298,294)]
def walk  {l:fC}{K:Za->Hb}(Z:l.most=ca 63)(I:d.params.defaults=[])
  (L:∀(w:ib) (h:Va),YP w h->(K w.params).In h) (hK:∀w:ib,((K w.params).all λp=>p.2.cls != .type "list")=da) (y:∀w:ib,∃o,(K w.params).lookup Of=ca o/\o.cls=.type "dict")
  (hT:∀(w:ib),∀t∈tbs,(∃O,(PyProof.Rows.recsOf q).find? (λe=>e.name==t.1)=ca O)/\PySem.W.tabIn (K w.params) t.1=ca (t.2.1,t.2.2)/\(K w.params).lookup t.2.2=la)
  (F:∀(w:ib) mg fa (h:Va),(K w.params).In h->h.Ns Ud mg->mg d.name=ca (.ref fa)->
   ∃fd ,(∀(s:Da) u ,Jd s fd ⟨[u],[]⟩ [("_law_script",u)])/\∀base ,(K w.params).In base->base.Ns Ud mg->BmAt mg base->FnOk l.prog w (K w.params) mg base (ed l.prog w) 302 fa fd ["_law_script"] (Gg (K w.params) (Ta T 300 my))) :
  fL q loose XP YP l.row.toRowW d [] (λf vs=>lB f vs):=
 L2.walk_ofT (n:=63) (k:=302) (x := "_law_script") (CX:=λw=>ed l.prog w) (sp:=λw=>Gg (K w.params) (Ta T 300 my)) hK hT Z (by decide) I ⟨rfl,by decide,by decide,rfl⟩ L y F (λw _ _ a J R Y hS=>law_sp (by decide) Y hS (law_ir a J R)) λ_ _ _ _ _ ⟨_,_,_,_,_,_,_,_,_,_,z⟩=>z
end Z
namespace Y
open PySem L2
set_option maxHeartbeats 0
noncomputable def q0  : Str := "/claim/cut.py"
noncomputable def q1  : Str := "<module>"
noncomputable def q2  : Str := "__main__"
noncomputable def q3  : Str := "TooMany"
noncomputable def q4  : Str := "__init__"
noncomputable def q5  : Str := "NoRing.__init__"
noncomputable def q6  : Str := "beatplans.errors"
noncomputable def q7  : Str := "NoRing"
noncomputable def q8  : Str := "NoPaper.__init__"
noncomputable def q9  : Str := "__module__"
noncomputable def ei  : Str := "__firstlineno__"
noncomputable def di  : Str := "__static_attributes__"
noncomputable def dD  : Str := "__weakref__"
noncomputable def Cm  : Str := "__doc__"
noncomputable def pq  : Str := "self"
noncomputable def Pg  : Str := "word"
noncomputable def cy  : Str := "TooMany.__init__"
noncomputable def iu  : Str := "__name__"
noncomputable def vM  : Str := "__package__"
noncomputable def uM  : Str := "__loader__"
noncomputable def tM  : Str := "__spec__"
noncomputable def rM  : Str := "__annotations__"
noncomputable def qM  : Str := "__builtins__"
noncomputable def pM  : Str := "__file__"
noncomputable def oM  : Str := "__cached__"
noncomputable def aj  : Str := "PlanError"
noncomputable def Bm  : Str := "NoPaper"
noncomputable def jo  : Str := "__qualname__"
noncomputable def ay  : Str := "at"
noncomputable def Am  : Str := "is_whole"
noncomputable def gu  : Str := "beats"
noncomputable def Ek  : Str := "windows"
noncomputable def cD  : Str := "entry"
noncomputable def nM  : Str := "apart"
noncomputable def Kj  : Str := "s"
noncomputable def fu  : Str := "way"
noncomputable def io  : Str := "least"
noncomputable def eo  : Str := "most"
noncomputable def zm  : Str := "top_of"
noncomputable def bi  : Str := "beatplans.plans"
noncomputable def xm  : Str := "ring_bars"
noncomputable def gh  : Str := "beatplans.rings"
noncomputable def wm  : Str := "is_entry"
noncomputable def vm  : Str := "is_within"
noncomputable def um  : Str := "sums_of"
noncomputable def tm  : Str := "is_work_of"
noncomputable def rm  : Str := "NoText"
noncomputable def qm  : Str := "ends_of"
noncomputable def om  : Str := "entry_sums"
noncomputable def cu  : Str := "row"
noncomputable def Zh  : Str := "plan"
noncomputable def bD  : Str := "one"
noncomputable def aD  : Str := "other"
noncomputable def bu  : Str := "low"
noncomputable def ZC  : Str := "high"
noncomputable def Zx  : Str := "NoRow.__init__"
noncomputable def Dk  : Str := "period"
noncomputable def au  : Str := "ring"
noncomputable def mm  : Str := "windows_of"
noncomputable def lm  : Str := "is_ring"
noncomputable def Hh  : Str := "beatplans.cases"
noncomputable def km  : Str := "NoRow"
noncomputable def jm  : Str := "window_of"
noncomputable def im  : Str := "with_window"
noncomputable def mM  : Str := "MOST_ENTRIES"
noncomputable def gm  : Str := "has_shape"
noncomputable def Yx  : Str := "NoText.__init__"
noncomputable def Zt  : Str := "stays"
noncomputable def fm  : Str := "thing"
noncomputable def YC  : Str := "start"
noncomputable def lM  : Str := "end"
noncomputable def oq  : Str := "node"
noncomputable def kM  : Str := "many"
noncomputable def XC  : Str := "window"
noncomputable def dm  : Str := "is_priced_ring"
noncomputable def Zl  : Str := "_law_fit"
noncomputable def Yl  : Str := "_law_some_weights"
noncomputable def gc  : Str := "law_beatplans_k36_no_cases_of_waits"
noncomputable def WC  : Str := "left"
noncomputable def Fi  : Str := "_law_plan"
noncomputable def Zi  : Str := "_law_cycle"
noncomputable def Yt  : Str := "_law_weights"
noncomputable def bo  : Str := "_law_windows"
noncomputable def jM  : Str := "_law_priced"
noncomputable def iM  : Str := "_law_left"
noncomputable def Xl  : Str := "_law_found"
noncomputable def VC  : Str := "_law_price"
noncomputable def Xx  : Str := "_law_ring"
noncomputable def gM  : Str := "_law_lows"
noncomputable def nq  : Str := "_law_s"
noncomputable def UC  : Str := "_law_way"
noncomputable def TC  : Str := "_law_end"
noncomputable def SC  : Str := "_law_word"
noncomputable def mq  : Str := "_law_one"
noncomputable def Wt  : Str := "_law_other"
noncomputable def Vt  : Str := "_law_low"
noncomputable def RC  : Str := "_law_high"
noncomputable def fM  : Str := "_law_top"
noncomputable def Wl  : Str := "_law_is_ring"
noncomputable def Vl  : Str := "_law_any_span"
noncomputable def q100  : Str := "weights"
noncomputable def q101  : Str := "bound"
noncomputable def q102  : Str := "fault_of"
noncomputable def q103  : Str := "shown_by_ring"
noncomputable def q104  : Str := "_law_all_windows"
noncomputable def q105  : Str := "_law_draw"
noncomputable def q106  : Str := "_law_sums_of"
noncomputable def q107  : Str := "look_through"
noncomputable def q108  : Str := "are_prices"
noncomputable def q109  : Str := "_law_is_barred"
noncomputable def q110  : Str := "_law_feed"
noncomputable def q111  : Str := "price_fault"
noncomputable def q112  : Str := "ring_fault"
noncomputable def q113  : Str := "shown_by_span"
noncomputable def q114  : Str := "beatplans.prices"
noncomputable def q115  : Str := "_law_shows"
noncomputable def q116  : Str := "_law_window"
noncomputable def q117  : Str := "_law_beats"
noncomputable def q118  : Str := "_law_sums"
noncomputable def q119  : Str := "_law_entry"
noncomputable def q120  : Str := "_law_ends"
noncomputable def q121  : Str := "left_of"
noncomputable def q122  : Str := "_law_are_prices"
noncomputable def q123  : Str := "_law_a_plan"
noncomputable def q124  : Str := "lets_waits"
noncomputable def q125  : Str := "beatplans.waitchecker"
noncomputable def q126  : Str := "_law_two_ends"
noncomputable def q127  : Str := "node_fault"
noncomputable def q128  : Str := "shown_by"
noncomputable def q129  : Str := "_law_span"
noncomputable def q130  : Str := "split_fault"
noncomputable def q131  : Str := "split_sides"
noncomputable def q132  : Str := "MOST_PRICES"
noncomputable def q133  : Str := "MOST_PRICE"
noncomputable def q134  : Str := "_law_fed"
noncomputable def q135  : Str := "_law_is_from"
noncomputable def q136  : Str := "_law_up"
noncomputable def q137  : Str := "_law_least"
noncomputable def q138  : Str := "_law_most"
noncomputable def q139  : Str := "cut"
noncomputable def q140  : Str := "lower"
noncomputable def q141  : Str := "upper"
noncomputable def q142  : Str := "_law_many"
noncomputable def q143  : Str := "_law_digit"
noncomputable def q144  : Str := "_law_cells"
noncomputable def q145  : Str := "_law_at"
noncomputable def q146  : Str := "_law_cell"
noncomputable def q147  : Str := "_law_mixed"
noncomputable def q148  : Str := "sides_of"
noncomputable def q149  : Str := "waiting"
noncomputable def q150  : Str := "held"
noncomputable def q151  : Str := "prices"
noncomputable def q152  : Str := "price"
noncomputable def q153  : Str := "_law_thing"
noncomputable def q154  : Str := "_law_gap"
noncomputable def q155  : Str := "_law_far"
noncomputable def q156  : Str := "_law_number"
noncomputable def q157  : Str := "_law_script"
noncomputable def q158  : Str := "_law_ways"
noncomputable def q159  : Str := "_law_works"
noncomputable def q160  : Str := "law"
noncomputable def q161  : Str := "_law_walk"
noncomputable def q162  : Str := "_law_steps"
noncomputable def q163  : Str := "_law_book"
noncomputable def q164  : Str := "_law_node"
noncomputable def q165  : Str := "_law_shown"
noncomputable def q166  : Str := "_law_few_shape"
noncomputable def q167  : Str := "_law_waits_told"
noncomputable def q168  : Str := "_law_word_of"
noncomputable def q169  : Str := "_law_with"
noncomputable def q170  : Str := "_law_stays"
noncomputable def q171  : Str := "_law_entries"
noncomputable def q172  : Str := "_law_paths"
noncomputable def q173  : Str := "_law_root"
noncomputable def q174  : Str := "_law_waits_due"
noncomputable def q175  : Str := "_law_end_judged"
noncomputable def q176  : Str := "_law_back"
noncomputable def q177  : Str := "_law_judged"
noncomputable def q178  : Str := "_law_some_prices"
noncomputable def q179  : Str := "_law_menu"
noncomputable def q180  : Str := "_law_bound"
noncomputable def q181  : Str := "e"
noncomputable def q182  : Str := "_law_others"
noncomputable def q183  : Str := "_law_k"
noncomputable def q184  : Str := "_law_former"
noncomputable def q185  : Str := "_law_due"
noncomputable def q186  : Str := "_law_told"
noncomputable def q187  : Str := "_law_words"
noncomputable def q188  : Str := "_law_path"
noncomputable def q189  : Str := "_law_some"
noncomputable def q190  : Str := "_law_cut"
noncomputable def h0  : List Ba:=[]
def o0  : Obj:=sO .none h0
def o1  : Obj:=kO q0 q1 q1 182 1 0 0 11 ia .none .none .none 185
def o2  : Obj:=rO [(ca (.ref 13)),(ca (.ref 3)),(ca (.ref 3)),la,(ca (.str q2 164)),la,(ca (.ref 0))]
def o3  : Obj:=cO q3 [(.ref 24)] [(.ref 63),(.ref 24),(.type "ValueError"),(.type "Exception"),(.type "BaseException"),(.type "object")] 62 [] [(ca (.ref 47)),la,(ca (.str q3 234)),(ca (.str q3 242)),(ca (.builtin "ValueError.__new__")),(ca (.bool da))]
def o4  : Obj:=fO q4 q5 (Ug (Z.Ja 4) 0) (.str q6 187) 78
def o5  : Obj:=tO [(.ref 24)]
def o6  : Obj:=tO [(.type "ValueError")]
def o7  : Obj:=kO q0 q7 q7 261 13 0 0 69 ia .none .none .none 264
def o8  : Obj:=gO q4 q8 (Ug (Z.Ja 2) 0)
def o9  (P:Za):Obj:=dO (dE P q9 196 (.str q6 187)::dE P ei 200 (.int 2 199)::dE P di 201 (.ref 22)::dE P dD 203 (.ref 25)::dE P Cm 204 .none::[]) 3
def o10  : Obj:=sO (.type "builtin_function_or_method") [(.builtin "type.__prepare__"),(.type "type")]
def o11  : Obj:=sO (.type "super") [(.ref 82),(.ref 82),(.ref 82)]
def o12  : Obj:=sO .none [(.int 11 0),(.int 4 0),(.ref 59)]
def Cr  : Obj:=tO [(.str pq 274),(.str Pg 275)]
def Do  (P:Za):Obj:=dO (dE P q9 214 (.str q6 187)::dE P ei 218 (.int 4 217)::dE P q4 227 (.ref 41)::dE P di 230 (.ref 42)::dE P Cm 231 .none::[]) 2
def Co  : Obj:=kO q0 q4 cy 246 11 2 3 54 da (.ref 56) (.ref 57) (.ref 58) 251
def Br  : Obj:=sO (.type "builtin_function_or_method") [(.builtin "object.__init_subclass__"),(.ref 24)]
def oK  (P:Za):List Xk:=dE P Cm 166 .none::dE P vM 167 .none::dE P uM 168 (.builtin "__main__.__loader__#opaque")::dE P tM 169 .none::dE P rM 170 (.ref 6)::dE P qM 171 (.ref 4)::dE P pM 173 (.str q0 172)::dE P oM 174 .none::dE P aj 206 (.ref 24)::dE P Bm 233 (.ref 44)::dE P q3 258 (.ref 63)::dE P q7 283 (.ref 82)::[]
def BM  (P:Za):Obj:=dO (dE P iu 165 (.str q6 187)::oK P) 13
def Ar  : Obj:=sO (.type "builtin_function_or_method") [(.builtin "object.__init_subclass__"),(.ref 63)]
def zr  : Obj:=kO q0 Bm Bm 209 4 0 0 31 ia .none .none .none 212
def Bo  (P:Za):Obj:=dO (dE P q9 266 (.str q6 187)::dE P ei 270 (.int 13 269)::dE P q4 278 (.ref 79)::dE P di 280 (.ref 80)::dE P Cm 281 .none::[]) 2
def yr  (P:Za):Obj:=dO (dE P q9 241 (.str q6 187)::dE P jo 243 (.str q3 242)::dE P ei 245 (.int 9 244)::dE P q4 253 (.ref 60)::dE P di 255 (.ref 61)::[]) 5
def xr  (P:Za):Obj:=dO (dE P q9 196 (.str q6 187)::dE P jo 198 (.str aj 197)::dE P ei 200 (.int 2 199)::dE P di 201 (.ref 22)::[]) 4
def Ao  : Obj:=fO q4 q8 (Ug (Z.Ja 2) 0) (.str q6 187) 40
def wr  : Obj:=sO (.type "getset_descriptor") [(.str dD 202),(.ref 24),(.builtin "ExceptionGroup.__weakref__"),.none]
def ur  : Obj:=tO [(.str pq 222),(.str Pg 223),(.str ay 224)]
def nr  : Obj:=rO [(ca (.ref 52)),(ca (.ref 3)),(ca (.ref 49)),la,(ca (.str q6 187)),la,(ca (.ref 0))]
def mr  : Obj:=rO [(ca (.ref 20)),(ca (.ref 3)),(ca (.ref 17)),la,(ca (.str q6 187)),la,(ca (.ref 0))]
def lr  : Obj:=gO q4 q5 (Ug (Z.Ja 4) 0)
def kr  : Obj:=sO (.type "super") [(.ref 44),(.ref 44),(.ref 44)]
def jr  : Obj:=tO [(.str Pg 254)]
def gr  : Obj:=sO (.type "super") [(.ref 63),(.ref 63),(.ref 63)]
def er  : Obj:=sO .none [(.int 6 0),(.int 4 0),(.ref 40)]
def ar  : Obj:=tO [(.str Pg 279)]
def Zq  : Obj:=rO [(ca (.ref 71)),(ca (.ref 3)),(ca (.ref 68)),la,(ca (.str q6 187)),la,(ca (.ref 0))]
def zo  : Obj:=kO q0 q4 q8 219 6 3 3 35 da (.ref 37) (.ref 38) (.ref 39) 225
def Yq  : Obj:=tO [(.str pq 249),(.str Pg 250)]
def AM  : Obj:=cO aj [(.type "ValueError")] [(.ref 24),(.type "ValueError"),(.type "Exception"),(.type "BaseException"),(.type "object")] 23 [(.ref 44),(.ref 63),(.ref 82)] [(ca (.ref 15)),la,(ca (.str aj 189)),(ca (.str aj 197)),(ca (.builtin "ValueError.__new__")),(ca (.bool da))]
def Xq  (P:Za):Obj:=dO (dE P q9 266 (.str q6 187)::dE P jo 268 (.str q7 267)::dE P ei 270 (.int 13 269)::dE P q4 278 (.ref 79)::dE P di 280 (.ref 80)::[]) 5
def Wq  : Obj:=sO (.type "builtin_function_or_method") [(.builtin "object.__init_subclass__"),(.ref 82)]
def Vq  : Obj:=kO q0 q3 q3 236 9 0 0 50 ia .none .none .none 239
def Uq  : Obj:=kO q0 aj aj 191 2 0 0 18 ia .none .none .none 194
def yo  : Obj:=cO Bm [(.ref 24)] [(.ref 44),(.ref 24),(.type "ValueError"),(.type "Exception"),(.type "BaseException"),(.type "object")] 43 [] [(ca (.ref 28)),la,(ca (.str Bm 207)),(ca (.str Bm 215)),(ca (.builtin "ValueError.__new__")),(ca (.bool da))]
def xo  : Obj:=fO q4 cy (Ug (Z.Ja 3) 0) (.str q6 187) 59
def mK  : List Ba:=h0++[(.int 2 0),(.int 0 0),(.ref 20),(.int 4 0),(.int 0 0),(.ref 33),(.int 9 0),(.int 0 0),(.ref 52),(.int 13 0),(.int 0 0),(.ref 71)]
def zM  : Obj:=sO .none mK
def Tq  : Obj:=rO [(ca (.ref 33)),(ca (.ref 3)),(ca (.ref 30)),la,(ca (.str q6 187)),la,(ca (.ref 0))]
def wo  : Obj:=cO q7 [(.ref 24)] [(.ref 82),(.ref 24),(.type "ValueError"),(.type "Exception"),(.type "BaseException"),(.type "object")] 81 [] [(ca (.ref 66)),la,(ca (.str q7 259)),(ca (.str q7 267)),(ca (.builtin "ValueError.__new__")),(ca (.bool da))]
def Sq  : Obj:=tO [(.str ay 228),(.str Pg 229)]
def Rq  : Obj:=gO q4 cy (Ug (Z.Ja 3) 0)
def Qq  : Obj:=sO (.type "super") [(.ref 24),(.ref 24),(.ref 24)]
def Pq  : Obj:=sO .none [(.int 15 0),(.int 4 0),(.ref 78)]
def vo  : Obj:=kO q0 q4 q5 271 15 2 3 73 da (.ref 75) (.ref 76) (.ref 77) 276
def Oq  : Obj:=sO (.type "builtin_function_or_method") [(.builtin "object.__init_subclass__"),(.ref 44)]
def uo  (P:Za):Obj:=dO (dE P q9 241 (.str q6 187)::dE P ei 245 (.int 9 244)::dE P q4 253 (.ref 60)::dE P di 255 (.ref 61)::dE P Cm 256 .none::[]) 2
def Nq  (P:Za):Obj:=dO (dE P q9 214 (.str q6 187)::dE P jo 216 (.str Bm 215)::dE P ei 218 (.int 4 217)::dE P q4 227 (.ref 41)::dE P di 230 (.ref 42)::[]) 5
def Mu  : Obj:=gO Am Am (Z.Ja 8)
def Lu  : Obj:=tO [(.str gu 443),(.str Ek 444),(.str cD 445),(.str nM 446),(.str Kj 447),(.str fu 448),(.str io 449),(.str eo 450)]
def Mq  : Obj:=fO zm zm (Z.Ja 10) (.str bi 336) 142
def Lq  : Obj:=fO xm xm (Z.Ja 22) (.str gh 393) 206
def Kq  : Obj:=kO q0 wm wm 405 45 3 3 170 da (.ref 172) (.ref 173) (.ref 174) 416
def Jq  : Obj:=kO q0 vm vm 345 29 3 3 130 da (.ref 132) (.ref 133) (.ref 134) 351
def Iq  : Obj:=kO q0 um um 454 75 5 3 196 da .none .none (.ref 198) 457
def Ju  : Obj:=gO tm tm (Z.Ja 16)
def Iu  : Obj:=sO (.type "builtin_function_or_method") [(.builtin "object.__init_subclass__"),(.ref 101)]
def Hu  (P:Za):Obj:=dO (dE P q9 291 (.str q6 187)::dE P jo 293 (.str rm 292)::dE P ei 295 (.int 17 294)::dE P q4 304 (.ref 98)::dE P di 307 (.ref 99)::[]) 5
def Hq  : Obj:=fO qm qm (Z.Ja 18) (.str gh 393) 182
def Gq  (P:Za):Obj:=dO (dE P q9 318 (.str q6 187)::dE P ei 322 (.int 22 321)::dE P q4 330 (.ref 117)::dE P di 332 (.ref 118)::dE P Cm 333 .none::[]) 2
def Fq  : Obj:=fO om om (Z.Ja 20) (.str gh 393) 194
def Gu  : Obj:=tO [(.str cu 305),(.str Pg 306)]
def Fu  : Obj:=tO [(.str Zh 422),(.str cD 423),(.str Kj 424),(.str fu 425),(.str Pg 426),(.str bD 427),(.str aD 428),(.str bu 429),(.str ZC 430)]
def Eu  : Obj:=gO q4 Zx (Ug (Z.Ja 6) 0)
def Du  : Obj:=tO [(.str Zh 357),(.str Dk 358),(.str Kj 359),(.str Pg 360),(.str bD 361),(.str aD 362),(.str bu 363),(.str ZC 364)]
def Cu  : Obj:=tO [(.str Zh 463),(.str Dk 464),(.str gu 465),(.str Ek 466),(.str au 467),(.str io 468),(.str eo 469)]
def Dq  : Obj:=fO mm mm (Z.Ja 12) (.str bi 336) 154
def Bu  : Obj:=rO [(ca (.ref 90)),(ca (.ref 3)),(ca (.ref 87)),la,(ca (.str q6 187)),la,(ca (.ref 0))]
def Cq  : Obj:=kO q0 lm lm 434 61 3 3 184 da .none .none (.ref 186) 437
def nK  (P:Za):List Xk:=oK P++[dE P rm 310 (.ref 101),dE P km 335 (.ref 120),dE P Am 344 (.ref 129),dE P vm 353 (.ref 136),dE P zm 367 (.ref 143),dE P jm 377 (.ref 150),dE P mm 383 (.ref 155),dE P im 392 (.ref 162),dE P mM 396 (.int 60 395),dE P tm 404 (.ref 169),dE P wm 418 (.ref 176),dE P qm 433 (.ref 183),dE P lm 439 (.ref 188),dE P om 453 (.ref 195),dE P um 459 (.ref 200),dE P xm 472 (.ref 207),dE P gm 483 (.ref 214)]
def yM  (P:Za):Obj:=dO (dE P iu 165 (.str Hh 473)::nK P) 30
def Bq  : Obj:=fO Am Am (Z.Ja 8) (.str bi 336) 128
def Au  : Obj:=gO om om (Z.Ja 20)
def Aq  : Obj:=kO q0 im im 384 39 3 3 156 da (.ref 158) (.ref 159) (.ref 160) 390
def zq  : Obj:=kO q0 q4 Yx 296 19 3 3 92 da (.ref 94) (.ref 95) (.ref 96) 302
def zu  : Obj:=tO [(.str pq 326),(.str cu 327)]
def yq  : Obj:=fO tm tm (Z.Ja 16) (.str gh 393) 168
def yu  : Obj:=gO mm mm (Z.Ja 12)
def xu  : Obj:=sO .none [(.int 19 0),(.int 4 0),(.ref 97)]
def uu  : Obj:=sO (.type "super") [(.ref 120),(.ref 120),(.ref 120)]
def tu  : Obj:=tO [(.str Zt 400),(.str fm 401)]
def xq  : Obj:=cO rm [(.ref 24)] [(.ref 101),(.ref 24),(.type "ValueError"),(.type "Exception"),(.type "BaseException"),(.type "object")] 100 [] [(ca (.ref 85)),la,(ca (.str rm 284)),(ca (.str rm 292)),(ca (.builtin "ValueError.__new__")),(ca (.bool da))]
def wq  : Obj:=kO q0 jm jm 368 34 3 3 144 da (.ref 146) (.ref 147) (.ref 148) 375
def vq  : Obj:=kO q0 gm gm 475 82 3 3 208 da (.ref 210) (.ref 211) (.ref 212) 481
def su  : Obj:=gO qm qm (Z.Ja 18)
def uq  : Obj:=fO q4 Zx (Ug (Z.Ja 6) 0) (.str q6 187) 116
def qu  : Obj:=gO zm zm (Z.Ja 10)
def nu  : Obj:=gO xm xm (Z.Ja 22)
def mu  : Obj:=kO q0 km km 313 22 0 0 107 ia .none .none .none 316
def lu  : Obj:=tO [(.str fm 341)]
def tq  : Obj:=kO q0 Am Am 338 27 1 3 123 da (.ref 125) (.ref 126) (.ref 127) 342
def ku  : Obj:=gO im im (Z.Ja 13)
def ju  : Obj:=gO q4 Yx (Ug (Z.Ja 5) 0)
def rq  : Obj:=fO wm wm (Z.Ja 17) (.str gh 393) 175
def o100  : Obj:=fO vm vm (Z.Ja 9) (.str bi 336) 135
def o101  : Obj:=fO um um (Z.Ja 21) (.str gh 393) 199
def o102  : Obj:=kO q0 tm tm 397 43 2 3 163 da (.ref 165) (.ref 166) (.ref 167) 402
def o103  : Obj:=cO km [(.ref 24)] [(.ref 120),(.ref 24),(.type "ValueError"),(.type "Exception"),(.type "BaseException"),(.type "object")] 119 [] [(ca (.ref 104)),la,(ca (.str km 311)),(ca (.str km 319)),(ca (.builtin "ValueError.__new__")),(ca (.bool da))]
def o104  : Obj:=cO aj [(.type "ValueError")] [(.ref 24),(.type "ValueError"),(.type "Exception"),(.type "BaseException"),(.type "object")] 23 [(.ref 44),(.ref 63),(.ref 82),(.ref 101),(.ref 120)] [(ca (.ref 15)),la,(ca (.str aj 189)),(ca (.str aj 197)),(ca (.builtin "ValueError.__new__")),(ca (.bool da))]
def o105  : Obj:=tO [(.str fm 348),(.str io 349),(.str eo 350)]
def o106  (P:Za):Obj:=dO (dE P q9 291 (.str q6 187)::dE P ei 295 (.int 17 294)::dE P q4 304 (.ref 98)::dE P di 307 (.ref 99)::dE P Cm 308 .none::[]) 2
def o107  : Obj:=gO jm jm (Z.Ja 11)
def o108  : Obj:=gO gm gm (Z.Ja 24)
def o109  : Obj:=kO q0 q4 Zx 323 24 2 3 111 da (.ref 113) (.ref 114) (.ref 115) 328
def o110  : Obj:=tO [(.str Zh 408),(.str Zt 409),(.str fm 410),(.str Pg 411),(.str YC 412),(.str lM 413),(.str Kj 414),(.str fu 415)]
def o111  : Obj:=sO .none [(.int 24 0),(.int 4 0),(.ref 116)]
def o112  : Obj:=fO lm lm (Z.Ja 19) (.str gh 393) 187
def h117  : List Ba:=mK++[(.int 17 0),(.int 0 0),(.ref 90),(.int 22 0),(.int 0 0),(.ref 109),(.int 27 0),(.int 0 0),(.ref 128),(.int 29 0),(.int 0 0),(.ref 135),(.int 31 0),(.int 0 0),(.ref 142),(.int 34 0),(.int 0 0),(.ref 149),(.int 37 0),(.int 0 0),(.ref 154),(.int 39 0),(.int 0 0),(.ref 161),(.int 43 0),(.int 0 0),(.ref 168),(.int 45 0),(.int 0 0),(.ref 175),(.int 55 0),(.int 0 0),(.ref 182),(.int 61 0),(.int 0 0),(.ref 187),(.int 68 0),(.int 0 0),(.ref 194),(.int 75 0),(.int 0 0),(.ref 199),(.int 78 0),(.int 0 0),(.ref 206),(.int 82 0),(.int 0 0),(.ref 213)]
def o113  : Obj:=sO .none h117
def o114  : Obj:=kO q0 om om 440 68 3 3 189 da (.ref 191) (.ref 192) (.ref 193) 451
def o115  : Obj:=fO im im (Z.Ja 13) (.str bi 336) 161
def o116  : Obj:=fO q4 Yx (Ug (Z.Ja 5) 0) (.str q6 187) 97
def o117  : Obj:=tO [(.str Zh 371),(.str Dk 372),(.str Kj 373),(.str bu 374)]
def o118  : Obj:=tO [(.str oq 478),(.str Pg 479),(.str kM 480)]
def o119  (P:Za):Obj:=dO (dE P q9 318 (.str q6 187)::dE P jo 320 (.str km 319)::dE P ei 322 (.int 22 321)::dE P q4 330 (.ref 117)::dE P di 332 (.ref 118)::[]) 5
def o120  : Obj:=kO q0 mm mm 378 37 2 3 151 da .none .none (.ref 153) 381
def o121  : Obj:=kO q0 rm rm 286 17 0 0 88 ia .none .none .none 289
def o122  : Obj:=gO lm lm (Z.Ja 19)
def o123  : Obj:=sO (.type "builtin_function_or_method") [(.builtin "object.__init_subclass__"),(.ref 120)]
def o124  : Obj:=gO vm vm (Z.Ja 9)
def o125  : Obj:=gO um um (Z.Ja 21)
def o126  : Obj:=sO (.type "super") [(.ref 101),(.ref 101),(.ref 101)]
def o127  : Obj:=fO jm jm (Z.Ja 11) (.str bi 336) 149
def o128  : Obj:=fO gm gm (Z.Ja 24) (.str Hh 473) 213
def o129  : Obj:=kO q0 qm qm 419 55 2 3 177 da (.ref 179) (.ref 180) (.ref 181) 431
def o130  : Obj:=tO [(.str cu 331)]
def o131  : Obj:=kO q0 zm zm 354 31 3 3 137 da (.ref 139) (.ref 140) (.ref 141) 365
def o132  : Obj:=kO q0 xm xm 460 78 5 3 201 da (.ref 203) (.ref 204) (.ref 205) 470
def o133  : Obj:=gO wm wm (Z.Ja 17)
def o134  : Obj:=rO [(ca (.ref 109)),(ca (.ref 3)),(ca (.ref 106)),la,(ca (.str q6 187)),la,(ca (.ref 0))]
def o135  : Obj:=tO [(.str Ek 387),(.str Kj 388),(.str XC 389)]
def o136  : Obj:=tO [(.str pq 299),(.str cu 300),(.str Pg 301)]
def o137  : Obj:=kO q0 dm dm 560 120 2 3 250 da (.ref 252) (.ref 253) (.ref 254) 567
def o138  : Obj:=kO q0 Zl Zl 664 179 5 3 314 da (.ref 316) (.ref 317) (.ref 318) 675
def o139  : Obj:=fO Yl Yl (Z.Ja 50) (.str gc 642) 350
def o140  : Obj:=tO [(.str bu 592),(.str XC 593),(.str WC 594),(.str io 595),(.str eo 596)]
def o141  : Obj:=tO [(.str Fi 794),(.str Zi 795),(.str Yt 796),(.str bo 797),(.str jM 798),(.str iM 799),(.str Xl 800),(.str VC 801),(.str Xx 802),(.str gM 803),(.str nq 804),(.str UC 805),(.str TC 806)]
def o142  : Obj:=tO [(.str Fi 698),(.str Zi 699),(.str nq 700),(.str SC 701),(.str mq 702),(.str Wt 703),(.str Vt 704),(.str RC 705),(.str fM 706)]
def o143  : Obj:=kO q0 Wl Wl 742 233 3 3 364 da .none .none (.ref 366) 745
def o144  : Obj:=fO Vl Vl (Z.Ja 46) (.str gc 642) 326
def o145  : Obj:=tO [(.str Zh 629),(.str Dk 630),(.str q100 631),(.str q101 632),(.str fm 633),(.str q102 634)]
def o146  : Obj:=tO [(.str Zh 515),(.str Dk 516),(.str gu 517),(.str Zt 518),(.str Ek 519),(.str oq 520)]
def o147  : Obj:=kO q0 q103 q103 600 138 5 3 276 da .none .none (.ref 278) 603
def o148  : Obj:=kO q0 q104 q104 710 213 2 3 340 da .none .none (.ref 342) 713
def o149  : Obj:=gO q105 q105 (Z.Ja 44)
def o150  : Obj:=fO q106 q106 (Z.Ja 54) (.str gc 642) 374
def o151  : Obj:=gO q107 q107 (Z.Ja 29)
def o152  : Obj:=gO q108 q108 (Z.Ja 34)
def o153  : Obj:=gO q109 q109 (Z.Ja 56)
def o154  : Obj:=tO [(.str q110 681),(.str Zi 682),(.str mq 683),(.str Wt 684),(.str Vt 685)]
def o155  : Obj:=kO q0 q111 q111 614 149 6 3 286 da (.ref 288) (.ref 289) (.ref 290) 623
def o156  : Obj:=kO q0 q112 q112 500 90 6 3 222 da (.ref 224) (.ref 225) (.ref 226) 509
def o157  : Obj:=fO q113 q113 (Z.Ja 36) (.str q114 554) 274
def o158  : Obj:=fO q115 q115 (Z.Ja 58) (.str gc 642) 402
def o159  : Obj:=fO q116 q116 (Z.Ja 48) (.str gc 642) 338
def o160  : Obj:=tO [(.str q117 751),(.str bo 752),(.str Xx 753),(.str q118 754),(.str q119 755),(.str q120 756),(.str Vt 757),(.str RC 758)]
def o161  : Obj:=kO q0 q121 q121 576 129 2 3 262 da (.ref 264) (.ref 265) (.ref 266) 586
def o162  : Obj:=kO q0 q122 q122 782 255 2 3 390 da (.ref 392) (.ref 393) (.ref 394) 788
def o163  : Obj:=kO q0 q123 q123 689 191 4 3 328 da .none .none (.ref 330) 692
def o164  : Obj:=fO q124 q124 (Z.Ja 41) (.str q125 612) 298
def o165  : Obj:=fO q126 q126 (Z.Ja 52) (.str gc 642) 362
def o166  : Obj:=fO q127 q127 (Z.Ja 27) (.str Hh 473) 234
def o167  : Obj:=gO q128 q128 (Z.Ja 38)
def o168  : Obj:=tO [(.str q110 719),(.str Fi 720),(.str UC 721),(.str Xl 722),(.str q129 723)]
def o169  : Obj:=gO q130 q130 (Z.Ja 25)
def g175  (P:Za):List Xk:=nK P++[dE P q130 499 (.ref 221),dE P q112 511 (.ref 228),dE P q127 523 (.ref 235),dE P q131 538 (.ref 242),dE P q107 553 (.ref 249),dE P q132 557 (.int 24 556),dE P q133 559 (.int 999 558),dE P dm 569 (.ref 256),dE P q108 575 (.ref 261),dE P q121 588 (.ref 268),dE P q113 599 (.ref 275),dE P q103 605 (.ref 280),dE P q128 611 (.ref 285),dE P q111 625 (.ref 292),dE P q124 641 (.ref 299),dE P q134 650 (.ref 306),dE P q105 663 (.ref 313),dE P Zl 677 (.ref 320),dE P Vl 688 (.ref 327),dE P q123 694 (.ref 332),dE P q116 709 (.ref 339),dE P q104 715 (.ref 344),dE P Yl 726 (.ref 351),dE P q135 735 (.ref 358),dE P q126 741 (.ref 363),dE P Wl 747 (.ref 368),dE P q106 761 (.ref 375),dE P q136 769 (.ref 382),dE P q109 781 (.ref 389),dE P q122 790 (.ref 396),dE P q115 809 (.ref 403)]
def o170  (P:Za):Obj:=dO (dE P iu 165 (.str gc 642)::g175 P) 61
def o171  : Obj:=tO [(.str Zi 773),(.str q117 774),(.str bo 775),(.str Xx 776),(.str q137 777),(.str q138 778)]
def o172  : Obj:=gO q113 q113 (Z.Ja 36)
def o173  : Obj:=gO q115 q115 (Z.Ja 58)
def o174  : Obj:=gO q116 q116 (Z.Ja 48)
def o175  : Obj:=kO q0 q134 q134 644 161 1 3 300 da (.ref 302) (.ref 303) (.ref 304) 648
def o176  : Obj:=kO q0 q131 q131 524 100 2 3 236 da (.ref 238) (.ref 239) (.ref 240) 536
def o177  : Obj:=gO q124 q124 (Z.Ja 41)
def o178  : Obj:=gO q126 q126 (Z.Ja 52)
def o179  : Obj:=gO q127 q127 (Z.Ja 27)
def o180  : Obj:=tO [(.str Zh 487),(.str Ek 488),(.str oq 489),(.str Pg 490),(.str Kj 491),(.str q139 492),(.str q140 493),(.str q141 494),(.str io 495),(.str eo 496)]
def o181  : Obj:=fO q105 q105 (Z.Ja 44) (.str gc 642) 312
def o182  : Obj:=fO q107 q107 (Z.Ja 29) (.str Hh 473) 248
def o183  : Obj:=fO q108 q108 (Z.Ja 34) (.str q114 554) 260
def o184  : Obj:=fO q109 q109 (Z.Ja 56) (.str gc 642) 388
def o185  : Obj:=gO Vl Vl (Z.Ja 46)
def o186  : Obj:=kO q0 q135 q135 727 221 3 3 352 da (.ref 354) (.ref 355) (.ref 356) 733
def o187  : Obj:=tO [(.str q110 654),(.str q142 655),(.str q143 656),(.str q144 657),(.str q145 658),(.str q146 659),(.str q147 660)]
def o188  : Obj:=gO q106 q106 (Z.Ja 54)
def o189  : Obj:=tO [(.str fm 542),(.str YC 543),(.str q102 544),(.str q148 545),(.str q149 546),(.str ay 547),(.str oq 548),(.str q150 549),(.str Pg 550)]
def o190  : Obj:=fO q128 q128 (Z.Ja 38) (.str q114 554) 284
def o191  : Obj:=gO Yl Yl (Z.Ja 50)
def o192  : Obj:=fO q130 q130 (Z.Ja 25) (.str Hh 473) 220
def o193  : Obj:=kO q0 q136 q136 762 250 2 3 376 da (.ref 378) (.ref 379) (.ref 380) 767
def o194  : Obj:=fO dm dm (Z.Ja 33) (.str q114 554) 255
def o195  : Obj:=fO Zl Zl (Z.Ja 45) (.str gc 642) 319
def o196  : Obj:=tO [(.str Zh 617),(.str Dk 618),(.str q100 619),(.str q101 620),(.str Ek 621),(.str q151 622)]
def o197  : Obj:=tO [(.str Zh 503),(.str Dk 504),(.str gu 505),(.str Zt 506),(.str Ek 507),(.str au 508)]
def o198  : Obj:=gO q134 q134 (Z.Ja 43)
def o199  : Obj:=fO Wl Wl (Z.Ja 53) (.str gc 642) 367
def o200  : Obj:=gO q131 q131 (Z.Ja 28)
def o201  : Obj:=tO [(.str q100 579),(.str q151 580),(.str WC 581),(.str q152 582),(.str au 583),(.str Kj 584),(.str fu 585)]
def o202  : Obj:=tO [(.str Fi 785),(.str q153 786),(.str mq 787)]
def o203  : Obj:=tO [(.str Zh 635),(.str Dk 636),(.str q100 637),(.str q101 638)]
def o204  : Obj:=fO q103 q103 (Z.Ja 37) (.str q114 554) 279
def o205  : Obj:=fO q104 q104 (Z.Ja 49) (.str gc 642) 343
def o206  : Obj:=kO q0 q105 q105 651 163 2 3 307 da (.ref 309) (.ref 310) (.ref 311) 661
def o207  : Obj:=kO q0 q107 q107 539 106 4 3 243 da (.ref 245) (.ref 246) (.ref 247) 551
def o208  : Obj:=kO q0 q108 q108 570 125 2 3 257 da .none .none (.ref 259) 573
def o209  : Obj:=kO q0 q109 q109 770 252 4 3 383 da (.ref 385) (.ref 386) (.ref 387) 779
def o210  : Obj:=fO q111 q111 (Z.Ja 40) (.str q125 612) 291
def o211  : Obj:=gO q135 q135 (Z.Ja 51)
def o212  : Obj:=fO q112 q112 (Z.Ja 26) (.str Hh 473) 227
def o213  : Obj:=fO q121 q121 (Z.Ja 35) (.str q114 554) 267
def o214  : Obj:=fO q122 q122 (Z.Ja 57) (.str gc 642) 395
def o215  : Obj:=fO q123 q123 (Z.Ja 47) (.str gc 642) 331
def o216  : Obj:=kO q0 q128 q128 606 143 5 3 281 da .none .none (.ref 283) 609
def o217  : Obj:=kO q0 q130 q130 484 84 3 3 215 da (.ref 217) (.ref 218) (.ref 219) 497
def o218  : Obj:=tO [(.str q110 667),(.str Zi 668),(.str q117 669),(.str mq 670),(.str Wt 671),(.str q154 672),(.str q155 673),(.str Vt 674)]
def o219  : Obj:=gO q136 q136 (Z.Ja 55)
def o220  : Obj:=tO [(.str Zh 563),(.str fm 564),(.str q152 565),(.str au 566)]
def h227  : List Ba:=h117++[(.int 84 0),(.int 0 0),(.ref 220),(.int 90 0),(.int 0 0),(.ref 227),(.int 94 0),(.int 0 0),(.ref 234),(.int 100 0),(.int 0 0),(.ref 241),(.int 106 0),(.int 0 0),(.ref 248),(.int 120 0),(.int 0 0),(.ref 255),(.int 125 0),(.int 0 0),(.ref 260),(.int 129 0),(.int 0 0),(.ref 267),(.int 135 0),(.int 0 0),(.ref 274),(.int 138 0),(.int 0 0),(.ref 279),(.int 143 0),(.int 0 0),(.ref 284),(.int 149 0),(.int 0 0),(.ref 291),(.int 153 0),(.int 0 0),(.ref 298),(.int 161 0),(.int 0 0),(.ref 305),(.int 163 0),(.int 0 0),(.ref 312),(.int 179 0),(.int 0 0),(.ref 319),(.int 186 0),(.int 0 0),(.ref 326),(.int 191 0),(.int 0 0),(.ref 331),(.int 209 0),(.int 0 0),(.ref 338),(.int 213 0),(.int 0 0),(.ref 343),(.int 215 0),(.int 0 0),(.ref 350),(.int 221 0),(.int 0 0),(.ref 357),(.int 223 0),(.int 0 0),(.ref 362),(.int 233 0),(.int 0 0),(.ref 367),(.int 240 0),(.int 0 0),(.ref 374),(.int 250 0),(.int 0 0),(.ref 381),(.int 252 0),(.int 0 0),(.ref 388),(.int 255 0),(.int 0 0),(.ref 395),(.int 264 0),(.int 0 0),(.ref 402)]
def o221  : Obj:=sO .none h227
def o222  : Obj:=gO q111 q111 (Z.Ja 40)
def o223  : Obj:=tO [(.str q137 730),(.str q138 731),(.str q153 732)]
def o224  : Obj:=gO q112 q112 (Z.Ja 26)
def o225  : Obj:=kO q0 q113 q113 589 135 3 3 269 da (.ref 271) (.ref 272) (.ref 273) 597
def o226  : Obj:=kO q0 q115 q115 791 264 5 3 397 da (.ref 399) (.ref 400) (.ref 401) 807
def o227  : Obj:=kO q0 q116 q116 695 209 3 3 333 da (.ref 335) (.ref 336) (.ref 337) 707
def o228  : Obj:=fO q134 q134 (Z.Ja 43) (.str gc 642) 305
def o229  : Obj:=fO q131 q131 (Z.Ja 28) (.str Hh 473) 241
def o230  : Obj:=gO q121 q121 (Z.Ja 35)
def o231  : Obj:=gO q122 q122 (Z.Ja 57)
def o232  : Obj:=gO q123 q123 (Z.Ja 47)
def o233  : Obj:=kO q0 q124 q124 626 153 5 3 293 da (.ref 295) (.ref 296) (.ref 297) 639
def o234  : Obj:=kO q0 q126 q126 736 223 3 3 359 da .none .none (.ref 361) 739
def o235  : Obj:=kO q0 q127 q127 512 94 6 3 229 da (.ref 231) (.ref 232) (.ref 233) 521
def o236  : Obj:=tO [(.str Zi 765),(.str q156 766)]
def o237  : Obj:=kO q0 Vl Vl 678 186 4 3 321 da (.ref 323) (.ref 324) (.ref 325) 686
def o238  : Obj:=fO q135 q135 (Z.Ja 51) (.str gc 642) 357
def o239  : Obj:=gO q103 q103 (Z.Ja 37)
def o240  : Obj:=gO q104 q104 (Z.Ja 49)
def o241  : Obj:=kO q0 q106 q106 748 240 3 3 369 da (.ref 371) (.ref 372) (.ref 373) 759
def o242  : Obj:=tO [(.str q157 647)]
def o243  : Obj:=gO Wl Wl (Z.Ja 53)
def o244  : Obj:=tO [(.str Ek 527),(.str oq 528),(.str Pg 529),(.str Kj 530),(.str q139 531),(.str q140 532),(.str q141 533),(.str io 534),(.str eo 535)]
def o245  : Obj:=kO q0 Yl Yl 716 215 2 3 345 da (.ref 347) (.ref 348) (.ref 349) 724
def o246  : Obj:=gO Zl Zl (Z.Ja 45)
def o247  : Obj:=fO q136 q136 (Z.Ja 55) (.str gc 642) 381
def o248  : Obj:=gO dm dm (Z.Ja 33)
def o249  : Obj:=fO q158 q158 (Z.Ja 60) (.str gc 642) 414
def o250  : Obj:=tO [(.str q110 935),(.str q159 936)]
def o251  : Obj:=gO q160 q160 (Z.Ja 72)
def o252  : Obj:=fO q161 q161 (Z.Ja 66) (.str gc 642) 454
def o253  : Obj:=kO q0 q162 q162 810 277 2 3 404 da .none .none (.ref 406) 813
def o254  : Obj:=tO [(.str q163 862),(.str q164 863),(.str bo 864),(.str q145 865),(.str Fi 866),(.str Zi 867),(.str q165 868)]
def o255  : Obj:=fO q166 q166 (Z.Ja 70) (.str gc 642) 482
def o256  : Obj:=gO q167 q167 (Z.Ja 68)
def o257  : Obj:=kO q0 q168 q168 850 304 2 3 430 da (.ref 432) (.ref 433) (.ref 434) 856
def o258  : Obj:=gO q169 q169 (Z.Ja 62)
def o259  : Obj:=tO [(.str Fi 819),(.str q170 820),(.str q171 821),(.str q172 822),(.str q173 823),(.str q142 824),(.str q119 825),(.str mq 826),(.str Wt 827)]
def o260  : Obj:=kO q0 q174 q174 919 362 5 3 470 da (.ref 472) (.ref 473) (.ref 474) 929
def o261  : Obj:=fO q175 q175 (Z.Ja 64) (.str gc 642) 442
def g269  (P:Za):List Xk:=g175 P++[dE P q162 815 (.ref 408),dE P q158 830 (.ref 415),dE P q176 839 (.ref 422),dE P q169 849 (.ref 429),dE P q168 858 (.ref 436),dE P q175 871 (.ref 443),dE P q177 887 (.ref 450),dE P q161 893 (.ref 455),dE P q178 904 (.ref 462),dE P q167 918 (.ref 469),dE P q174 931 (.ref 476),dE P q166 939 (.ref 483),dE P q179 951 (.ref 490),dE P q160 969 (.ref 497)]
def o262  (P:Za):Obj:=dO (dE P iu 165 (.str gc 642)::g269 P) 75
def o263  : Obj:=kO q0 q177 q177 872 319 3 3 444 da (.ref 446) (.ref 447) (.ref 448) 885
def o264  : Obj:=gO q166 q166 (Z.Ja 70)
def o265  : Obj:=tO [(.str Fi 908),(.str Zi 909),(.str Yt 910),(.str q180 911),(.str q153 912),(.str Xl 913),(.str q181 914),(.str q182 915)]
def o266  : Obj:=fO q160 q160 (Z.Ja 72) (.str gc 642) 496
def o267  : Obj:=tO [(.str bo 843),(.str nq 844),(.str q137 845),(.str q138 846)]
def o268  : Obj:=kO q0 q179 q179 940 372 2 3 484 da (.ref 486) (.ref 487) (.ref 488) 949
def o269  : Obj:=gO q175 q175 (Z.Ja 64)
def o270  : Obj:=gO q161 q161 (Z.Ja 66)
def o271  : Obj:=kO q0 q176 q176 831 297 1 3 416 da (.ref 418) (.ref 419) (.ref 420) 837
def o272  : Obj:=fO q167 q167 (Z.Ja 68) (.str gc 642) 468
def o273  : Obj:=kO q0 q178 q178 894 347 2 3 456 da (.ref 458) (.ref 459) (.ref 460) 902
def o274  : Obj:=fO q169 q169 (Z.Ja 62) (.str gc 642) 428
def o275  : Obj:=tO [(.str q157 955),(.str q110 956),(.str q183 957),(.str q159 958),(.str Zi 959),(.str Fi 960),(.str Yt 961),(.str q153 962),(.str q184 963),(.str q180 964),(.str q185 965),(.str q186 966)]
def o276  : Obj:=gO q158 q158 (Z.Ja 60)
def o277  : Obj:=gO q177 q177 (Z.Ja 65)
def o278  : Obj:=tO [(.str q187 853),(.str q164 854),(.str q142 855)]
def o279  : Obj:=kO q0 q160 q160 952 384 1 3 491 da (.ref 493) (.ref 494) (.ref 495) 967
def o280  : Obj:=gO q179 q179 (Z.Ja 71)
def o281  : Obj:=fO q162 q162 (Z.Ja 59) (.str gc 642) 407
def o282  : Obj:=tO [(.str Fi 922),(.str Zi 923),(.str Yt 924),(.str q180 925),(.str q153 926),(.str q163 927),(.str Xl 928)]
def o283  : Obj:=gO q176 q176 (Z.Ja 61)
def o284  : Obj:=kO q0 q167 q167 905 353 5 3 463 da (.ref 465) (.ref 466) (.ref 467) 916
def o285  : Obj:=fO q168 q168 (Z.Ja 63) (.str gc 642) 435
def o286  : Obj:=gO q178 q178 (Z.Ja 67)
def o287  : Obj:=kO q0 q169 q169 840 302 4 3 423 da (.ref 425) (.ref 426) (.ref 427) 847
def o288  : Obj:=fO q174 q174 (Z.Ja 69) (.str gc 642) 475
def h297  : List Ba:=h227++[(.int 277 0),(.int 0 0),(.ref 407),(.int 285 0),(.int 0 0),(.ref 414),(.int 297 0),(.int 0 0),(.ref 421),(.int 302 0),(.int 0 0),(.ref 428),(.int 304 0),(.int 0 0),(.ref 435),(.int 309 0),(.int 0 0),(.ref 442),(.int 319 0),(.int 0 0),(.ref 449),(.int 337 0),(.int 0 0),(.ref 454),(.int 347 0),(.int 0 0),(.ref 461),(.int 353 0),(.int 0 0),(.ref 468),(.int 362 0),(.int 0 0),(.ref 475),(.int 367 0),(.int 0 0),(.ref 482),(.int 372 0),(.int 0 0),(.ref 489),(.int 384 0),(.int 0 0),(.ref 496)]
def o289  : Obj:=sO .none h297
def o290  : Obj:=fO q177 q177 (Z.Ja 65) (.str gc 642) 449
def o291  : Obj:=tO [(.str q188 834),(.str Xl 835),(.str q119 836)]
def o292  : Obj:=kO q0 q166 q166 932 367 1 3 477 da (.ref 479) (.ref 480) (.ref 481) 937
def o293  : Obj:=gO q168 q168 (Z.Ja 63)
def o294  : Obj:=tO [(.str q110 897),(.str Fi 898),(.str Xl 899),(.str q183 900),(.str VC 901)]
def o295  : Obj:=fO q179 q179 (Z.Ja 71) (.str gc 642) 489
def o296  : Obj:=gO q174 q174 (Z.Ja 69)
def o297  : Obj:=kO q0 q175 q175 859 309 4 3 437 da (.ref 439) (.ref 440) (.ref 441) 869
def o298  : Obj:=kO q0 q161 q161 888 337 2 3 451 da .none .none (.ref 453) 891
def o299  : Obj:=fO q176 q176 (Z.Ja 61) (.str gc 642) 421
def o300  : Obj:=tO [(.str q110 943),(.str Fi 944),(.str TC 945),(.str q189 946),(.str nq 947),(.str q190 948)]
def o301  : Obj:=gO q162 q162 (Z.Ja 59)
def o302  : Obj:=fO q178 q178 (Z.Ja 67) (.str gc 642) 461
def o303  : Obj:=kO q0 q158 q158 816 285 3 3 409 da (.ref 411) (.ref 412) (.ref 413) 828
def o304  : Obj:=tO [(.str q163 875),(.str q164 876),(.str bo 877),(.str q145 878),(.str SC 879),(.str nq 880),(.str q190 881),(.str q137 882),(.str q138 883),(.str Xl 884)]
def Ha  (P:Za):Va:=⟨⟨zn P::ol P::An P::vK P::Bn P::Cn P::Dn P::Gn P::Hn P::Jn P::Ln P::tE::o0::o1::o2::[]⟩,{}⟩
def t0  (P:Za):nj:=(bN (zn P) (bN (ol P) (bN (vK P) (bL (Gn P)) (bL tE)) (bN (Cn P) (bL (Jn P)) (bL o1))) (bN (An P) (bN (Bn P) (bL (Hn P)) (bL o0)) (bN (Dn P) (bL (Ln P)) (bL o2))))
def t1  (P:Za):nj:=(bN (zn P) (bN (ol P) (bN (BM P) (bN (Gn P) (bN o6 (bN tE (bL o3) bE) (bN o5 (bL o4) bE)) (bN (o9 P) (bN o8 (bL o7) bE) (bL nO))) (bN tE (bN nO (bN tE (bL o10) bE) (bN o12 (bL o11) bE)) (bN Br (bN (Do P) (bL Cr) bE) (bL Co)))) (bN (Cn P) (bN (Jn P) (bN (xr P) (bN zr (bL Ar) bE) (bN (yr P) (bL (Bo P)) bE)) (bN wr (bN Ao (bL tE) bE) (bL tE))) (bN o1 (bN mr (bN ur (bL tE) bE) (bL nr)) (bN o10 (bN kr (bL lr) bE) (bL jr))))) (bN (An P) (bN (Bn P) (bN (Hn P) (bN o10 (bN er (bL gr) bE) (bN o10 (bL ar) bE)) (bN AM (bN zo (bL Zq) bE) (bL Yq))) (bN zM (bN Uq (bN nO (bL (Xq P)) bE) (bN Vq (bL Wq) bE)) (bN o5 (bN yo (bL tE) bE) (bL xo)))) (bN (Dn P) (bN (Ln P) (bN tE (bN Tq (bL o5) bE) (bN tE (bL wo) bE)) (bN Qq (bN Sq (bL nO) bE) (bL Rq))) (bN o2 (bN tE (bN tE (bL Pq) bE) (bL tE)) (bN (Nq P) (bN Oq (bL vo) bE) (bL (uo P)))))))
def t2  (P:Za):nj:=(bN (zn P) (bN (ol P) (bN (yM P) (bN (Gn P) (bN o6 (bN tE (bN o3 (bL Mu) (bL Lu)) (bN tE (bL tE) bE)) (bN o5 (bN o4 (bL Mq) (bL Lq)) (bN tE (bL Kq) bE))) (bN (o9 P) (bN o8 (bN o7 (bL Jq) (bL Iq)) (bN Iu (bL Ju) bE)) (bN nO (bN (Hu P) (bL tE) bE) (bN (Gq P) (bL Hq) bE)))) (bN tE (bN nO (bN tE (bN o10 (bL nO) (bL Fq)) (bN Gu (bL tE) bE)) (bN o12 (bN o11 (bL tE) (bL tE)) (bN Eu (bL Fu) bE))) (bN Br (bN (Do P) (bN Cr (bL Du) (bL Cu)) (bN tE (bL nO) bE)) (bN Co (bN Bu (bL Dq) bE) (bN tE (bL Cq) bE))))) (bN (Cn P) (bN (Jn P) (bN (xr P) (bN zr (bN Ar (bL Bq) (bL Au)) (bN zq (bL Aq) bE)) (bN (yr P) (bN (Bo P) (bL nO) (bL nO)) (bN zu (bL tE) bE))) (bN wr (bN Ao (bN tE (bL tE) (bL tE)) (bN o10 (bL yq) bE)) (bN tE (bN xu (bL yu) bE) (bN uu (bL nO) bE)))) (bN o1 (bN mr (bN ur (bN tE (bL tE) (bL nO)) (bN xq (bL tu) bE)) (bN nr (bN o5 (bL wq) (bL vq)) (bN uq (bL su) bE))) (bN o10 (bN kr (bN lr (bL qu) (bL nu)) (bN mu (bL tE) bE)) (bN jr (bN nO (bL nO) bE) (bN lu (bL tE) bE)))))) (bN (An P) (bN (Bn P) (bN (Hn P) (bN o10 (bN er (bN gr (bL tq) (bL tE)) (bN ju (bL ku) bE)) (bN o10 (bN ar (bL tE) (bL tE)) (bN nO (bL rq) bE))) (bN o104 (bN zo (bN Zq (bL o100) (bL o101)) (bN o5 (bL o102) bE)) (bN Yq (bN tE (bL nO) bE) (bN o103 (bL tE) bE)))) (bN o113 (bN Uq (bN nO (bN (Xq P) (bL o105) (bL tE)) (bN (o106 P) (bL nO) bE)) (bN Vq (bN Wq (bL o107) (bL o108)) (bN o109 (bL tE) bE))) (bN o5 (bN yo (bN tE (bL tE) (bL tE)) (bN o111 (bL o110) bE)) (bN xo (bN tE (bL tE) bE) (bN nO (bL o112) bE))))) (bN (Dn P) (bN (Ln P) (bN tE (bN Tq (bN o5 (bL tE) (bL o114)) (bN o116 (bL o115) bE)) (bN tE (bN wo (bL o117) (bL o118)) (bN tE (bL nO) bE))) (bN Qq (bN Sq (bN nO (bL nO) (bL nO)) (bN (o119 P) (bL tE) bE)) (bN Rq (bN o121 (bL o120) bE) (bN o123 (bL o122) bE)))) (bN o2 (bN tE (bN tE (bN Pq (bL o124) (bL o125)) (bN o126 (bL tE) bE)) (bN tE (bN o10 (bL o127) (bL o128)) (bN o130 (bL o129) bE))) (bN (Nq P) (bN Oq (bN vo (bL o131) (bL o132)) (bN o134 (bL o133) bE)) (bN (uo P) (bN o136 (bL o135) bE) (bN tE (bL nO) bE)))))))
def t3  (P:Za):nj:=(bN (zn P) (bN (ol P) (bN (o170 P) (bN (Gn P) (bN o6 (bN tE (bN o3 (bN Mu (bL o137) (bL tE)) (bN Lu (bL o138) bE)) (bN tE (bN tE (bL nO) bE) (bN nO (bL o139) bE))) (bN o5 (bN o4 (bN Mq (bL o140) (bL o141)) (bN Lq (bL o142) bE)) (bN tE (bN Kq (bL tE) bE) (bN tE (bL o143) bE)))) (bN (o9 P) (bN o8 (bN o7 (bN Jq (bL nO) (bL nO)) (bN Iq (bL o144) bE)) (bN Iu (bN Ju (bL o145) bE) (bN o146 (bL tE) bE))) (bN nO (bN (Hu P) (bN tE (bL o147) bE) (bN tE (bL o148) bE)) (bN (Gq P) (bN Hq (bL o149) bE) (bN o151 (bL o150) bE))))) (bN tE (bN nO (bN tE (bN o10 (bN nO (bL o152) (bL o153)) (bN Fq (bL o154) bE)) (bN Gu (bN tE (bL o155) bE) (bN o156 (bL tE) bE))) (bN o12 (bN o11 (bN tE (bL o157) (bL o158)) (bN tE (bL o159) bE)) (bN Eu (bN Fu (bL tE) bE) (bN tE (bL o160) bE)))) (bN Br (bN (Do P) (bN Cr (bN Du (bL o161) (bL o162)) (bN Cu (bL o163) bE)) (bN tE (bN nO (bL o164) bE) (bN o166 (bL o165) bE))) (bN Co (bN Bu (bN Dq (bL o167) bE) (bN o169 (bL o168) bE)) (bN tE (bN Cq (bL nO) bE) (bN nO (bL tE) bE)))))) (bN (Cn P) (bN (Jn P) (bN (xr P) (bN zr (bN Ar (bN Bq (bL tE) (bL o171)) (bN Au (bL tE) bE)) (bN zq (bN Aq (bL tE) bE) (bN tE (bL nO) bE))) (bN (yr P) (bN (Bo P) (bN nO (bL o172) (bL o173)) (bN nO (bL o174) bE)) (bN zu (bN tE (bL o175) bE) (bN o176 (bL tE) bE)))) (bN wr (bN Ao (bN tE (bN tE (bL tE) (bL tE)) (bN tE (bL nO) bE)) (bN o10 (bN yq (bL o177) bE) (bN o179 (bL o178) bE))) (bN tE (bN xu (bN yu (bL tE) bE) (bN o180 (bL tE) bE)) (bN uu (bN nO (bL o181) bE) (bN o182 (bL nO) bE))))) (bN o1 (bN mr (bN ur (bN tE (bN tE (bL o183) (bL o184)) (bN nO (bL o185) bE)) (bN xq (bN tu (bL tE) bE) (bN tE (bL o186) bE))) (bN nr (bN o5 (bN wq (bL nO) bE) (bN vq (bL nO) bE)) (bN uq (bN su (bL o187) bE) (bN o189 (bL o188) bE)))) (bN o10 (bN kr (bN lr (bN qu (bL tE) (bL tE)) (bN nu (bL tE) bE)) (bN mu (bN tE (bL nO) bE) (bN nO (bL nO) bE))) (bN jr (bN nO (bN nO (bL o190) bE) (bN o192 (bL o191) bE)) (bN lu (bN tE (bL tE) bE) (bN tE (bL o193) bE))))))) (bN (An P) (bN (Bn P) (bN (Hn P) (bN o10 (bN er (bN gr (bN tq (bL o194) (bL nO)) (bN tE (bL o195) bE)) (bN ju (bN ku (bL o196) bE) (bN o197 (bL tE) bE))) (bN o10 (bN ar (bN tE (bL tE) (bL tE)) (bN tE (bL tE) bE)) (bN nO (bN rq (bL o198) bE) (bN o200 (bL o199) bE)))) (bN o104 (bN zo (bN Zq (bN o100 (bL o201) (bL o202)) (bN o101 (bL tE) bE)) (bN o5 (bN o102 (bL o203) bE) (bN tE (bL nO) bE))) (bN Yq (bN tE (bN nO (bL o204) bE) (bN nO (bL o205) bE)) (bN o103 (bN tE (bL o206) bE) (bN o207 (bL tE) bE))))) (bN o221 (bN Uq (bN nO (bN (Xq P) (bN o105 (bL o208) (bL o209)) (bN tE (bL tE) bE)) (bN (o106 P) (bN nO (bL o210) bE) (bN o212 (bL o211) bE))) (bN Vq (bN Wq (bN o107 (bL tE) bE) (bN o108 (bL tE) bE)) (bN o109 (bN tE (bL nO) bE) (bN nO (bL tE) bE)))) (bN o5 (bN yo (bN tE (bN tE (bL o213) (bL o214)) (bN tE (bL o215) bE)) (bN o111 (bN o110 (bL tE) bE) (bN tE (bL tE) bE))) (bN xo (bN tE (bN tE (bL o216) bE) (bN o217 (bL tE) bE)) (bN nO (bN o112 (bL o218) bE) (bN o220 (bL o219) bE)))))) (bN (Dn P) (bN (Ln P) (bN tE (bN Tq (bN o5 (bN tE (bL nO) (bL tE)) (bN o114 (bL nO) bE)) (bN o116 (bN o115 (bL o222) bE) (bN o224 (bL o223) bE))) (bN tE (bN wo (bN o117 (bL o225) (bL o226)) (bN o118 (bL o227) bE)) (bN tE (bN nO (bL o228) bE) (bN o229 (bL nO) bE)))) (bN Qq (bN Sq (bN nO (bN nO (bL o230) (bL o231)) (bN nO (bL o232) bE)) (bN (o119 P) (bN tE (bL o233) bE) (bN o235 (bL o234) bE))) (bN Rq (bN o121 (bN o120 (bL nO) bE) (bN tE (bL nO) bE)) (bN o123 (bN o122 (bL tE) bE) (bN tE (bL o236) bE))))) (bN o2 (bN tE (bN tE (bN Pq (bN o124 (bL tE) (bL tE)) (bN o125 (bL o237) bE)) (bN o126 (bN tE (bL nO) bE) (bN nO (bL o238) bE))) (bN tE (bN o10 (bN o127 (bL o239) bE) (bN o128 (bL o240) bE)) (bN o130 (bN o129 (bL tE) bE) (bN tE (bL o241) bE)))) (bN (Nq P) (bN Oq (bN vo (bN o131 (bL nO) (bL nO)) (bN o132 (bL nO) bE)) (bN o134 (bN o133 (bL o242) bE) (bN o244 (bL o243) bE))) (bN (uo P) (bN o136 (bN o135 (bL tE) bE) (bN tE (bL o245) bE)) (bN tE (bN nO (bL o246) bE) (bN o248 (bL o247) bE))))))))
def t4  (P:Za):nj:=(bN (zn P) (bN (ol P) (bN (o262 P) (bN (Gn P) (bN o6 (bN tE (bN o3 (bN Mu (bL o137) (bL tE)) (bN Lu (bL o138) (bL tE))) (bN tE (bN tE (bL nO) (bL o249)) (bN nO (bL o139) (bL o250)))) (bN o5 (bN o4 (bN Mq (bL o140) (bL o141)) (bN Lq (bL o142) (bL tE))) (bN tE (bN Kq (bL tE) (bL nO)) (bN tE (bL o143) (bL o251))))) (bN (o9 P) (bN o8 (bN o7 (bN Jq (bL nO) (bL nO)) (bN Iq (bL o144) (bL o252))) (bN Iu (bN Ju (bL o145) (bL tE)) (bN o146 (bL tE) (bL tE)))) (bN nO (bN (Hu P) (bN tE (bL o147) (bL o253)) (bN tE (bL o148) (bL nO))) (bN (Gq P) (bN Hq (bL o149) (bL o254)) (bN o151 (bL o150) bE))))) (bN tE (bN nO (bN tE (bN o10 (bN nO (bL o152) (bL o153)) (bN Fq (bL o154) (bL tE))) (bN Gu (bN tE (bL o155) (bL tE)) (bN o156 (bL tE) (bL o255)))) (bN o12 (bN o11 (bN tE (bL o157) (bL o158)) (bN tE (bL o159) (bL o256))) (bN Eu (bN Fu (bL tE) (bL o257)) (bN tE (bL o160) bE)))) (bN Br (bN (Do P) (bN Cr (bN Du (bL o161) (bL o162)) (bN Cu (bL o163) (bL tE))) (bN tE (bN nO (bL o164) (bL o258)) (bN o166 (bL o165) (bL tE)))) (bN Co (bN Bu (bN Dq (bL o167) (bL o259)) (bN o169 (bL o168) (bL o260))) (bN tE (bN Cq (bL nO) (bL o261)) (bN nO (bL tE) bE)))))) (bN (Cn P) (bN (Jn P) (bN (xr P) (bN zr (bN Ar (bN Bq (bL tE) (bL o171)) (bN Au (bL tE) (bL o263))) (bN zq (bN Aq (bL tE) (bL nO)) (bN tE (bL nO) (bL o264)))) (bN (yr P) (bN (Bo P) (bN nO (bL o172) (bL o173)) (bN nO (bL o174) (bL o265))) (bN zu (bN tE (bL o175) (bL tE)) (bN o176 (bL tE) (bL o266))))) (bN wr (bN Ao (bN tE (bN tE (bL tE) (bL tE)) (bN tE (bL nO) (bL nO))) (bN o10 (bN yq (bL o177) (bL o267)) (bN o179 (bL o178) (bL o268)))) (bN tE (bN xu (bN yu (bL tE) (bL tE)) (bN o180 (bL tE) (bL tE))) (bN uu (bN nO (bL o181) (bL o269)) (bN o182 (bL nO) bE))))) (bN o1 (bN mr (bN ur (bN tE (bN tE (bL o183) (bL o184)) (bN nO (bL o185) (bL o270))) (bN xq (bN tu (bL tE) (bL o271)) (bN tE (bL o186) (bL nO)))) (bN nr (bN o5 (bN wq (bL nO) (bL nO)) (bN vq (bL nO) (bL o272))) (bN uq (bN su (bL o187) (bL tE)) (bN o189 (bL o188) bE)))) (bN o10 (bN kr (bN lr (bN qu (bL tE) (bL tE)) (bN nu (bL tE) (bL o273))) (bN mu (bN tE (bL nO) (bL o274)) (bN nO (bL nO) (bL o275)))) (bN jr (bN nO (bN nO (bL o190) (bL o276)) (bN o192 (bL o191) (bL tE))) (bN lu (bN tE (bL tE) (bL nO)) (bN tE (bL o193) bE))))))) (bN (An P) (bN (Bn P) (bN (Hn P) (bN o10 (bN er (bN gr (bN tq (bL o194) (bL nO)) (bN tE (bL o195) (bL o277))) (bN ju (bN ku (bL o196) (bL tE)) (bN o197 (bL tE) (bL tE)))) (bN o10 (bN ar (bN tE (bL tE) (bL tE)) (bN tE (bL tE) (bL nO))) (bN nO (bN rq (bL o198) (bL o278)) (bN o200 (bL o199) (bL o279))))) (bN o104 (bN zo (bN Zq (bN o100 (bL o201) (bL o202)) (bN o101 (bL tE) (bL tE))) (bN o5 (bN o102 (bL o203) (bL nO)) (bN tE (bL nO) (bL o280)))) (bN Yq (bN tE (bN nO (bL o204) (bL o281)) (bN nO (bL o205) (bL o282))) (bN o103 (bN tE (bL o206) (bL tE)) (bN o207 (bL tE) bE))))) (bN o289 (bN Uq (bN nO (bN (Xq P) (bN o105 (bL o208) (bL o209)) (bN tE (bL tE) (bL nO))) (bN (o106 P) (bN nO (bL o210) (bL o283)) (bN o212 (bL o211) (bL tE)))) (bN Vq (bN Wq (bN o107 (bL tE) (bL tE)) (bN o108 (bL tE) (bL o284))) (bN o109 (bN tE (bL nO) (bL o285)) (bN nO (bL tE) bE)))) (bN o5 (bN yo (bN tE (bN tE (bL o213) (bL o214)) (bN tE (bL o215) (bL o286))) (bN o111 (bN o110 (bL tE) (bL o287)) (bN tE (bL tE) (bL nO)))) (bN xo (bN tE (bN tE (bL o216) (bL tE)) (bN o217 (bL tE) (bL o288))) (bN nO (bN o112 (bL o218) (bL tE)) (bN o220 (bL o219) bE)))))) (bN (Dn P) (bN (Ln P) (bN tE (bN Tq (bN o5 (bN tE (bL nO) (bL tE)) (bN o114 (bL nO) (bL o290))) (bN o116 (bN o115 (bL o222) (bL o291)) (bN o224 (bL o223) (bL o292)))) (bN tE (bN wo (bN o117 (bL o225) (bL o226)) (bN o118 (bL o227) (bL tE))) (bN tE (bN nO (bL o228) (bL o293)) (bN o229 (bL nO) bE)))) (bN Qq (bN Sq (bN nO (bN nO (bL o230) (bL o231)) (bN nO (bL o232) (bL o294))) (bN (o119 P) (bN tE (bL o233) (bL tE)) (bN o235 (bL o234) (bL o295)))) (bN Rq (bN o121 (bN o120 (bL nO) (bL nO)) (bN tE (bL nO) (bL o296))) (bN o123 (bN o122 (bL tE) (bL o297)) (bN tE (bL o236) bE))))) (bN o2 (bN tE (bN tE (bN Pq (bN o124 (bL tE) (bL tE)) (bN o125 (bL o237) (bL o298))) (bN o126 (bN tE (bL nO) (bL o299)) (bN nO (bL o238) (bL o300)))) (bN tE (bN o10 (bN o127 (bL o239) (bL o301)) (bN o128 (bL o240) (bL tE))) (bN o130 (bN o129 (bL tE) (bL nO)) (bN tE (bL o241) bE)))) (bN (Nq P) (bN Oq (bN vo (bN o131 (bL nO) (bL nO)) (bN o132 (bL nO) (bL o302))) (bN o134 (bN o133 (bL o242) (bL tE)) (bN o244 (bL o243) (bL tE)))) (bN (uo P) (bN o136 (bN o135 (bL tE) (bL o303)) (bN tE (bL o245) (bL nO))) (bN tE (bN nO (bL o246) (bL o304)) (bN o248 (bL o247) bE))))))))
def Hz  (P:Za):Va:=⟨⟨zn P::ol P::An P::o262 P::Bn P::Cn P::Dn P::Gn P::Hn P::Jn P::Ln P::tE::o289::o1::o2::o6::o10::xr P::tE::nO::Uq::mr::tE::o9 P::o104::wr::Qq::Br::o5::o10::Nq P::tE::er::zr::Tq::tE::nO::ur::tE::o8::zo::Ao::Sq::Do P::yo::kr::Oq::o5::o10::yr P::tE::o12::Vq::nr::tE::nO::Yq::tE::Rq::Co::xo::jr::uo P::o3::gr::Ar::o5::o10::Xq P::tE::Pq::o7::Zq::tE::nO::Cr::tE::lr::vo::o4::ar::Bo P::wo::o11::Wq::o5::o10::Hu P::tE::xu::o121::Bu::tE::nO::o136::tE::ju::zq::o116::Gu::o106 P::xq::o126::Iu::o5::o10::o119 P::tE::o111::mu::o134::tE::nO::zu::tE::Eu::o109::uq::o130::Gq P::o103::uu::o123::tE::nO::lu::tE::Mu::tq::Bq::tE::nO::o105::tE::o124::Jq::o100::tE::nO::Du::tE::qu::o131::Mq::tE::nO::o117::tE::o107::wq::o127::tE::nO::yu::o120::Dq::tE::nO::o135::tE::ku::Aq::o115::tE::nO::tu::tE::Ju::o102::yq::tE::nO::o110::tE::o133::Kq::rq::tE::nO::Fu::tE::su::o129::Hq::tE::nO::o122::Cq::o112::tE::nO::Lu::tE::Au::o114::Fq::tE::nO::o125::Iq::o101::tE::nO::Cu::tE::nu::o132::Lq::tE::nO::o118::tE::o108::vq::o128::tE::nO::o180::tE::o169::o217::o192::tE::nO::o197::tE::o224::o156::o212::tE::nO::o146::tE::o179::o235::o166::tE::nO::o244::tE::o200::o176::o229::tE::nO::o189::tE::o151::o207::o182::tE::nO::o220::tE::o248::o137::o194::tE::nO::o152::o208::o183::tE::nO::o201::tE::o230::o161::o213::tE::nO::o140::tE::o172::o225::o157::tE::nO::o239::o147::o204::tE::nO::o167::o216::o190::tE::nO::o196::tE::o222::o155::o210::tE::nO::o145::o203::o177::o233::o164::tE::nO::o242::tE::o198::o175::o228::tE::nO::o187::tE::o149::o206::o181::tE::nO::o218::tE::o246::o138::o195::tE::nO::o154::tE::o185::o237::o144::tE::nO::o232::o163::o215::tE::nO::o142::tE::o174::o227::o159::tE::nO::o240::o148::o205::tE::nO::o168::tE::o191::o245::o139::tE::nO::o223::tE::o211::o186::o238::tE::nO::o178::o234::o165::tE::nO::o243::o143::o199::tE::nO::o160::tE::o188::o241::o150::tE::nO::o236::tE::o219::o193::o247::tE::nO::o171::tE::o153::o209::o184::tE::nO::o202::tE::o231::o162::o214::tE::nO::o141::tE::o173::o226::o158::tE::nO::o301::o253::o281::tE::nO::o259::tE::o276::o303::o249::tE::nO::o291::tE::o283::o271::o299::tE::nO::o267::tE::o258::o287::o274::tE::nO::o278::tE::o293::o257::o285::tE::nO::o254::tE::o269::o297::o261::tE::nO::o304::tE::o277::o263::o290::tE::nO::o270::o298::o252::tE::nO::o294::tE::o286::o273::o302::tE::nO::o265::tE::o256::o284::o272::tE::nO::o282::tE::o296::o260::o288::tE::nO::o250::tE::o264::o292::o255::tE::nO::o300::tE::o280::o268::o295::tE::nO::o275::tE::o251::o279::o266::[]⟩,{}⟩
noncomputable def st1  : List Pa:=[Z.Ja 0,Z.Ja 1,Z.Ja 2,Z.Ja 3,Z.Ja 4]
noncomputable def st2  : List Pa:=[Z.Ja 5,Z.Ja 6,Z.Ja 7,Z.Ja 8,Z.Ja 9,Z.Ja 10,Z.Ja 11,Z.Ja 12,Z.Ja 13,Z.Ja 14,Z.Ja 15,Z.Ja 16,Z.Ja 17,Z.Ja 18,Z.Ja 19,Z.Ja 20,Z.Ja 21,Z.Ja 22,Z.Ja 23,Z.Ja 24]
noncomputable def st3  : List Pa:=[Z.Ja 25,Z.Ja 26,Z.Ja 27,Z.Ja 28,Z.Ja 29,Z.Ja 30,Z.Ja 31,Z.Ja 32,Z.Ja 33,Z.Ja 34,Z.Ja 35,Z.Ja 36,Z.Ja 37,Z.Ja 38,Z.Ja 39,Z.Ja 40,Z.Ja 41,Z.Ja 42,Z.Ja 43,Z.Ja 44,Z.Ja 45,Z.Ja 46,Z.Ja 47,Z.Ja 48,Z.Ja 49,Z.Ja 50,Z.Ja 51,Z.Ja 52,Z.Ja 53,Z.Ja 54,Z.Ja 55,Z.Ja 56,Z.Ja 57,Z.Ja 58]
noncomputable def NC  : List Pa:=[Z.Ja 59,Z.Ja 60,Z.Ja 61,Z.Ja 62,Z.Ja 63,Z.Ja 64,Z.Ja 65,Z.Ja 66,Z.Ja 67,Z.Ja 68,Z.Ja 69,Z.Ja 70,Z.Ja 71,Z.Ja 72]
def bd  : List Pa:=st1++(st2++(st3++(NC++[])))
noncomputable abbrev pw  : Ib:=PySem.Challenge.pw_beatplans_k36_no_cases_of_waits
def qw  : Ib:={ pw with main:={ pw.main with body:=[Z.Ja 1,Z.Ja 2,Z.Ja 3,Z.Ja 4,Z.Ja 5,Z.Ja 6,Z.Ja 8,Z.Ja 9,Z.Ja 10,Z.Ja 11,Z.Ja 12,Z.Ja 13,Z.Ja 15,Z.Ja 16,Z.Ja 17,Z.Ja 18,Z.Ja 19,Z.Ja 20,Z.Ja 21,Z.Ja 22,Z.Ja 24,Z.Ja 25,Z.Ja 26,Z.Ja 27,Z.Ja 28,Z.Ja 29,Z.Ja 31,Z.Ja 32,Z.Ja 33,Z.Ja 34,Z.Ja 35,Z.Ja 36,Z.Ja 37,Z.Ja 38,Z.Ja 40,Z.Ja 41,Z.Ja 43,Z.Ja 44,Z.Ja 45,Z.Ja 46,Z.Ja 47,Z.Ja 48,Z.Ja 49,Z.Ja 50,Z.Ja 51,Z.Ja 52,Z.Ja 53,Z.Ja 54,Z.Ja 55,Z.Ja 56,Z.Ja 57,Z.Ja 58,Z.Ja 59,Z.Ja 60,Z.Ja 61,Z.Ja 62,Z.Ja 63,Z.Ja 64,Z.Ja 65,Z.Ja 66,Z.Ja 67,Z.Ja 68,Z.Ja 69,Z.Ja 70,Z.Ja 71,Z.Ja 72] } }
def en  : Env:={ scope:=pw.main.scope,locals:=mainNs,globals:=mainNs,cells:=[],code:=.ref 13,frame:=ca 14 }
def cE  : Fj:=.body bd en
noncomputable abbrev pz  : Pos:=⟨0,0,0,0⟩
abbrev fz  : List Frame:=[PySem.W.topFrame pz]
noncomputable abbrev s0  (w:ib)(y:ie):Da:=⟨Xp w.params,⟨[]⟩,PySem.W.boot_drawn,PySem.W.boot_toks,y⟩
abbrev sz  (w:ib)(y:ie):Da:=⟨Hz w.params,⟨[]⟩,{},970,y⟩
noncomputable def sT  (t:Za->nj)(n k:Nat)(w:ib)(y:ie):PySem.W.SharedT:=⟨t w.params,n,{},⟨[]⟩,{},k,y⟩
section
variable (w:ib)(os:ie)
def LN  : PySem.W.topGo Yj pw w 11 (ca (.ref 6)) 12 (s0 w os) (ZK pw)=ca (⟨Ha w.params,⟨[]⟩,{},187,os⟩,⟨denote Yj cE,cE,pz,fz⟩):=by
 rw[PySem.W.Fast.te15667345088766844465,Pn,PySem.W.Fast.te11892475500146522536];kernel_rfl
def JN  : PySem.W.segRun Yj pw w 11 (ca (.ref 6)) 1 1 ⟨Ha w.params,⟨[]⟩,{},187,os⟩ (PySem.W.blockOf bd en cE pz fz)=ca (.next,(sT t0 15 187 w os).abs,cE,pz):=by
 rw[PySem.W.Fast.te14374325043358763698,Pn];kernel_rfl
def r1  : Hx Yj pw w 11 (ca (.ref 6)) 1 933 (sT t0 15 187 w os) (wx st1 en cE pz fz)=ca (.next,sT t1 85 284 w os,cE,⟨13,0,16,24⟩):=by
 rw[Kx,Pn];kernel_rfl
def r2  : Hx Yj pw w 11 (ca (.ref 6)) 1 971 (sT t1 85 284 w os) (wx st2 en cE ⟨13,0,16,24⟩ fz)=ca (.next,sT t2 215 484 w os,cE,⟨82,0,83,78⟩):=by
 rw[Kx,Pn];kernel_rfl
def r3  : Hx Yj pw w 11 (ca (.ref 6)) 1 986 (sT t2 215 484 w os) (wx st3 en cE ⟨82,0,83,78⟩ fz)=ca (.next,sT t3 404 810 w os,cE,⟨264,0,276,21⟩):=by
 rw[Kx,Pn];kernel_rfl
def r4  : Hx Yj pw w 11 (ca (.ref 6)) 1 465 (sT t3 404 810 w os) (wx NC en cE ⟨264,0,276,21⟩ fz)=ca (.next,sT t4 498 970 w os,cE,⟨384,0,399,15⟩):=by
 rw[Kx,Pn];kernel_rfl
def KN  : MK Yj pw w 11 (ca (.ref 6)) 2 (sT t4 498 970 w os).abs ⟨PySem.W.doneF .next,cE,⟨384,0,399,15⟩,fz⟩=ca (sz w os):=by
 rw[PySem.W.Fast.te14082659384304107361,Pn];kernel_rfl
def MN  : MK Yj pw w 11 (ca (.ref 6)) (12+(1+(933+(971+(986+(465+(2))))))) (s0 w os) (ZK pw)=ca (sz w os):=
 PySem.W.go_top (LN w os) (PySem.W.piece_block (JN w os) (yx (zx (r1 w os)) (yx (zx (r2 w os)) (yx (zx (r3 w os)) (yx (zx (r4 w os)) (KN w os))))))
end
def KK  : Za->Hb:=λP=>((1:Aa),ol P)::((3:Aa),o262 P)::((23:Aa),o9 P)::((24:Aa),o104)::((40:Aa),zo)::((41:Aa),Ao)::((43:Aa),Do P)::((44:Aa),yo)::((59:Aa),Co)::((60:Aa),xo)::((62:Aa),uo P)::((63:Aa),o3)::((78:Aa),vo)::((79:Aa),o4)::((81:Aa),Bo P)::((82:Aa),wo)::((97:Aa),zq)::((98:Aa),o116)::((100:Aa),o106 P)::((101:Aa),xq)::((116:Aa),o109)::((117:Aa),uq)::((119:Aa),Gq P)::((120:Aa),o103)::((128:Aa),tq)::((129:Aa),Bq)::((135:Aa),Jq)::((136:Aa),o100)::((142:Aa),o131)::((143:Aa),Mq)::((149:Aa),wq)::((150:Aa),o127)::((154:Aa),o120)::((155:Aa),Dq)::((161:Aa),Aq)::((162:Aa),o115)::((168:Aa),o102)::((169:Aa),yq)::((175:Aa),Kq)::((176:Aa),rq)::((182:Aa),o129)::((183:Aa),Hq)::((187:Aa),Cq)::((188:Aa),o112)::((194:Aa),o114)::((195:Aa),Fq)::((199:Aa),Iq)::((200:Aa),o101)::((206:Aa),o132)::((207:Aa),Lq)::((213:Aa),vq)::((214:Aa),o128)::((220:Aa),o217)::((221:Aa),o192)::((227:Aa),o156)::((228:Aa),o212)::((234:Aa),o235)::((235:Aa),o166)::((241:Aa),o176)::((242:Aa),o229)::((248:Aa),o207)::((249:Aa),o182)::((255:Aa),o137)::((256:Aa),o194)::((260:Aa),o208)::((261:Aa),o183)::((267:Aa),o161)::((268:Aa),o213)::((274:Aa),o225)::((275:Aa),o157)::((279:Aa),o147)::((280:Aa),o204)::((284:Aa),o216)::((285:Aa),o190)::((291:Aa),o155)::((292:Aa),o210)::((298:Aa),o233)::((299:Aa),o164)::((305:Aa),o175)::((306:Aa),o228)::((312:Aa),o206)::((313:Aa),o181)::((319:Aa),o138)::((320:Aa),o195)::((326:Aa),o237)::((327:Aa),o144)::((331:Aa),o163)::((332:Aa),o215)::((338:Aa),o227)::((339:Aa),o159)::((343:Aa),o148)::((344:Aa),o205)::((350:Aa),o245)::((351:Aa),o139)::((357:Aa),o186)::((358:Aa),o238)::((362:Aa),o234)::((363:Aa),o165)::((367:Aa),o143)::((368:Aa),o199)::((374:Aa),o241)::((375:Aa),o150)::((381:Aa),o193)::((382:Aa),o247)::((388:Aa),o209)::((389:Aa),o184)::((395:Aa),o162)::((396:Aa),o214)::((402:Aa),o226)::((403:Aa),o158)::((407:Aa),o253)::((408:Aa),o281)::((414:Aa),o303)::((415:Aa),o249)::((421:Aa),o271)::((422:Aa),o299)::((428:Aa),o287)::((429:Aa),o274)::((435:Aa),o257)::((436:Aa),o285)::((442:Aa),o297)::((443:Aa),o261)::((449:Aa),o263)::((450:Aa),o290)::((454:Aa),o298)::((455:Aa),o252)::((461:Aa),o273)::((462:Aa),o302)::((468:Aa),o284)::((469:Aa),o272)::((475:Aa),o260)::((476:Aa),o288)::((482:Aa),o292)::((483:Aa),o255)::((489:Aa),o268)::((490:Aa),o295)::((496:Aa),o279)::((497:Aa),o266)::[]
noncomputable def KA  : List Aa:=1::3::23::24::40::41::43::44::59::60::62::63::78::79::81::82::97::98::100::101::116::117::119::120::128::129::135::136::142::143::149::150::154::155::161::162::168::169::175::176::182::183::187::188::194::195::199::200::206::207::213::214::220::221::227::228::234::235::241::242::248::249::255::256::260::261::267::268::274::275::279::280::284::285::291::292::298::299::305::306::312::313::319::320::326::327::331::332::338::339::343::344::350::351::357::358::362::363::367::368::374::375::381::382::388::389::395::396::402::403::407::408::414::415::421::422::428::429::435::436::442::443::449::450::454::455::461::462::468::469::475::476::482::483::489::490::496::497::[]
def fl  : Z.FL:=(129,128,(.str bi 336))::(136,135,(.str bi 336))::(143,142,(.str bi 336))::(150,149,(.str bi 336))::(155,154,(.str bi 336))::(162,161,(.str bi 336))::(169,168,(.str gh 393))::(176,175,(.str gh 393))::(183,182,(.str gh 393))::(188,187,(.str gh 393))::(195,194,(.str gh 393))::(200,199,(.str gh 393))::(207,206,(.str gh 393))::(214,213,(.str Hh 473))::(221,220,(.str Hh 473))::(228,227,(.str Hh 473))::(235,234,(.str Hh 473))::(242,241,(.str Hh 473))::(249,248,(.str Hh 473))::(256,255,(.str q114 554))::(261,260,(.str q114 554))::(268,267,(.str q114 554))::(275,274,(.str q114 554))::(280,279,(.str q114 554))::(285,284,(.str q114 554))::(292,291,(.str q125 612))::(299,298,(.str q125 612))::(306,305,(.str gc 642))::(313,312,(.str gc 642))::(320,319,(.str gc 642))::(327,326,(.str gc 642))::(332,331,(.str gc 642))::(339,338,(.str gc 642))::(344,343,(.str gc 642))::(351,350,(.str gc 642))::(358,357,(.str gc 642))::(363,362,(.str gc 642))::(368,367,(.str gc 642))::(375,374,(.str gc 642))::(382,381,(.str gc 642))::(389,388,(.str gc 642))::(396,395,(.str gc 642))::(403,402,(.str gc 642))::(408,407,(.str gc 642))::(415,414,(.str gc 642))::(422,421,(.str gc 642))::(429,428,(.str gc 642))::(436,435,(.str gc 642))::(443,442,(.str gc 642))::(450,449,(.str gc 642))::(455,454,(.str gc 642))::(462,461,(.str gc 642))::(469,468,(.str gc 642))::(476,475,(.str gc 642))::(483,482,(.str gc 642))::(490,489,(.str gc 642))::(497,496,(.str gc 642))::[]
def k_dyn   P:Z.dynB Z.T (KK P) 0 fl Z.T.funs Z.sts=da:=by kernel_rfl
def k_lk   P:fl.map (λx=>(KK P).lookup x.1)=Z.Go fl Z.T.funs Z.sts:=by kernel_rfl
def k_blt   P:Z.bltB (KK P)=da:=by kernel_rfl
def k_gs   P:Z.Fs (KK P) Z.T.gn Z.T.gs=da:=by kernel_rfl
def k_xb   P:∃y,L2.XBase (KK P) (Z.gK (KK P)) 24 y:=Z.xb_mk 24 23 15 189 197 [(.ref 44),(.ref 63),(.ref 82),(.ref 101),(.ref 120)] (by kernel_rfl) (by kernel_rfl)
def k_cs   P:Z.Ht (KK P) Z.T.cs:=⟨Z.xc_mk (k_xb P) "NoPaper" "NoPaper.__init__" ["word", "at"] (Ug (Z.Ja 2) 0) 44 43 28 207 215 41 40 (.str q6 187) (by kernel_rfl) (by kernel_rfl) (by kernel_rfl) (.inr ⟨_,_,_,_,_,_,_,_,_,_,rfl,by decide,rfl⟩),
 Z.xc_mk (k_xb P) "TooMany" "TooMany.__init__" ["word"] (Ug (Z.Ja 3) 0) 63 62 47 234 242 60 59 (.str q6 187) (by kernel_rfl) (by kernel_rfl) (by kernel_rfl) (.inl ⟨_,_,_,_,_,rfl,rfl⟩),
 Z.xc_mk (k_xb P) "NoRing" "NoRing.__init__" ["word"] (Ug (Z.Ja 4) 0) 82 81 66 259 267 79 78 (.str q6 187) (by kernel_rfl) (by kernel_rfl) (by kernel_rfl) (.inl ⟨_,_,_,_,_,rfl,rfl⟩),
 Z.xc_mk (k_xb P) "NoText" "NoText.__init__" ["row", "word"] (Ug (Z.Ja 5) 0) 101 100 85 284 292 98 97 (.str q6 187) (by kernel_rfl) (by kernel_rfl) (by kernel_rfl) (.inr ⟨_,_,_,_,_,_,_,_,_,_,rfl,by decide,rfl⟩),
 Z.xc_mk (k_xb P) "NoRow" "NoRow.__init__" ["row"] (Ug (Z.Ja 6) 0) 120 119 104 311 319 117 116 (.str q6 187) (by kernel_rfl) (by kernel_rfl) (by kernel_rfl) (.inl ⟨_,_,_,_,_,rfl,rfl⟩),trivial⟩
noncomputable abbrev rr  : PySem.W.OpenRow:=PySem.Challenge.rw_beatplans_k36_no_cases_of_waits.row
def Xt  : Da->Bool:=λs=>PySem.W.xlAt qw [] s&&PySem.W.recOk (PySem.W.RowW.records rr.toRowW) s
abbrev hk  : md:=PySem.W.kHook KK KA (λ_=>by kernel_rfl)
def oP  (w:ib):((Xp w.params).isNs Ud&&(⟨[]⟩:Array GenState).size==0,(Xp w.params).objs.size,(Xp w.params).nsMap Ud "__annotations__")=(da,11,ca (Ae 6)):=by
 rw[PySem.W.Fast.te8920871248978507458];kernel_rfl
def k_l1  (w:ib) os:(PySem.W.staticsOk (importedModules pw.main.body) (Xp w.params) (Hz w.params)&&PySem.W.namesBound pw (Hz w.params)&&PySem.W.gensDone (sz w os)&&PySem.W.laidKept (Xp w.params) (Hz w.params))=da:=by
 rw[RL];kernel_rfl
def k_l2  (w:ib) os:PySem.W.openSeen qw [] (importedModules pw.main.body) Xt da (sz w os)=PySem.W.openGood qw []:=by
 rw[PySem.W.Fast.te4187177175401517315,RL];kernel_rfl
def k_l3   w os:YB hk (sz w os)=ZB hk w:=by kernel_rfl
def k_hl  : PySem.W.LeftO pw qw [] Xt (YB hk) (ZB hk) 6828:=PySem.W.LeftO.of_pieces (PySem.W.boot_open (by kernel_rfl) (by decide) λ_=>by kernel_rfl) oP MN (by decide) λw=>funext λy=>Xn (k_l1 w y) (Xn (k_l2 w y) (k_l3 w y))
end Y
open PySem PySem.W PyProof.Rows
set_option maxRecDepth 100000 in
set_option maxHeartbeats 0 in
theorem PySem.Challenge.cw_beatplans_k36_no_cases_of_waits_holds : PySem.Challenge.rw_beatplans_k36_no_cases_of_waits.Holds := by
 refine PySem.W.holds_law Z.wellS λsaid=>?_
 refine PySem.W.holds_open (q:=Y.qw) (loose:=[]) (Xt:=Y.Xt) (XP:=PySem.W.XL Y.qw []) (Yf:=YB Y.hk) (Ya:=ZB Y.hk) (YP:=md.says Y.hk) (N:=6828) Y.k_hl (md.of Y.hk) (md.keeps Y.hk) (λs e=>PySem.W.xl_of s (Bool.and_eq_true_iff.mp e).1) PySem.W.XL.keeps (by rfl) (by rfl) (by rfl) (λs e=>PySem.W.recFacts_of (Bool.and_eq_true_iff.mp e).2) (by rfl) said (by decide +kernel) ⟨rfl,rfl,rfl,rfl,rfl,by decide +kernel⟩ ?hw ?hc
 case hw=>w_witness2
 refine Z.walk (l:=PySem.Challenge.rw_beatplans_k36_no_cases_of_waits) rfl rfl (λw h Y=>PySem.W.kIn_of Y) ?K ?S ?B ?F
 case K=>intro w;rfl
 case S=>intro w;exact⟨_,rfl,rfl⟩
 case B=>
  intro w t ht
  simp only[Z.tbs,Oc,Je,or_false]at ht
  rcases ht with rfl
  ·exact⟨⟨_,rfl⟩,by kernel_rfl,by kernel_rfl⟩
 case F=>exact λw mg fa h X G hm=>Z.all2 X G hm Z.prog_rep Z.prog_eq Z.tabsU (Y.k_dyn _) (Y.k_lk _) (Y.k_blt _) (Y.k_gs _) (Y.k_cs _) rfl rfl rfl rfl rfl
