import PyProof.Rows.All
import Wide.All
import OpenK.AllK
import Wide.FinOn
import Lean
import PyProof.EqAt
import PyProof.EqKinds
import PyProof.TupleCall
import PySem.Challenge.RW_beatplans_k41_least_rounds_told
noncomputable section
set_option compiler.extract_closed false
set_option genSizeOf false
set_option genInjectivity false
set_option Elab.async false
set_option linter.all false
set_option maxRecDepth 100000
set_option maxHeartbeats 8000000
set_option maxRecDepth 100000 in
set_option maxHeartbeats 0 in
theorem Z.wellS:PySem.Challenge.rw_beatplans_k41_least_rounds_told.wellSaid=true:=by decide +kernel
open List renaming all_cons->Ci,all_eq_true->Mg,any_cons->tj,any_eq_false->rK,append_assoc->Pr,append_nil->im,contains_cons->Cm,dropLast_eq_take->YJ,drop_eq_getElem_cons->jB,drop_length->zJ,drop_of_length_le->ZK,drop_zero->AA,eraseIdxIfInBounds_toArray->qL,ext_getElem->AJ,filterMap_cons->cw,filterMap_map->eK,filter_append->Gr,find?_cons->qj,find?_cons_of_neg->FA,find?_cons_of_pos->aL,flatten_cons->xo,foldl->jA,getD->ee,getD_eq_getElem?_getD->uj,getElem?_append_left->Zj,getElem?_append_right->Vr,getElem?_eq_getElem->Ic,getElem?_eq_none->Jr,getElem?_inj->MA,getElem?_map->Dd,getElem?_range->dw,getElem?_replicate->HK,getElem?_set_ne->Ah,getElem?_set_self->Fi,getElem?_take->Hr,getElem_cons_zero->cL,getElem_map->BJ,getElem_mem->Fm,getElem_of_mem->Zg,getElem_take->sK,isEmpty_iff->CJ,isEmpty_map->DJ,length->iA,length_append->Xf,length_cons->Td,length_drop->EJ,length_dropLast->SJ,length_erase_of_mem->MK,length_map->Hb,length_nil->ah,length_pos_of_mem->GA,length_range->Qr,length_set->Mh,length_singleton->ZA,length_take->kj,lookup->yh,lookup_cons->lj,map_append->wf,map_congr_left->fw,map_cons->Sd,map_fst_zip->FJ,map_map->jg,map_nil->Fo,map_reverse->sA,map_set->Xz,map_take->Ar,mem_append_left->Sf,mem_append_right->Uf,mem_cons->ic,mem_cons_of_mem->Uc,mem_cons_self->Cf,mem_map_of_mem->gw,mem_of_getElem?->Hd,mem_of_mem_take->Em,mem_or_eq_of_mem_set->QK,nil_append->zi,not_mem_nil->Ve,of_mem_zip->Lv,pairwise_singleton->IK,range->md,range_succ->uo,replicate->Qb,replicate_succ->Dm,reverse_cons->Rr,set_cons_succ->fK,set_cons_zero->iK,set_eq_take_append_cons_drop->jL,size_toArray->Zc,sum_cons->Rv,take_append_of_le_length->nL,take_length->ig,take_of_length_le->IA,take_sublist->tK,take_succ->fg,toArray->yr,zip_cons_cons->jK
open PySem.Heap renaming SameBut->lm,get?_none_of_le->VA,get?_push_at->LJ,get?_push_ne->qK,get?_push_of_some->Nc,get?_push_size->Df,get?_update_ne->bw,get?_update_other->EA,get?_update_self->Ir,lt_size->Lc,size_push->zA
open PySem renaming Arguments->qv,Comprehension->Dv,DictEntry->si,ExcBaseFacts->Hv,FuncData->Ul,NameKind->Rf,Operator->Vl,PassesOwn->aj,Spec->cX,StoreFacts->Wl,assignEach->ng,assignInOrder->cA,attributeBase->Qh,behindInMarks->Ev,binaryOp->tf,bindName->eo,bootBuiltins->Di,builtinLookup_eq_fast->om,builtinsNs->oo,call->aA,call_meets->uh,call_meetsIn->Iv,cellsFrom->Gf,checkBuiltinCall->Uv,codeAny_call_builtin->NA,codeAny_call_function->KJ,codeAny_mono->Jv,compTurn->fo,compareOp->ce,concat_meets->Mz,evalArgs_none->SA,evalPart_none->dA,excClassObj->Yl,foldedForSure->eA,foldedSetIterable->Oh,inplaceOp->Zl,isInstance->yv,lastMarks->uv,letOwnedTupleGo->Sr,lookupAlong_cons->xA,mainGlobals->ze,mem_of_lookup->Bg,newFunctionEnv->Uz,noFill_tuple_add->Vv,noteFrame->vv,post_val_or_str->Sv,pushCells->xr,repr_of_reads'->Vz,seqIndex?->wv,seqIndex_neg->Nz,seq_tuple_add->Fv,setFlight->Zn,sizeLine->db,sizeLine_eq->Og,sliceBounds->gj,slicePick->ao,starEach->gc,swappedStores->vh,swapsWith->rh,swapsWithSole->Bi,sysModules->yf,treeTable->ij,tupleKind->bo,tupleKind_room_in1->Nr,typeIs_str->lr,typeLookup->uf,typeLookup_eq->gA,typeLookup_type->dm,wpAny_Call_Name_kw->yo,wpAny_Call_method0_late->nK,wpAny_bind->ub,wpAny_callSpecial?_slot->ow,wpAny_call_entry->Kr,wpAny_comprehension_free->PJ,wpAny_execs_cons->Lr,wpAny_execs_nil->Tr,wpAny_field->Kh,wpAny_getItem_list_slice->DA,wpAny_getItem_str_slice->tw,wpAny_holding->cj,wpAny_isSubtype_exc->Ao,wpAny_loadPart_at->xf,wpAny_mono->We,wpAny_mroOf_exc->CA,wpAny_newFunctionEnv_cells->YK,wpAny_newObj_type->Ph,wpAny_passesOwn->gm,wpAny_pure->Wb,wpAny_sequenceKey->kA,wpAny_setField->zr,wpAny_standAt->Wj,wpAny_truthy_bool->mj,wpAny_typeOf->Dr
open Nat renaming add_le_add_left->kK,add_mul->Zz,add_zero->Qz,le_of_eq->Wv,le_of_lt->Ei,le_refl->Fb,le_succ->io,le_succ_of_le->GJ,le_trans->Lb,lt_irrefl->Rh,lt_of_le_of_lt->Pg,lt_of_lt_of_le->Wf,lt_succ_of_lt->HJ,lt_trans->Rz,min_eq_left->BA,min_le_right->nA,mul_le_mul->wA,ne_of_lt->Xe,pow_le_pow_left->nj,pow_le_pow_right->oj,pow_succ->Sz,sub_self->Er,succ_le_succ->oA,zero_add->Tz,zero_le->He
open PySem.W renaming BT->xi,Frag->Nb,OpenLaw->cB,WalkO->IJ,boot_heap->zo,boot_o_0->Gm,boot_o_1->Yj,boot_o_10->Bm,boot_o_2->Hm,boot_o_3->MJ,boot_o_4->qm,boot_o_5->rm,boot_o_6->um,boot_o_7->vm,boot_o_8->wm,boot_o_9->zm,callWith_K->UK,cellsFrom_some->JA,codeIn->pj,codeRec_of->WK,findIn->Mv,fnOf->Ag,instObj->dB,kas_place->sv,keepIn->Lh,kia_one->Nh,kitOne->Nv,kitx_dict->UJ,kitx_list->VJ,lookIn->pA,methodObj->RA,mg_of->Cr,nsIn->Ng,piece_app->zw,piecesOf->Qv,plainGet->NJ,segRunT->Ov,segRun_of->aw,specialIn->WJ,topRun->vK,topStub->mK
open Bool renaming and_eq_true->Be,eq_iff_iff->Xj,false_eq_true->ZJ,false_ne_true->Ld,false_or->vA,not_eq_true'->Pv,or_eq_true->qo,or_true->jm
open Option.some renaming inj->Nd
open Int renaming ediv_one->Pz,emod_add_mul_ediv->iw,emod_lt_of_pos->Ai,emod_nonneg->xh,eq_ofNat_of_zero_le->Cg,le_refl->zg,le_trans->Co,mul_comm->Do,mul_ediv_add_emod->QJ,mul_le_mul_of_nonneg_right->Ur,mul_neg->Yz,toNat->Av,toNat_natCast->wo
open PySem.PyData renaming canLayAll0->xw,depthAll->rj,eqv->ie,eqvAll->Bo,int->wr,showable->bB,showableAll->TJ,shown->km,shownAll->vo
open PySem.W.Fast renaming te10110043849684766642->Aw,te14364793385576792824->Im,te5923862056798008813->fL
open PySem.NameKind renaming cell->Hf,free->Vf
open PySem.Builtin.Slice renaming sliceAdjust->Wr,sliceApplied->Bw,sliceFields->kL,slicePlaces->ck
open PySem.Value renaming bool->bA,builtin->Br,int->ur,none->cf,ref->Ie,str->Kv
open PySem.Builtin.Tuple renaming tupleExact->ak,tupleIsExact->lL,tupleItemsOf->iB
open PyProof.Rows renaming args_tuple_getitem->qA,assignInOrder_cons->rA,boot_isinstance->mL,boot_list->pL,callWith_type1->Io,entry_tuple_getitem->eB,slot_tuple_getitem->vj,subscriptTail->Gv,subscriptTail_builtinR->xK,tupleItemsOf_->fA
open PySem.Builtin.List renaming listTooLong->Ho
open PySem.F renaming args_dict_get_3->TK,args_tuple_add_2->Go,entry_dict_get->RK,entry_tuple_add->Ko,plainAttrs_dict->Yv,plainAttrs_list->LA,slot_dict_get->uw,slot_dict_items->zK,slot_dict_values->BK,slot_list_extend->CK,slot_tuple_add->Jo,slot_tuple_iterator_next->GK,type_dict_get->NK
open Array renaming append_assoc->oK,find?_toList->QA,getD_eq_getD_getElem?->EK,getElem?_setIfInBounds_self_of_lt->fB,getElem?_toList->jw,length_toList->Lo
open PySem.Obj renaming data_mapFields->uK,isFreed_of_fields->YA,mapFields->sj,mapSeq->fj
open True renaming intro->zh
open PySem.Str renaming ofString->bj
open PySem.Builtin.Str renaming occurrences->Zv
open Sum.inr renaming injEq->cm
open PySem.Calls renaming Name_function_global->AK,callWith_builtin->ww,spliced_cons->pK
open Classical renaming byContradiction->gB
open PySem.W.KasT renaming kasWp_bind->Mr,ret->Cv
open Prod.mk renaming inj->jo
open False renaming elim->Xl
open Prod renaming ext->Vj
open PySem.W.Hook renaming obs->WA,val->XA
open PySem.Paired renaming length->Tv
open Option renaming getD_none->lK,isSome_map->OA,map->Oz,map_some->aB
open PySem.Builtin.Range renaming rangeSize->iL
open PySem.Txt renaming slice->Bv,slice_le->Xv
open PySem.AutoSeq1 renaming wpAny_loadPart'->FK
open PySem.SeqAt renaming EqAt->lg,eqv_refl->DK,in_listAt->JJ,in_tupleAt->wK,notIn_listAt->OJ,notIn_tupleAt->XJ
open List.Pairwise renaming nil->SK
open PySem.SeqAt.EqAt renaming int_str->OK,str_int->PK
open PySem.ScopeKind renaming function->LK
open PySem.Manifest renaming signature?->JK
open PySem.Around renaming under->uA
open PySem.PassesOwn renaming looking->dL
open PySem.Code renaming isFrame->Wz,quiet_builtin->aK
open List.cons renaming inj->cK,injEq->RJ
open Int.ofNat renaming inj->bK
open Lean.Parser.Tactic renaming simpLemma->OW
open PySem.Builtin.SmallTypes renaming nextOf->MW,stopIteration->NW
open Array renaming getElem?_eq_some_iff->Ob
open Bool renaming false->ua,true->la
open List renaming any_eq_true->Kd,filter_eq_nil_iff->Gc,getElem?_eq_some_iff->Ea,mem_append->Ma,mem_filter->Sc,mem_map->Ia,mem_range->Va,mem_singleton->Fa,nodup_cons->Ra,pairwise_cons->Vb,pairwise_iff_getElem->Xc,pairwise_map->Fc
open Nat renaming not_lt->ac
open Ne renaming symm->Ta
open Option renaming none->Aa,some->ia
open PyProof.Rows renaming AllBare->ve,IntsAre->Ye,IsTup->Vh,Subscript_->Vo,boot_range->To,envOfC->Tc,seqObj->Af,tail_any->uk
open PySem renaming Addr->Ba,Around->Ub,BindsTo->Lf,Builtin->Tb,CmpOp->Js,Code->Li,Expr->La,Heap->Za,IsPart->Oe,Keyword->Hs,Model->Gs,OsState->ue,Paired->Fd,Params->Cb,Program->Rb,PyData->Wa,Scope->Rc,Shared->Ja,Stmt->Qa,Value->Da,World->Db,assign->Jc,atKey->Ug,backTo->Xb,bindArgs->zk,bindC->Uh,bindL->Th,cLine->bc,callerA->Fg,eval->Xa,excMatches->So,getItem->td,holding->Ec,isTrue->se,lookupAlong->xk,model->Ka,rawInt->Me,seqIndex_of->vk,setItem->Ji,slot_list_getitem->Kf,standAt->re,storeName->Fw,truthy->Ii,typeIs_int->Qo,valueAt->Jf,wpAny_Name->Po,wpAny_call->Oo,wpAny_loadPart'->Eb,wpAny_rule->No
open PySem.Heap renaming IsSliceOf->je
open PySem.SeqAt renaming RcAt->Eh
open PySem.W renaming Frag->Vg,Hook->Ed,OpenLaw->Ki,WShape->Uo,kas_desc->yk,kitOne->Ro,mroIn->Fs
open Sum renaming inl->Ac,inr->Jb
namespace L2
open PySem PySem.Spec PyProof.Rows

abbrev Sb:=Sum Int Str
noncomputable def Jl  : Sb->Da->Bool
 |.inl k,v=>Da.isInt k v
 |.inr x,v=>Da.isStrOf x v
noncomputable def keyH  (w:Db):Sb->Int
 |.inl k=>hashInt k
 |.inr x=>hashStr w x
def Hh  : ∀{k } {v },Jl k v=la->(∃i t,k=Ac i/\v=ur i t)\/(∃x t,k=Jb x/\v=Kv x t)
 |.inl i,v,h=>by
  obtain⟨t,e⟩:=Da.isInt_shape (k:=i) (v:=v) h;exact .inl ⟨i,t,rfl,e⟩
 |.inr x,v,h=>by
  obtain⟨t,e⟩:=Da.isStrOf_shape (x:=x) (v:=v) h;exact .inr ⟨x,t,rfl,e⟩
def jV   i t:Jl (.inl i) (.int i t)=la:=by simp[Jl,Da.isInt]
def lV   x t:Jl (.inr x) (.str x t)=la:=by simp[Jl,Da.isStrOf]
def eP   a b:decide ((Ac a:Sb)=Ac b)=(a==b):=by
 by_cases e:a=b
 ·subst e;simp
 ·have h:¬(Ac a:Sb)=Ac b:=λq=>e (Ac.inj q);rw[decide_eq_false h];exact(beq_eq_false_iff_ne.mpr e).symm
def iP   a b:decide ((Jb a:Sb)=Jb b)=decide (a=b):=by
 by_cases e:a=b
 ·subst e;simp
 ·have h:¬(Jb a:Sb)=Jb b:=λq=>e (Jb.inj q);rw[decide_eq_false h,decide_eq_false e]
def fP   a b:decide ((Ac a:Sb)=Jb b)=ua:=decide_eq_false (λq=>nomatch q)
def gP   a b:decide ((Jb a:Sb)=Ac b)=ua:=decide_eq_false (λq=>nomatch q)

def we   prog w:PySem.KeyKind prog w Sb where
 is:=Jl
 hash:=keyH w
 inj:=λv a b J I=>by
  rcases Hh J with⟨i,t,rfl,rfl⟩|⟨x,t,rfl,rfl⟩
  ·rcases Hh I with⟨j,u,rfl,e⟩|⟨y,u,rfl,e⟩
   ·injection e with e1 _;rw[e1]
   ·exact nomatch e
  ·rcases Hh I with⟨j,u,rfl,e⟩|⟨y,u,rfl,e⟩
   ·exact nomatch e
   ·injection e with e1 _;rw[e1]
 byValue:=λk v h=>by
  rcases Hh h with⟨i,t,rfl,rfl⟩|⟨x,t,rfl,rfl⟩<;>rfl
 pyHash:=λF h=>by
  rcases Hh F with⟨i,t,rfl,rfl⟩|⟨x,t,rfl,rfl⟩
  ·exact wpAny_pyHash_int h
  ·exact wpAny_pyHash_str h
 eqBool:=λhu F h=>by
  rcases Hh hu with⟨i,t,rfl,rfl⟩|⟨x,t,rfl,rfl⟩
  ·rcases Hh F with⟨j,u,rfl,rfl⟩|⟨y,u,rfl,rfl⟩
   ·rw[eP]at h;exact wpAny_eqBool_int h
   ·rw[fP]at h;exact OK i t y u _ _ _ _ h
  ·rcases Hh F with⟨j,u,rfl,rfl⟩|⟨y,u,rfl,rfl⟩
   ·rw[gP]at h;exact PK x t j u _ _ _ _ h
   ·rw[iP]at h;exact wpAny_eqBool_str h
 «strs»:=λk x t v h=>by
  rcases Hh h with⟨i,u,rfl,e⟩|⟨y,u,rfl,e⟩
  ·exact nomatch e
  ·injection e with e1 _
   subst e1
   cases v<;>rfl

def YV   prog w i t:(we prog w).is (.inl i) (.int i t)=la:=jV i t
def ZV   prog w x t:(we prog w).is (.inr x) (.str x t)=la:=lV x t

set_option genInjectivity true
inductive V where
 |non|bl (b:Bool)|int (i:Int)|str (x:Str)|byt (b:Array UInt8)|flt (b:UInt64)|ref (a:Ba)|ty (n:String)
 deriving DecidableEq

set_option genInjectivity false
def RelV  : V->Da->Prop
 |.non,u=>u=cf
 |.bl b,u=>u=bA b
 |.int i,u=>∃t,u=ur i t
 |.str x,u=>∃t,u=Kv x t
 |.byt b,u=>∃t,u=Da.bytes b t
 |.flt b,u=>∃t,u=Da.float b t
 |.ref a,u=>u=Ie a
 |.ty n,u=>u=Da.type n

abbrev Vals  : List V->List Da->Prop:=Fd RelV
def Vals.length    (r:Vals xs us):xs.length=us.length:=Tv r
theorem Vals.get  : ∀{xs } {us } {i:Nat} {x },Vals xs us->xs[i]?=ia x->∃u,us[i]?=ia u/\RelV x u
 |_,_,_,_,.nil,e=>by simp at e
 |_,_,0,_,.cons r _,e=>by simp at e;subst e;exact⟨_,rfl,r⟩
 |_,_,i+1,x,.cons _ t,e=>by
  obtain⟨u,y,j⟩:=Vals.get (i:=i) (x:=x) t (by simpa using e)
  exact⟨u,by simpa using y,j⟩
theorem Vals.set    (r:RelV x u):∀{xs } {us } i ,Vals xs us->Vals (xs.set i x) (us.set i u)
 |_,_,_,.nil=>.nil
 |_,_,0,.cons _ t=>.cons r t
 |_,_,i+1,.cons q t=>.cons q (Vals.set r i t)
theorem Vals.append  : ∀{xs ys } {us ws },Vals xs us->Vals ys ws->Vals (xs++ys) (us++ws)
 |_,_,_,_,.nil,s=>s
 |_,_,_,_,.cons r t,s=>.cons r (Vals.append t s)
theorem Vals.take  : ∀{xs } {us } n ,Vals xs us->Vals (xs.take n) (us.take n)
 |_,_,0,_=>.nil
 |_,_,_+1,.nil=>.nil
 |_,_,n+1,.cons r t=>.cons r (Vals.take n t)
theorem Vals.drop  : ∀{xs } {us } n ,Vals xs us->Vals (xs.drop n) (us.drop n)
 |_,_,0,r=>r
 |_,_,_+1,.nil=>.nil
 |_,_,n+1,.cons _ t=>Vals.drop n t
def RelO  : Option V->Option Da->Prop
 |some v,ia u=>RelV v u
 |none,Aa=>True
 |_,_=>False
def KV  {κ:Type}:List (κ×V)->List (κ×Da)->Prop:=Fd λ(p:κ×V) (q:κ×Da)=>p.1=q.1/\RelV p.2 q.2

noncomputable def kV  : Sb->V
 |.inl i=>.int i
 |.inr x=>.str x

set_option genInjectivity true
inductive HO where
 |lst (xs:List V)
 |tup (xs:List V)
 |dK (kvs:List (Sb×V))|dT (kvs:List (List Sb×V))
 |set (S:Int->Bool) (n:Nat)
 |ins (C dx:Ba) (fs:List (Str×V))
 |own (x:Ba)
 |xd (fs:List (Str×V))
 |met (f x:Ba)
 |rng (lo hi:Int)
 |frz (o:Obj) (u:HO)
 |tbl (ps:Array Da)
 |ext (φ:Za->Prop)

set_option genInjectivity false
abbrev Hp:=Ba->Option HO
noncomputable def upd  (H:Hp)(a:Ba)(o:HO):Hp:=λb=>if b=a then ia o else H b
def sf     : upd H a o a=ia o:=by unfold upd;rw[if_pos rfl]
def Dc     (h:b≠a):upd H a o b=H b:=by unfold upd;rw[if_neg h]
def kN  {H:Hp}(h:H a=ia o)(h':H b=ia u)(d:o≠u):a≠b:=by
 intro e;subst e;rw[h]at h';exact d (Nd h')
def sg  {H:Hp}(h:H a=ia o)(h':H b=Aa):a≠b:=by
 intro e;subst e;rw[h]at h';cases h'

def TupD  (h:Za)(a:Ba)(items:Array Da):Prop:=∃o,h.get? a=ia o/\o.cls=.type "tuple" /\ ∃n,o.data=.seq items n/\o.dict=Aa
def TupD.tup     (x:TupD h a items):Vh h a items:=let ⟨o,e,c,n,d,_⟩:=x;⟨o,e,c,n,d⟩
def TupD.new  (h:Za) items:TupD (h.push { cls:=.type "tuple",data:=.seq items }) h.objs.size items:=⟨_,Df _ rfl,rfl,_,rfl,rfl⟩
section
variable (P:Rb)(w:Db)
def Od (H:Hp)(h:Za)(a:Ba):HO->Prop
 |.lst F=>F.length<=db/\∃(j:List Da) (n:Nat),Vals F j/\h.get? a=ia { cls:=.type "list",data:=.seq j.toArray n }
 |.tup F=>F.length<=db/\∃j:List Da,Vals F j/\TupD h a j.toArray
 |.dK y=>y.length<=db/\(a==yf)=ua/\∃Z,KV y Z/\h.DictOf (we P w) a Z
 |.dT y=>y.length<=db/\(a==yf)=ua/\∃F:List (List Sb×Ba×Da),
   Fd (λ(p:List Sb×V) (q:List Sb×Ba×Da)=>p.1=q.1/\H q.2.1=ia (.tup (p.1.map kV))/\RelV p.2 q.2.2) y F/\
   ∃o Y ep,h.get? a=ia o/\o.ExactDict/\o.data=.dict Y ep/\Y.toList=F.map (entryOfKey (bo (we P w)))/\(F.map (·.1)).Nodup
 |.set S n=>h.SetOf (intKind P w) a S n
 |.ins C J fs=>H J=ia (.own a)/\fs.length<=1000/\J≠a/\h.get? a=ia (dB C J)/\
   ∃I,h.Ns1 J I/\(∀f,RelO (fs.lookup f) (I f))/\PySem.Within I (fs.map (·.1))
 |.own _=>∃o,h.get? a=ia o
 |.xd fs=>∃I,h.Ns1 a I/\∀f,RelO (fs.lookup f) (I f)
 |.rng lo hi=>∃t u v,h.get? a=ia { cls:=.type "range",data:=.fields #[.int lo t,.int hi u,.int 1 v] }
 |.frz o u=>h.get? a=ia o/\Od H h a u
 |.tbl ps=>h.get? a=ia { cls:=.none,data:=.fields ps }
 |.met f x=>h.get? a=ia (RA (.ref f) (.ref x))
 |.ext O=>O h/\(∃o,h.get? a=ia o)/\∀h1 R:Za,O h1->(∀o,h1.get? a=ia o->R.get? a=ia o)->O R
def Vd (H:Hp)(h:Za):Prop:=∀a o,H a=ia o->Od P w H h a o
end

section
variable {P:Rb}{w:Db}{H H':Hp}{h h':Za}{a:Ba}{o:HO}
theorem Od.lt  (x:Od P w H h a o):a<h.objs.size:=by
 cases o with
 |lst F=>obtain⟨_,_,_,_,e⟩:=x;exact Lc e
 |tup F=>obtain⟨_,_,_,p⟩:=x;exact p.tup.lt
 |dK j=>obtain⟨_,_,_,_,o,_,_,e,_⟩:=x;exact Lc e
 |dT j=>obtain⟨_,_,_,_,o,_,_,e,_⟩:=x;exact Lc e
 |set S n=>obtain⟨o,_,_,_,e,_⟩:=x;exact Lc e
 |ins C Y fs=>obtain⟨_,_,_,e,_⟩:=x;exact Lc e
 |own y=>obtain⟨_,e⟩:=x;exact Lc e
 |xd fs=>obtain⟨_,⟨_,_,_,e,_⟩,_⟩:=x;exact Lc e
 |rng J I=>obtain⟨_,_,_,e⟩:=x;exact Lc e
 |frz Z u=>obtain⟨e,_⟩:=x;exact Lc e
 |tbl R=>exact Lc (show h.get? a=ia _ from x)
 |met f y=>exact Lc (show h.get? a=ia _ from x)
 |ext O=>obtain⟨_,⟨_,e⟩,_⟩:=x;exact Lc e
theorem Paired.mapP    : ∀{j } {y },Fd F j y->(∀a b,F a b->G a b)->Fd G j y
 |_,_,.nil,_=>.nil
 |_,_,.cons r t,f=>.cons (f _ _ r) (Paired.mapP t f)
def Od.stay  (x:Od P w H h a o)(k:∀b u,(b=a\/H b=ia (.own a))->h.get? b=ia u->h'.get? b=ia u)
  (ho:∀b,H b=ia (.own a)->H' b=ia (.own a)) (ht:∀b xs,H b=ia (.tup xs)->H' b=ia (.tup xs)):Od P w H' h' a o:=by
 induction o with
 |lst xs=>obtain⟨z,J,n,r,e⟩:=x;exact⟨z,J,n,r,k _ _ (.inl rfl) e⟩
 |tup xs=>obtain⟨z,J,r,j,e,c⟩:=x;exact⟨z,J,r,j,k _ _ (.inl rfl) e,c⟩
 |dK Y=>obtain⟨z,y,vs,r,j,F,I,e,c⟩:=x;exact⟨z,y,vs,r,j,F,I,k _ _ (.inl rfl) e,c⟩
 |dT Y=>
  obtain⟨z,y,xs,r,j,F,I,e,c⟩:=x;exact⟨z,y,xs,Paired.mapP r λp q z=>⟨z.1,ht _ _ z.2.1,z.2.2⟩,j,F,I,k _ _ (.inl rfl) e,c⟩
 |set S n=>obtain⟨j,F,I,t,e,c⟩:=x;exact⟨j,F,I,t,k _ _ (.inl rfl) e,c⟩
 |ins C dx fs=>
  obtain⟨d,z,ne,e,O,⟨R,F,I,e2,c⟩,r⟩:=x;exact⟨ho _ d,z,ne,k _ _ (.inl rfl) e,O,⟨R,F,I,k _ _ (.inr d) e2,c⟩,r⟩
 |own y=>obtain⟨j,e⟩:=x;exact⟨j,k _ _ (.inl rfl) e⟩
 |xd fs=>obtain⟨O,⟨R,F,I,e,c⟩,r⟩:=x;exact⟨O,⟨R,F,I,k _ _ (.inl rfl) e,c⟩,r⟩
 |rng lo hi=>obtain⟨t,u,v,e⟩:=x;exact⟨t,u,v,k _ _ (.inl rfl) e⟩
 |frz j u ih=>obtain⟨e,q⟩:=x;exact⟨k _ _ (.inl rfl) e,ih q⟩
 |tbl Z=>
  have e:h.get? a=ia { cls:=.none,data:=.fields Z }:=x;show h'.get? a=ia { cls:=.none,data:=.fields Z };exact k a _ (.inl rfl) e
 |met f y=>
  have e:h.get? a=ia (RA (.ref f) (.ref y)):=x;show h'.get? a=ia (RA (.ref f) (.ref y));exact k a _ (.inl rfl) e
 |ext φ=>obtain⟨p,⟨o,e⟩,st⟩:=x;exact⟨st _ _ p λo q=>k _ _ (.inl rfl) q,⟨o,k _ _ (.inl rfl) e⟩,st⟩
def Vd.lt  (x:Vd P w H h)(e:H a=ia o):a<h.objs.size:=(x a o e).lt
def Vd.fresh  (x:Vd P w H h)(e:h.objs.size<=a):H a=Aa:=by
 cases q:H a with
 |none=>rfl
 |some u=>exact absurd (Wf (x.lt q) e) (Rh _)
def Vd.kept  (x:Vd P w H h)(k:∀b u,h.get? b=ia u->h'.get? b=ia u):Vd P w H h':=λa o e=>
 (x a o e).stay (λb u _ q=>k b u q) (λ_ q=>q) λ_ _ q=>q
def Vd.laid  (x:Vd P w H h)(k:∀b u,h.get? b=ia u->h'.get? b=ia u)(F:h.objs.size<=a)(new:Od P w (upd H a o) h' a o):Vd P w (upd H a o) h':=λb u e=>by
 have y:=x.fresh F;by_cases j:b=a
 ·subst j;rw[sf]at e;cases e;exact new
 ·rw[Dc j]at e;exact(x b u e).stay (λc v _ q=>k c v q) (λc q=>by rw[Dc (sg q y)];exact q) λc I q=>by rw[Dc (sg q y)];exact q
end

def Rd  (H:Hp)(a:Ba)(u:HO):Prop:=H a=ia u\/∃o,H a=ia (.frz o u)
def Rd.of     (h:H a=ia u):Rd H a u:=.inl h
def Rd.ok        (r:Rd H a u)(x:Vd P w H h):Od P w H h a u:=by
 rcases r with r|⟨o,r⟩
 ·exact x a u r
 ·obtain⟨_,q⟩:=x a _ r;exact q
def Xr  : Option HO->Prop
 |some (.lst _)=>True
 |some (.dK _)=>True
 |some (.dT _)=>True
 |some (.set _ _)=>True
 |some (.ins _ _ _)=>True
 |some (.ext _)=>True
 |_=>False

def Vd.write  (ok:Vd P w H h)(R:Xr (H x))(he:e=x\/H e=ia (.own x))(k:∀b u,b≠e->h.get? b=ia u->h'.get? b=ia u)(Z:∃u,h'.get? e=ia u)
  (new:Od P w (upd H x o') h' x o'):Vd P w (upd H x o') h':=λb u q=>by
 have F:∀c y,H c=ia (.own y)->c≠x:=λc y r z=>by subst z;rw[r]at R;exact R
 have I:∀c O,H c=ia (.tup O)->c≠x:=λc O r z=>by subst z;rw[r]at R;exact R
 by_cases Y:b=x
 ·subst Y;rw[sf]at q;cases q;exact new
 ·rw[Dc Y]at q;by_cases j:b=e
  ·have q':H b=ia (.own x):=by
    rcases he with z|z
    ·exact absurd (j.trans z) Y
    ·rw[j];exact z
   rw[q]at q';cases q';obtain⟨v,hv⟩:=Z;exact⟨v,by rw[j];exact hv⟩
  ·refine(ok b u q).stay (λc v J r=>k c v ?_ r) (λc r=>by rw[Dc (F c b r)];exact r) λc O r=>by rw[Dc (I c O r)];exact r
   rcases J with rfl|J
   ·exact j
   ·rintro rfl;rcases he with z|z
    ·exact F c b J z
    ·rw[J]at z;cases z;exact Y rfl

structure Un (fs ex:List Ba)(H H':Hp)(h h':Za):Prop where
 keep:∀b o,h.get? b=ia o->H b=Aa->b∉fs->b∉ex->h'.get? b=ia o
 slot:∀b o,h.get? b=ia o->H b=Aa->b∈fs->b∉ex->∃sl,h'.get? b=ia { o with slots:=sl }
 free:∀b o,h.get? b=ia o->H b=Aa->b∉ex->H' b=Aa
 there:∀b o,h.get? b=ia o->b∉ex->∃o',h'.get? b=ia o'
 tups:∀b xs,H b=ia (.tup xs)->H' b=ia (.tup xs)
 frzs:∀b o u,H b=ia (.frz o u)->H' b=ia (.frz o u)
 tbls:∀b ps,H b=ia (.tbl ps)->∃more,H' b=ia (.tbl (ps++more))

def Un.any  (u:Un fs ex H H1 h J)(q:h.get? b=ia j)(n:H b=Aa)(y:b∉ex):∃I,J.get? b=ia { j with slots:=I }:=by
 by_cases F:b∈fs
 ·exact u.slot b j q n F y
 ·exact⟨j.slots,u.keep b j q n F y⟩
def Un.trans  (a:Un fs ex H H1 h h1)(b:Un fs ex H1 H2 h1 Z):Un fs ex H H2 h Z where
 keep:=λc y q n I j=>b.keep c y (a.keep c y q n I j) (a.free c y q n j) I j
 slot:=λc y q n I j=>by
  obtain⟨sl,F⟩:=a.slot c y q n I j;obtain⟨O,R⟩:=b.slot c _ F (a.free c y q n j) I j;exact⟨O,R⟩
 free:=λc y q n j=>by
  obtain⟨Y,F⟩:=a.there c y q j;exact b.free c Y F (a.free c y q n j) j
 there:=λc y q j=>by
  obtain⟨Y,F⟩:=a.there c y q j;exact b.there c Y F j
 tups:=λc J q=>b.tups c J (a.tups c J q)
 frzs:=λc y J q=>b.frzs c y J (a.frzs c y J q)
 tbls:=λc ps q=>by
  obtain⟨m1,F⟩:=a.tbls c ps q;obtain⟨m2,R⟩:=b.tbls c _ F;exact⟨m1++m2,by rw[R,oK]⟩
def Un.kept  (k:∀b u,h.get? b=ia u->h'.get? b=ia u):Un fs ex H H h h':=
 ⟨λb j q _ _ _=>k b j q,λb j q _ _ _=>⟨j.slots,k b j q⟩,λ_ _ _ n _=>n,λb j q _=>⟨j,k b j q⟩,λ_ _ q=>q,λ_ _ _ q=>q,λ_ y q=>⟨#[],by rw[q];simp⟩⟩
def Un.refl  : Un fs ex H H h h:=Un.kept λ_ _ q=>q
def Un.laid  {h: Za}{a: Ba}(k:∀b u,h.get? b=ia u->h'.get? b=ia u)(F:h.objs.size<=a)(j:H a=Aa):Un fs ex H (upd H a o) h h' where
 keep:=λb u q _ _ _=>k b u q
 slot:=λb u q _ _ _=>⟨u.slots,k b u q⟩
 free:=λb u q n _=>by rw[Dc (Xe (Wf (Lc q) F))];exact n
 there:=λb u q _=>⟨u,k b u q⟩
 tups:=λb y q=>by rw[Dc (sg q j)];exact q
 frzs:=λb u y q=>by rw[Dc (sg q j)];exact q
 tbls:=λb I q=>⟨#[],by rw[Dc (sg q j),q];simp⟩
def Un.write  (y:Xr (H x))(R:e=x\/H e=ia (.own x))(k:∀b u,b≠e->h.get? b=ia u->h'.get? b=ia u)(I:∃u,h'.get? e=ia u):Un fs ex H (upd H x o) h h':=by
 have J:∀b,H b=Aa->b≠x:=λb n z=>by subst z;rw[n]at y;exact y
 have O:∀b,H b=Aa->b≠e:=λb n z=>by
  subst z;rcases R with r|r
  ·exact J b n r
  ·rw[n]at r;cases r
 have F:∀b u,H b=ia u->¬Xr (ia u)->b≠x:=λb u q nm z=>by subst z;rw[q]at y;exact nm y
 refine⟨λb u q n _ _=>k b u (O b n) q,λb u q n _ _=>⟨u.slots,k b u (O b n) q⟩,λb u q n _=>by rw[Dc (J b n)];exact n,λb u q _=>?_,
  λb Y q=>by rw[Dc (F b _ q λz=>z)];exact q,λb u Y q=>by rw[Dc (F b _ q λz=>z)];exact q,λb Z q=>⟨#[],by rw[Dc (F b _ q λz=>z),q];simp⟩⟩
 by_cases j:b=e
 ·subst j;exact I
 ·exact⟨u,k b u j q⟩

noncomputable def Ls  (h:Za)(H:Hp):List Ba:=(md h.objs.size).filter λa=>(H a).isSome
def hidT  (h:Za)(H:Hp):Za:=PySem.W.hideAll h (Ls h H)
def VT  (h:Za) H:(hidT h H).objs.size=h.objs.size:=PySem.W.hideAll_size _ _
def Fy      (e:h.get? b=ia o)(n:H b=Aa):(hidT h H).get? b=ia o:=
 PySem.W.hideAll_get _ e λj=>by
  have q:(H b).isSome=la:=(Sc.mp j).2;rw[n]at q;simp at q
def ER      (e:(hidT h H).get? b=ia o):h.get? b=ia o/\H b=Aa:=by
 have j:h.get? b=ia o:=PySem.W.of_hideAll (Ls h H) e;refine⟨j,?_⟩;cases q:H b with
 |none=>rfl
 |some x=>
  have y:b∈Ls h H:=Sc.mpr ⟨Va.mpr (Lc j),by simp[q]⟩
  have z:(hidT h H).get? b=Aa:=PySem.W.hideAll_none (Ls h H) y;rw[z]at e;cases e

noncomputable def UP  (g h:Za)(L:Ba):List (Ba×Obj):=(md h.objs.size).filterMap λa=>if a=L\/(g.get? a).isSome=la then Aa else (h.get? a).map λo=>(a,o)
def rest  (g h:Za)(L d:Ba):List (Ba×Obj):=(UP g h L).filter λp=>decide (p.1≠d)

structure Mod (K:Nb)(mg:Str->Option Da)(base:Za):Prop where
 kin:K.In base
 glob:base.Ns ze mg
 blt:∃mb,base.Ns oo mb/\∀x:Str,x ≠ "__name__" -> mb x=Di x
 nolimit:base.NoLimit
 sys:∃o,K.lookup yf=ia o/\o.cls=.type "dict"

structure Cx where
 prog:Rb
 w:Db
 K:Nb
 mg:Str->Option Da
 base:Za
 A:Ub
 N:List Str
 s₀:Ja
 H₀:Hp
 env:Env
 outer:List Env
 stack:List Env
 ex:List Ba
 fn:Str->Bool
 calm:Bool
 pn:List (Ba×Obj)
 xe:Da->Ja->Prop
noncomputable def Bf  (l:List Env):List Ba:=l.filterMap (·.frame)
abbrev Cx.fs  (X:Cx):List Ba:=Bf X.outer

def Sh  (j:Rc)(x:Str):Prop:=j.names.lookup x=ia .local\/j.names.lookup x=ia .cell\/j.names.lookup x=ia .free
def Mm  (j:Rc)(x:Str):Prop:=j.names.lookup x=ia .local\/j.names.lookup x=ia .cell
def Look  (env:Env)(h:Za)(m:Str->Option Da)(x:Str)(u:Da):Prop:=
 (env.kindOf x=ia .local/\m x=ia u)\/((env.kindOf x=ia .cell\/env.kindOf x=ia .free)/\∃c,env.cells.lookup x=ia c/\h.IsCell c (ia u))

structure Cx.Ok (X:Cx):Prop where
 mod:Mod X.K X.mg X.base
 kind:X.env.scope.kind=.function
 glob:X.env.globals=ze
 blt:X.env.builtins=oo
 above:X.s₀.heap.objs.size<=X.env.locals
 inj:∀x y c,X.env.cells.lookup x=ia c->X.env.cells.lookup y=ia c->x=y
 has:∀x,(X.env.kindOf x=ia .cell\/X.env.kindOf x=ia .free)->∃c,X.env.cells.lookup x=ia c
 cab:∀x c,X.fn x=la->X.env.cells.lookup x=ia c->X.s₀.heap.objs.size<=c
 hd:X.calm=la->X.A.handled=Aa
 frames:X.A.frames=ia X.stack
 stk:X.stack=X.outer\/(X.stack=X.env::X.outer/\X.env.frame=ia X.env.locals)
 exf:∀b∈X.ex,b≠X.env.locals/\∀x c,X.env.cells.lookup x=ia c->c≠b
 bs:∀b o,X.base.get? b=ia o->X.s₀.heap.get? b=ia o/\X.H₀ b=Aa
 bsz:X.base.objs.size<=X.s₀.heap.objs.size
 noex:∀b o,X.base.get? b=ia o->b∉X.ex
 exfs:∀b∈X.ex,b∉X.fs
 funs:X.s₀.heap.FunFrames X.base X.outer
 frf:∀b∈X.fs,X.H₀ b=Aa

structure Oa (X:Cx)(pins:List (Ba×Obj))(σ:List (Option V))(H:Hp)(s:Ja):Prop where
 ok:X.Ok
 os:s.os=X.s₀.os
 bare:ve s.gens
 base:Un X.fs X.ex X.H₀ H X.s₀.heap s.heap
 loc:∃m,s.heap.Ns X.env.locals m/\∀(i:Nat) (x:Str) (v:V),X.N[i]?=ia x->σ[i]?=ia (ia v)->Sh X.env.scope x->∃u,RelV v u/\Look X.env s.heap m x u
 cell:∀x c,X.env.cells.lookup x=ia c->∃v,s.heap.IsCell c v
 free:H X.env.locals=Aa
 freeC:∀x c,X.env.cells.lookup x=ia c->H c=Aa
 pin:∀p∈X.pn++pins,s.heap.get? p.1=ia p.2/\H p.1=Aa/\p.1≠X.env.locals/\p.1∉X.fs/\∀v,p.2.data≠.cell v
 hok:Vd X.prog X.w H s.heap
 len:σ.length=X.N.length

section
variable {X:Cx}{pins:List (Ba×Obj)}{σ:List (Option V)}{H H':Hp}{s:Ja}{h':Za}

def Cx.Ok.nofr  (ok:X.Ok)(e:X.base.get? b=ia o):b∉X.fs:=λj=>by
 have:=(ok.funs.mem j).1;rw[e]at this;cases this
def Oa.bs  (I:Oa X pins σ H s):∀b o,X.base.get? b=ia o->s.heap.get? b=ia o/\H b=Aa:=λb o e=>
 ⟨I.base.keep b o (I.ok.bs b o e).1 (I.ok.bs b o e).2 (I.ok.nofr e) (I.ok.noex b o e),I.base.free b o (I.ok.bs b o e).1 (I.ok.bs b o e).2 (I.ok.noex b o e)⟩
def Oa.bk  (I:Oa X pins σ H s):∀b o,X.base.get? b=ia o->s.heap.get? b=ia o:=λb o e=>(I.bs b o e).1
def Oa.mod  (I:Oa X pins σ H s):Mod X.K X.mg X.base:=I.ok.mod
def Oa.kIn  (I:Oa X pins σ H s):X.K.In s.heap:=I.ok.mod.kin.keeps I.bk
def Oa.lt  (I:Oa X pins σ H s):X.env.locals<s.heap.objs.size:=let ⟨_,j,_⟩:=I.loc;j.lt
def Oa.sz  (I:Oa X pins σ H s):X.s₀.heap.objs.size<=s.heap.objs.size:=Lb I.ok.above (Ei I.lt)
def Oa.nofs  (I:Oa X pins σ H s){a:Ba}(h:s.heap.objs.size<=a):a∉X.fs:=λy=>by
 obtain⟨_,o,j,_⟩:=I.ok.funs.mem y;exact absurd (Wf (Lc j) (Lb I.sz h)) (Rh _)
def Oa.cne  (I:Oa X pins σ H s):∀x c,X.env.cells.lookup x=ia c->c≠X.env.locals:=λx c e z=>by
 obtain⟨v,o,F,hd⟩:=I.cell x c e;obtain⟨m,⟨O,J,R,j,y,_⟩,_⟩:=I.loc;rw[z,j]at F;cases F;rw[y]at hd;cases hd
theorem Oa.funs  (I:Oa X pins σ H s):s.heap.FunFrames X.base X.outer:=by
 have all:∀(l:List Env),(∀b∈Bf l,b∈X.fs)->X.s₀.heap.FunFrames X.base l->s.heap.FunFrames X.base l:=by
  intro l
  induction l with
  |nil=>intro _ _;trivial
  |cons Z r R=>
   intro J hl;obtain⟨hk,⟨L,o,j,Y,O,hd⟩,hr⟩:=hl;have y:L∈X.fs:=J L (by unfold Bf;rw[cw,j];exact Cf)
   obtain⟨sl,e⟩:=I.base.slot L o O (I.ok.frf L y) y λz=>I.ok.exfs L z y;exact⟨hk,⟨L,_,j,Y,e,hd⟩,R (λb F=>J b (by unfold Bf;rw[cw,j];exact Uc _ F)) hr⟩
 exact all X.outer (λ_ F=>F) I.ok.funs

def Oa.stack  (I:Oa X pins σ H s):s.heap.FunFrames X.base X.stack:=by
 rcases I.ok.stk with e|⟨e,hf⟩
 ·rw[e];exact I.funs
 ·rw[e];obtain⟨m,j,_⟩:=I.loc;refine .cons (by rw[I.ok.kind];decide) hf j ?_ I.funs
  exact VA (Lb I.ok.bsz I.ok.above)
def Oa.stkSub  (I:Oa X pins σ H s):∀b∈Bf X.stack,b∈X.env.locals::X.fs:=λb j=>by
 rcases I.ok.stk with e|⟨e,hf⟩
 ·rw[e]at j;exact Uc _ j
 ·rw[e]at j;unfold Bf at j;rw[cw,hf]at j;exact j
def Oa.stkFree  (I:Oa X pins σ H s):∀b∈Bf X.stack,H b=Aa:=λb j=>by
 rcases ic.mp (I.stkSub b j)with e|j
 ·rw[e];exact I.free
 ·obtain⟨_,o,y,_⟩:=I.ok.funs.mem j;exact I.base.free b o y (I.ok.frf b j) λz=>I.ok.exfs b z j

def Oa.step     {ch:List Ba}(I:Oa X pins σ H s)
  (J:∀b∈ch,(b∈X.ex\/X.s₀.heap.objs.size<=b)/\b≠X.env.locals/\(∀x c,X.env.cells.lookup x=ia c->c≠b)/\∀p∈X.pn++pins,p.1≠b)
  (keep:∀b o,b≠X.env.locals->b∉X.fs->b∉ch->s.heap.get? b=ia o->H b=Aa->h'.get? b=ia o)
  (slot:∀b o,b≠X.env.locals->b∈X.fs->b∉ch->s.heap.get? b=ia o->H b=Aa->∃sl,h'.get? b=ia { o with slots:=sl }) (free:∀b o,b∉ch->s.heap.get? b=ia o->H b=Aa->H' b=Aa)
  (there:∀b o,b∉ch->s.heap.get? b=ia o->∃o',h'.get? b=ia o')
  (tups:∀b xs,H b=ia (.tup xs)->H' b=ia (.tup xs)) (frzs:∀b o u,H b=ia (.frz o u)->H' b=ia (.frz o u)) (tbls:∀b ps,H b=ia (.tbl ps)->∃xa,H' b=ia (.tbl (ps++xa)))
  (ns:∀m,s.heap.Ns X.env.locals m->h'.Ns X.env.locals m) (va:Vd X.prog X.w H' h') (hg:ve g') :
  Oa X pins σ H' { s with heap:=h',gens:=g',drawn:=d',toks:=t' }:=by
 have za:∀b o,X.s₀.heap.get? b=ia o->b≠X.env.locals:=λb o e=>Xe (Wf (Lc e) I.ok.above);have O:∀b o,X.s₀.heap.get? b=ia o->b∉X.ex->b∉ch:=λb o e j Y=>by
  rcases(J b Y).1 with z|z
  ·exact j z
  ·exact absurd (Wf (Lc e) z) (Rh _)
 have y:∀x c,X.env.cells.lookup x=ia c->∀v,s.heap.IsCell c v->h'.IsCell c v:=λx c e v ⟨o,Z,hd⟩=>by
  have F:c∉ch:=λz=>(J c z).2.2.1 x c e rfl;by_cases hc:c∈X.fs
  ·obtain⟨sl,q⟩:=slot c o (I.cne x c e) hc F Z (I.freeC x c e);exact⟨_,q,hd⟩
  ·exact⟨o,keep c o (I.cne x c e) hc F Z (I.freeC x c e),hd⟩
 refine⟨I.ok,I.os,hg,⟨λb o e n Y j=>?_,λb o e n Y j=>?_,λb o e n j=>?_,λb o e j=>?_,λb xs e=>tups b xs (I.base.tups b xs e),λb o xs e=>frzs b o xs (I.base.frzs b o xs e),λb ps e=>?_⟩,?_,λx c e=>?_,?_,λx c e=>?_,λp hp=>?_,va,I.len⟩
 ·exact keep b o (za b o e) Y (O b o e j) (I.base.keep b o e n Y j) (I.base.free b o e n j)
 ·obtain⟨sl,R⟩:=I.base.slot b o e n Y j;obtain⟨ja,e2⟩:=slot b _ (za b o e) Y (O b o e j) R (I.base.free b o e n j);exact⟨ja,e2⟩
 ·obtain⟨o',R⟩:=I.base.there b o e j;exact free b o' (O b o e j) R (I.base.free b o e n j)
 ·obtain⟨o',R⟩:=I.base.there b o e j;exact there b o' (O b o e j) R
 ·obtain⟨m1,R⟩:=I.base.tbls b ps e;obtain⟨m2,e2⟩:=tbls b _ R;exact⟨m1++m2,by rw[e2,oK]⟩
 ·obtain⟨m,hn,hl⟩:=I.loc;refine⟨m,ns m hn,λi x v R e2 e3=>?_⟩;obtain⟨u,r,l⟩:=hl i x v R e2 e3;refine⟨u,r,?_⟩;rcases l with l|⟨k,c,e,z⟩
  ·exact .inl l
  ·exact .inr ⟨k,c,e,y x c e _ z⟩
 ·obtain⟨v,z⟩:=I.cell x c e;exact⟨v,y x c e v z⟩
 ·obtain⟨m,⟨o,_,_,Z,_⟩,_⟩:=I.loc;exact free _ o (λz=>(J _ z).2.1 rfl) Z I.free
 ·obtain⟨v,o,Z,hd⟩:=I.cell x c e;exact free c o (λz=>(J c z).2.2.1 x c e rfl) Z (I.freeC x c e)
 ·obtain⟨e,n,ne,nf,d⟩:=I.pin p hp;have F:p.1∉ch:=λz=>(J p.1 z).2.2.2 p hp rfl;exact⟨keep p.1 p.2 ne nf F e n,free p.1 p.2 F e n,ne,nf,d⟩
def Oa.un   (I:Oa X pins σ H s)(u:Un X.fs [] H H' s.heap h')(F:Vd X.prog X.w H' h'):Oa X pins σ H' { s with heap:=h',toks:=t' }:=by
 obtain⟨m,⟨o,es,ep,R,r⟩,_⟩:=id I.loc;obtain⟨sl,hL⟩:=u.any R I.free (by simp)
 exact I.step (g':=s.gens) (d':=s.drawn) (ch:=[]) (λ_ z=>nomatch z) (λb o _ O _ e n=>u.keep b o e n O (by simp)) (λb o _ O _ e n=>u.slot b o e n O (by simp)) (λb o _ e n=>u.free b o e n (by simp)) (λb o _ e=>u.there b o e (by simp)) u.tups u.frzs u.tbls (λm' Z=>by
  obtain⟨o',J,y,j,Y⟩:=Z;rw[R]at j;cases j;exact⟨_,J,y,hL,Y⟩) F I.bare
def Oa.call      (I:Oa X pins σ H s)(u:Un (Bf X.stack) ch H H' s.heap h')(O:Vd X.prog X.w H' h')(hg:ve g')
  (F:∀b∈ch,(b∈X.ex\/X.s₀.heap.objs.size<=b)/\b≠X.env.locals/\(∀x c,X.env.cells.lookup x=ia c->c≠b)/\∀p∈X.pn++pins,p.1≠b) :
  Oa X pins σ H' { s with heap:=h',gens:=g',drawn:=d',toks:=t' }:=by
 obtain⟨m,⟨o,es,ep,Z,r⟩,_⟩:=id I.loc;obtain⟨sl,R⟩:=u.any Z I.free λz=>(F _ z).2.1 rfl;exact I.step (ch:=ch) F (λb o R hb j e n=>u.keep b o e n (λz=>(ic.mp (I.stkSub b z)).elim R hb) j) (λb o _ _ j e n=>u.any e n j) (λb o j e n=>u.free b o e n j) (λb o j e=>u.there b o e j) u.tups u.frzs u.tbls (λm' hm=>by
  obtain⟨o',Y,J,y,r'⟩:=hm;rw[Z]at y;cases y;exact⟨_,Y,J,R,r'⟩) O hg
def Oa.turned    (I:Oa X pins σ H s)(k:∀b o,b≠it->s.heap.get? b=ia o->h'.get? b=ia o)(hn:H it=Aa)(F:it≠X.env.locals)
  (Z:it∈X.ex\/X.s₀.heap.objs.size<=it) (J:∀x c,X.env.cells.lookup x=ia c->c≠it) (h3:∀p∈X.pn++pins,p.1≠it):Oa X pins σ H { s with heap:=h',toks:=t' }:=by
 have y:∀b u,H b=ia u->b≠it:=λb u e z=>by rw[z,hn]at e;cases e
 refine I.step (g':=s.gens) (d':=s.drawn) (ch:=[it]) (λb hb=>?_) (λb o _ _ j e _=>k b o (λz=>j (by simp[z])) e) (λb o _ _ j e _=>⟨o.slots,k b o (λz=>j (by simp[z])) e⟩) (λ_ _ _ _ n=>n)
  (λb o j e=>⟨o,k b o (λz=>j (by simp[z])) e⟩) (λ_ _ e=>e) (λ_ _ _ e=>e) (λb ps e=>⟨#[],by rw[e];simp⟩) (λm R=>?_) (λb u e=>?_) I.bare
 ·have e:b=it:=by simpa using hb
  subst e;exact⟨Z,F,J,h3⟩
 ·obtain⟨o,O,ep,Y,r⟩:=R;exact⟨o,O,ep,k _ o (Ta F) Y,r⟩
 ·refine(I.hok b u e).stay (λc v j q=>k c v ?_ q) (λ_ q=>q) λ_ _ q=>q;rcases j with z|z
  ·rw[z];exact y b u e
  ·exact y c _ z
def Oa.tok  (I:Oa X pins σ H s) t:Oa X pins σ H { s with toks:=t }:=I.un (h':=s.heap) (t':=t) Un.refl I.hok
def Oa.kept   (I:Oa X pins σ H s)(k:∀b u,s.heap.get? b=ia u->h'.get? b=ia u):Oa X pins σ H { s with heap:=h',toks:=t' }:=I.un (Un.kept k) (I.hok.kept k)
def Oa.laid  {a:Ba}(I:Oa X pins σ H s)(k:∀b u,s.heap.get? b=ia u->h'.get? b=ia u)(j:s.heap.objs.size<=a)(new:Od X.prog X.w (upd H a o) h' a o) :
  Oa X pins σ (upd H a o) { s with heap:=h',toks:=t' }:=I.un (Un.laid k j (I.hok.fresh j)) (I.hok.laid k j new)
def Oa.write     (I:Oa X pins σ H s)(F:Xr (H x))(y:e=x\/H e=ia (.own x))(k:∀b u,b≠e->s.heap.get? b=ia u->h'.get? b=ia u)(j:∃u,h'.get? e=ia u)
  (new:Od X.prog X.w (upd H x o) h' x o):Oa X pins σ (upd H x o) { s with heap:=h',toks:=t' }:=I.un (Un.write F y k j) (I.hok.write F y k j new)
def Oa.pins_of  {j:List (Ba×Obj)}(I:Oa X pins σ H s)(h:∀p∈j,s.heap.get? p.1=ia p.2/\H p.1=Aa/\p.1≠X.env.locals/\p.1∉X.fs/\∀v,p.2.data≠.cell v):Oa X j σ H s:=
 ⟨I.ok,I.os,I.bare,I.base,I.loc,I.cell,I.free,I.freeC,λp y=>(Ma.mp y).elim (λz=>I.pin p (Sf _ z)) (h p),I.hok,I.len⟩

def Hy  {N:List Str}(y:N.Nodup){i j:Nat}(a:N[i]?=ia x)(b:N[j]?=ia x):i=j:=by
 obtain⟨O,I⟩:=Ea.mp a;obtain⟨J,F⟩:=Ea.mp b;exact(List.getElem_inj y).mp (I.trans F.symm)

section
variable {M:Gs}{A:Ub}{E:Da->Ja->Prop}{i:Nat}{x:Str}{v:V}{u:Da}{Q:Unit->Ja->Prop}
def VF (I:Oa X pins σ H s)(hN:X.N.Nodup)(hi:X.N[i]?=ia x)(Y:Mm X.env.scope x)(r:RelV v u)
  (h:∀s',Oa X pins (σ.set i (ia v)) H s'->(∃a,lm a s.heap s'.heap/\(a=X.env.locals\/X.env.cells.lookup x=ia a))->Q () s') (hf:X.fn x=la\/X.env.scope.names.lookup x=ia .local:=by first|exact .inl rfl|exact .inr rfl|assumption):wpAny M A (Fw X.env x u) Q E s:=by
 obtain⟨m,hn,hl⟩:=id I.loc;have ya:(X.env.scope.kind == .class||(X.env.scope.kind == .module&&X.env.locals != X.env.globals))=ua:=by rw[I.ok.kind];rfl
 have xa:i<σ.length:=by rw[I.len];exact(Ea.mp hi).1
 have cne:=I.cne;have J:∀{a:Ba} {h':Za},(∃o,s.heap.get? a=ia o/\H a=Aa)->lm a s.heap h'->Vd X.prog X.w H h':=λ{a h'} ha F b ob e=>by
  obtain⟨_,_,Z⟩:=ha;refine(I.hok b ob e).stay (λc w' R q=>(F.2 c ?_).trans q) (λ_ q=>q) λ_ _ q=>q;rintro rfl;rcases R with rfl|R
  ·rw[Z]at e;cases e
  ·rw[Z]at R;cases R
 rcases Y with hk|hk
 ·refine wpAny_storeName_local hk hn (λh' xb F=>?_) ya;obtain⟨oL,_,_,zb,_⟩:=id hn;refine h _ ⟨I.ok,I.os,I.bare,⟨λb o e n hb Y=>?_,λb o e n hb Y=>?_,I.base.free,λb o e Y=>?_,I.base.tups,I.base.frzs,I.base.tbls⟩,⟨_,xb,λj y v' O e2 e3=>?_⟩,λy c e=>?_,I.free,I.freeC,λp hp=>?_,J ⟨oL,zb,I.free⟩ F,by simpa using I.len⟩ ⟨_,F,.inl rfl⟩
  ·exact(F.2 b (Xe (Wf (Lc e) I.ok.above))).trans (I.base.keep b o e n hb Y)
  ·obtain⟨sl,O⟩:=I.base.slot b o e n hb Y;exact⟨sl,(F.2 b (Xe (Wf (Lc e) I.ok.above))).trans O⟩
  ·obtain⟨o',O⟩:=I.base.there b o e Y;exact⟨o',(F.2 b (Xe (Wf (Lc e) I.ok.above))).trans O⟩
  ·by_cases hj:j=i
   ·subst hj;rw[hi]at O;cases O;rw[Fi xa]at e2;cases e2;exact⟨u,r,.inl ⟨hk,by simp⟩⟩
   ·rw[Ah (Ta hj)]at e2;obtain⟨u',r',q⟩:=hl j y v' O e2 e3;refine⟨u',r',?_⟩;rcases q with⟨k,e⟩|⟨k,c,e,z⟩
    ·refine .inl ⟨k,?_⟩;have:y≠x:=λe=>hj (Hy hN O (e ▸ hi));simp[this,e]
    ·exact .inr ⟨k,c,e,z.sameBut F (cne y c e)⟩
  ·obtain⟨w',z⟩:=I.cell y c e;exact⟨w',z.sameBut F (cne y c e)⟩
  ·obtain⟨e,n,ne,nf,d⟩:=I.pin p hp;exact⟨(F.2 p.1 ne).trans e,n,ne,nf,d⟩
 ·have za:X.fn x=la:=by
   rcases hf with z|z
   ·exact z
   ·rw[z]at hk;cases hk
  obtain⟨c,R⟩:=I.ok.has x (.inl hk);obtain⟨w',z⟩:=I.cell x c R;refine wpAny_storeName_cell I.ok.kind hk R z (λh' wa F=>?_);obtain⟨oc,ja,va⟩:=id z;refine h { s with heap:=h' } ⟨I.ok,I.os,I.bare,⟨λb o e n hb Y=>?_,λb o e n hb Y=>?_,I.base.free,λb o e Y=>?_,I.base.tups,I.base.frzs,I.base.tbls⟩,⟨m,hn.sameBut F (Ta (cne x c R)),λj y v' O e2 e3=>?_⟩,λy c' e=>?_,I.free,I.freeC,λp hp=>?_,J ⟨oc,ja,I.freeC x c R⟩ F,by simpa using I.len⟩ ⟨c,F,.inr R⟩
  ·exact(F.2 b (Xe (Wf (Lc e) (I.ok.cab x c za R)))).trans (I.base.keep b o e n hb Y)
  ·obtain⟨sl,O⟩:=I.base.slot b o e n hb Y;exact⟨sl,(F.2 b (Xe (Wf (Lc e) (I.ok.cab x c za R)))).trans O⟩
  ·obtain⟨o',O⟩:=I.base.there b o e Y;exact⟨o',(F.2 b (Xe (Wf (Lc e) (I.ok.cab x c za R)))).trans O⟩
  ·by_cases hj:j=i
   ·subst hj;rw[hi]at O;cases O;rw[Fi xa]at e2;cases e2;exact⟨u,r,.inr ⟨.inl hk,c,R,wa⟩⟩
   ·rw[Ah (Ta hj)]at e2;obtain⟨u',r',q⟩:=hl j y v' O e2 e3;refine⟨u',r',?_⟩;rcases q with q|⟨k,c',e,z'⟩
    ·exact .inl q
    ·refine .inr ⟨k,c',e,z'.sameBut F ?_⟩;rintro rfl;exact hj (Hy hN O (I.ok.inj _ _ _ e R ▸ hi))
  ·by_cases ka:c'=c
   ·subst ka;exact⟨_,wa⟩
   ·obtain⟨w2,z2⟩:=I.cell y c' e;exact⟨w2,z2.sameBut F ka⟩
  ·obtain⟨e,n,ne,nf,d⟩:=I.pin p hp;refine⟨(F.2 p.1 ?_).trans e,n,ne,nf,d⟩;intro q;rw[q,ja]at e;have q':oc=p.2:=Nd e;exact d w' (by rw[<- q'];exact va)
def Uq (I:Oa X pins σ H s)(y:X.N.Nodup)(F:X.N[i]?=ia x)(O:Mm X.env.scope x)(r:RelV v u)
  (h:∀j,Oa X pins (σ.set i (ia v)) H j->Q () j) (J:X.fn x=la\/X.env.scope.names.lookup x=ia .local:=by first|exact .inl rfl|exact .inr rfl|assumption):wpAny M A (Fw X.env x u) Q E s:=
 VF I y F O r (λj R _=>h j R) J
end
def Oa.call'    (I:Oa X pins σ H s)(J:j.os=s.os)(u:Un (Bf X.stack) ch H H' s.heap j.heap)(y:Vd X.prog X.w H' j.heap)(O:ve j.gens)
  (F:∀b∈ch,(b∈X.ex\/X.s₀.heap.objs.size<=b)/\b≠X.env.locals/\(∀x c,X.env.cells.lookup x=ia c->c≠b)/\∀p∈X.pn++pins,p.1≠b):Oa X pins σ H' j:=by
 obtain⟨Y,g',d',t',R⟩:=j;have e:R=s.os:=J;subst e;exact I.call (g':=g') (t':=t') (d':=d') u y O F
end

abbrev XK:=Da->Option Ba->Hp->Prop
abbrev St:=List (Option V)
abbrev VK:=V->Hp->Prop
abbrev TE:=St->Hp->VK->Prop
abbrev TT:=St->Hp->(Bool->Hp->Prop)->Prop
abbrev TA:=St->Hp->(List V->Hp->Prop)->Prop
structure Ends where
 nx:St->Hp->Prop
 rt:VK
 bk:St->Hp->Prop:=λ_ _=>False
 ct:St->Hp->Prop:=λ_ _=>False
abbrev TS:=Ends->St->Hp->Prop

def EP  (X:Cx)(pins:List (Ba×Obj))(y:St)(Q:VK)(u:Da)(F:Ja):Prop:=∃v j,Oa X pins y j F/\RelV v u/\Q v j
def TP  (X:Cx)(pins:List (Ba×Obj))(y:St)(Q:Bool->Hp->Prop)(b:Bool)(F:Ja):Prop:=∃j,Oa X pins y j F/\Q b j
def AP  (X:Cx)(pins:List (Ba×Obj))(F:St)(Q:List V->Hp->Prop)(us:List Da)(I:Ja):Prop:=∃j y,Oa X pins F y I/\Vals j us/\Q j y
def SP  (X:Cx)(pins:List (Ba×Obj))(D:Ends)(f:Flow)(F:Ja):Prop:=
 match f with
 |.next=>∃j y,Oa X pins j y F/\D.nx j y
 |.brk=>∃j y,Oa X pins j y F/\D.bk j y
 |.cont=>∃j y,Oa X pins j y F/\D.ct j y
 |.ret u=>∃v j y,Oa X pins j y F/\RelV v u/\D.rt v y

def PE  (X:Cx)(e:La)(t:TE):Prop:=
 ∀(j:List (Ba×Obj)) (s:Ja) (σ:St) (H:Hp) (Q:VK),Oa X j σ H s->t σ H Q->wpAny (Ka X.prog X.w) X.A (Xa e X.env) (EP X j σ Q) X.xe s
def PT  (X:Cx)(e:La)(t:TT):Prop:=
 ∀(j:List (Ba×Obj)) (s:Ja) (σ:St) (H:Hp) (Q:Bool->Hp->Prop),Oa X j σ H s->t σ H Q->wpAny (Ka X.prog X.w) X.A (se e X.env (Xa e X.env)) (TP X j σ Q) X.xe s
def PW  (X:Cx)(e:La)(t:TT):Prop:=
 ∀(j:Sem Da) (pins:List (Ba×Obj)) (s:Ja) (σ:St) (H:Hp) (Q:Bool->Hp->Prop),Oa X pins σ H s->t σ H Q->wpAny (Ka X.prog X.w) X.A (se e X.env j) (TP X pins σ Q) X.xe s
def PW.pt     (h:PW X e t):PT X e t:=h _
def PA  (X:Cx)(j:List La)(t:TA):Prop:=
 ∀(pos:Pos) (pins:List (Ba×Obj)) (s:Ja) (σ:St) (H:Hp) (Q:List V->Hp->Prop),Oa X pins σ H s->t σ H Q->wpAny (Ka X.prog X.w) X.A (spliced (Xb pos (gc j X.env))) (AP X pins σ Q) X.xe s
def PS  (X:Cx)(st:Qa)(t:TS):Prop:=
 ∀(j:List (Ba×Obj)) (s:Ja) (σ:St) (H:Hp) (D:Ends),Oa X j σ H s->t D σ H->wpAny (Ka X.prog X.w) X.A (exec st X.env) (SP X j D) X.xe s
def Ce  (X:Cx)(st:List Qa)(t:TS):Prop:=
 ∀(j:List (Ba×Obj)) (s:Ja) (σ:St) (H:Hp) (D:Ends),Oa X j σ H s->t D σ H->wpAny (Ka X.prog X.w) X.A (execs st X.env) (SP X j D) X.xe s
def Mb    {Q j:α->Ja->Prop}(h:wpAny M A t Q E s)(y:∀a s,Q a s->j a s):wpAny M A t j E s:=We h y λ_ _ x=>x
section
variable {X:Cx}

def tVar  (i:Nat):TE:=λj H Q=>∃v,j[i]?=ia (ia v)/\Q v H
def tC  (v:V):TE:=λ_ H Q=>Q v H
def Si {i:Nat}{x:Str}{pos:Pos}(J:X.N[i]?=ia x)(Z:Sh X.env.scope x)(hd:(x==("__debug__" : Str))=ua:=by decide)(F:(x==("__classdict__" : Str))=ua:=by decide):PE X (.Name x pos) (tVar i):=by
 intro y s R H Q I h;obtain⟨v,e,h⟩:=h;obtain⟨m,Y,hl⟩:=I.loc;obtain⟨u,r,l⟩:=hl i x v J e Z;have j:EP X y R Q u s:=⟨v,H,I,r,h⟩;rcases l with⟨hk,O⟩|⟨hk,c,hc,hcell⟩
 ·exact Po (wpAny_loadName_local I.ok.kind hk Y O j) hd
 ·rcases hk with hk|hk
  ·exact Po (wpAny_loadName_cell I.ok.kind hk hc hcell j) hd
  ·exact Po (wpAny_loadName_free I.ok.kind hk hc hcell j F) hd
def UO   : PE X (.Constant (.int i) j pos) (tC (.int i)):=λ_ _ _ H _ I h=>wpAny_Constant_int ⟨.int i,H,I.tok _,⟨_,rfl⟩,h⟩
def SB   : PE X (.Constant (.bool b) j pos) (tC (.bl b)):=λ_ _ _ H _ I h=>Constant_bool ⟨.bl b,H,I,rfl,h⟩
def WO   : PE X (.Constant .none j pos) (tC .non):=λ_ _ _ H _ I h=>Constant_none ⟨.non,H,I,rfl,h⟩
def XC   : PE X (.Constant (.str x) j pos) (tC (.str x)):=λ_ _ _ H _ I h=>Calls.Constant_str ⟨.str x,H,I.tok _,⟨_,rfl⟩,h⟩

def Gl  (X:Cx)(x:Str):Prop:=X.env.kindOf x=ia .globalImplicit
section
variable {E:Da->Ja->Prop}{pins:List (Ba×Obj)}{s:Ja}{σ:St}{H:Hp}{x:Str}{u:Da}{pos:Pos}{Q:Da->Ja->Prop}
def Nq (I:Oa X pins σ H s)(y:Gl X x)(j:X.mg x=ia u)(h:Q u s)
  (hd:(x==("__debug__" : Str))=ua:=by decide):wpAny (Ka X.prog X.w) X.A (Xa (.Name x pos) X.env) Q E s:=
 AK I.ok.kind y (Calls.loadGlobal_global (by rw[I.ok.glob];exact I.mod.glob.keeps I.bk) j h) hd
def Pj (I:Oa X pins σ H s)(F:Gl X x)(y:X.mg x=Aa)(O:Di x=ia u)(h:Q u s)
  (R:x ≠ "__name__" := by decide) (hd:(x==("__debug__" : Str))=ua:=by decide):wpAny (Ka X.prog X.w) X.A (Xa (.Name x pos) X.env) Q E s:=by
 obtain⟨Y,J,j⟩:=I.mod.blt;exact AK I.ok.kind F (Calls.loadGlobal_builtin (by rw[I.ok.glob];exact I.mod.glob.keeps I.bk) y (by rw[I.ok.blt];exact J.keeps I.bk) ((j x R).trans O) h) hd
end
section
variable {x:Str}{v:V}{u:Da}{pos:Pos}
def FD (y:Gl X x)(j:X.mg x=ia u)(r:RelV v u)(hd:(x==("__debug__" : Str))=ua:=by decide):PE X (.Name x pos) (tC v):=
 λ_ _ _ H _ I h=>Nq I y j ⟨v,H,I,r,h⟩ hd
def ED (F:Gl X x)(j:X.mg x=Aa)(J:Di x=ia u)(r:RelV v u)(y:x ≠ "__name__" := by decide)(hd:(x==("__debug__" : Str))=ua:=by decide):PE X (.Name x pos) (tC v):=
 λ_ _ _ H _ I h=>Pj I F j J ⟨v,H,I,r,h⟩ y hd

end
variable {a b:La}{ta tb:TE}{pos:Pos}
def tB  (t:TE):TT:=λy H Q=>t y H λx j=>∃c,x=.bl c/\Q c j
def JQ {e:La}{t:TE}(h:PE X e t)(Y:∀j,se e X.env j=(do let v <- j;re e.pos;Ec [v] (Ii v)):=by intro _;rfl):PT X e (tB t):=by
 intro y s R H Q I J;refine isTrue_plain (Mb (h y s R H _ I J) λv s1 ⟨x,F,O,r1,q1⟩=>?_) (Y _);obtain⟨d,rfl,q⟩:=q1;cases r1;exact mj ⟨F,O,q⟩

def tAnd  (t u:TT):TT:=λy H Q=>t y H λc j=>if c=la then u y j Q else Q ua j
def DL  (t u:TT):TT:=λy H Q=>t y H λc j=>if c=la then Q la j else u y j Q
def tNot  (t:TT):TT:=λy H Q=>t y H λc j=>Q (!c) j
def pw_and1  (F:PT X a J):PW X (.BoolOp .And [a] pos) J:=by
 intro O j s y H Q I h;refine isTrue_and (Mb (F j s y H Q I h) λc s1 e=>?_);cases c with
 |true=>exact isTrue_and_nil e
 |false=>exact e
def pw_or1  (F:PT X a J):PW X (.BoolOp .Or [a] pos) J:=by
 intro O j s y H Q I h;refine isTrue_or (Mb (F j s y H Q I h) λc s1 e=>?_);cases c with
 |false=>exact isTrue_or_nil e
 |true=>exact e
def pw_and  {rest: List La}(Z:PT X a tA)(Y:PW X (.BoolOp .And (b::rest) pos) y):PW X (.BoolOp .And (a::b::rest) pos) (tAnd tA y):=by
 intro R j s O H Q I h;refine isTrue_and (Mb (Z j s O H _ I h) λc s1 ⟨F,J,q1⟩=>?_);cases c with
 |true=>exact Y R j s1 O F Q J q1
 |false=>exact⟨F,J,q1⟩
def pw_or  {rest: List La}(Z:PT X a tA)(Y:PW X (.BoolOp .Or (b::rest) pos) y):PW X (.BoolOp .Or (a::b::rest) pos) (DL tA y):=by
 intro R j s O H Q I h;refine isTrue_or (Mb (Z j s O H _ I h) λc s1 ⟨F,J,q1⟩=>?_);cases c with
 |true=>exact⟨F,J,q1⟩
 |false=>exact Y R j s1 O F Q J q1
def YC  (J:PT X a O):PT X (.UnaryOp .Not a pos) (tNot O):=by
 intro j s F H Q I h;exact isTrue_not (J j s F H (λc y=>Q (!c) y) I h)
def MM  (F tb:TE):TE:=λy H Q=>F y H λx j=>∃c,x=.bl c/\if c=la then tb y j Q else Q (.bl ua) j
def tOrV  (F tb:TE):TE:=λy H Q=>F y H λx j=>∃c,x=.bl c/\if c=la then Q (.bl la) j else tb y j Q
def qO  (F:TE):TE:=λy H Q=>F y H λx j=>∃c,x=.bl c/\Q (.bl (!c)) j
def qu    (h:PE X a t):PE X (.BoolOp op [a] pos) t:=λj s y H Q I F=>BoolOp_one (h j s y H Q I F)
def SO  {rest: List La}(O:PE X a ta)(R:PE X (.BoolOp .And (b::rest) pos) tb):PE X (.BoolOp .And (a::b::rest) pos) (MM ta tb):=by
 intro j s J H Q I h;refine BoolOp_and (Mb (O j s J H _ I h) λv s1 ⟨x,y,F,r1,q1⟩=>?_);obtain⟨c,rfl,q1⟩:=q1;cases r1;refine mj ?_;cases c with
 |true=>exact R j s1 J y Q F q1
 |false=>exact⟨.bl ua,y,F,rfl,q1⟩
def uM  {rest: List La}(O:PE X a ta)(R:PE X (.BoolOp .Or (b::rest) pos) tb):PE X (.BoolOp .Or (a::b::rest) pos) (tOrV ta tb):=by
 intro j s J H Q I h;refine BoolOp_or (Mb (O j s J H _ I h) λv s1 ⟨x,y,F,r1,q1⟩=>?_);obtain⟨c,rfl,q1⟩:=q1;cases r1;refine mj ?_;cases c with
 |false=>exact R j s1 J y Q F q1
 |true=>exact⟨.bl la,y,F,rfl,q1⟩
def XO  (O:PE X a ta):PE X (.UnaryOp .Not a pos) (qO ta):=by
 intro j s J H Q I h;refine UnaryOp_ (Mb (O j s J H _ I h) λv s1 ⟨x,y,F,r1,q1⟩=>?_);obtain⟨c,rfl,q1⟩:=q1;cases r1;exact not_of (mj ⟨.bl (!c),y,F,rfl,q1⟩)
def EL  (t:TT)(F tb:TE):TE:=λj H Q=>t j H λc y=>if c=la then F j y Q else tb j y Q
def cT   (O:PT X c Z)(Y:PE X a ta)(R:PE X b tb):PE X (.IfExp c a b pos) (EL Z ta tb):=by
 intro j s y H Q I h;refine wpAny_IfExp (Mb (O j s y H _ I h) λd s1 ⟨F,J,q1⟩=>?_);cases d with
 |true=>exact Y j s1 y F Q J q1
 |false=>exact R j s1 y F Q J q1
end

def Ae  (K:Nb)(H:Hp)(a:Ba)(xs:List V):Prop:=
 Rd H a (.lst xs)\/
  ∃(o:Obj) (its:Array Da) (n:Nat),K.lookup a=ia o/\o.cls=.type "list" /\ o.dict=Aa/\o.data=.seq its n/\its.size<=db/\Vals xs its.toList
def Bd  (K:Nb)(H:Hp)(a:Ba)(xs:List V):Prop:=
 Rd H a (.tup xs)\/
  ∃(o:Obj) (its:Array Da) (n:Nat),K.lookup a=ia o/\o.cls=.type "tuple" /\ o.data=.seq its n/\its.size<=db/\Vals xs its.toList
noncomputable def absV  : Da->Option V
 |.none=>ia .non
 |.bool b=>ia (.bl b)
 |.int i _=>ia (.int i)
 |.str x _=>ia (.str x)
 |.bytes b _=>ia (.byt b)
 |.float b _=>ia (.flt b)
 |.ref a=>ia (.ref a)
 |.type n=>ia (.ty n)
 |_=>Aa
def RelV.abs    (r:RelV x u):absV u=ia x:=by
 cases x with
 |non=>cases r;rfl
 |bl _=>cases r;rfl
 |int _=>obtain⟨t,rfl⟩:=r;rfl
 |str _=>obtain⟨t,rfl⟩:=r;rfl
 |byt _=>obtain⟨t,rfl⟩:=r;rfl
 |flt _=>obtain⟨t,rfl⟩:=r;rfl
 |ref _=>cases r;rfl
 |ty _=>cases r;rfl
def RelV.inj    (r:RelV x u)(q:RelV y u):x=y:=Nd (r.abs.symm.trans q.abs)
theorem Vals.inj  : ∀{xs ys } {us },Vals xs us->Vals ys us->xs=ys
 |_,_,_,.nil,.nil=>rfl
 |_,_,_,.cons r t,.cons r' t'=>by rw[r.inj r',Vals.inj t t']

def Ae.of  {K:Nb}(h:H a=ia (.lst xs)):Ae K H a xs:=.inl (.inl h)
def Bd.of  {K:Nb}(h:H a=ia (.tup xs)):Bd K H a xs:=.inl (.inl h)
def Oa.list  {y: St}(I:Oa X pins y H s)(h:Ae X.K H a xs):∃j ,Vals xs j/\PlainL s.heap a j.toArray/\xs.length<=db:=by
 rcases h with h|⟨o,j,n,hk,hc,hd,hs,hz,r⟩
 ·obtain⟨z,j,n,r,e⟩:=h.ok I.hok;exact⟨j,r,⟨_,n,e,rfl,rfl,rfl⟩,z⟩
 ·refine⟨j.toList,r,⟨o,n,I.kIn a o hk,hc,hd,by simpa using hs⟩,?_⟩
  have e:=r.length;simp only[Lo]at e
  lia
def Oa.tuple  {y: St}(I:Oa X pins y H s)(h:Bd X.K H a xs):∃j ,Vals xs j/\Vh s.heap a j.toArray/\xs.length<=db:=by
 rcases h with h|⟨o,j,n,hk,hc,hs,hz,r⟩
 ·obtain⟨z,j,r,p⟩:=h.ok I.hok;exact⟨j,r,p.tup,z⟩
 ·refine⟨j.toList,r,⟨o,I.kIn a o hk,hc,n,by simpa using hs⟩,?_⟩
  have e:=r.length;simp only[Lo]at e
  lia
def Oa.list_inj  {R: St}(I:Oa X pins R H s)(h:Ae X.K H a xs)(h':Ae X.K H a ys):xs=ys:=by
 obtain⟨y,r,⟨o,n,e,_,_,d⟩,_⟩:=I.list h;obtain⟨j,O,⟨Z,Y,J,_,_,F⟩,_⟩:=I.list h';rw[e]at J;cases J;rw[d]at F;injection F with d1 _
 have:y=j:=by simpa using congrArg Array.toList d1
 subst this;exact r.inj O
def Oa.tuple_inj  {R: St}(I:Oa X pins R H s)(h:Bd X.K H a xs)(h':Bd X.K H a ys):xs=ys:=by
 obtain⟨y,r,⟨o,e,_,n,d⟩,_⟩:=I.tuple h;obtain⟨j,O,⟨Z,J,_,Y,F⟩,_⟩:=I.tuple h';rw[e]at J;cases J;rw[d]at F;injection F with d1 _
 have:y=j:=by simpa using congrArg Array.toList d1
 subst this;exact r.inj O

noncomputable abbrev Cx.wish  (X:Cx)(E:Da->Ja->Prop):Cx:={ X with xe:=E }
def Cx.Ok.wish  {X:Cx}(ok:X.Ok) E:(X.wish E).Ok:=
 ⟨ok.mod,ok.kind,ok.glob,ok.blt,ok.above,ok.inj,ok.has,ok.cab,ok.hd,ok.frames,ok.stk,ok.exf,ok.bs,ok.bsz,ok.noex,ok.exfs,ok.funs,ok.frf⟩
def Cx.Ok.unwish  {X:Cx}(ok:(X.wish E).Ok):X.Ok:=
 ⟨ok.mod,ok.kind,ok.glob,ok.blt,ok.above,ok.inj,ok.has,ok.cab,ok.hd,ok.frames,ok.stk,ok.exf,ok.bs,ok.bsz,ok.noex,ok.exfs,ok.funs,ok.frf⟩
section
variable {X:Cx}{pins:List (Ba×Obj)}{σ:St}{H:Hp}{s:Ja}{E:Da->Ja->Prop}
def Oa.wish  (I:Oa X pins σ H s) E:Oa (X.wish E) pins σ H s:=⟨I.ok.wish E,I.os,I.bare,I.base,I.loc,I.cell,I.free,I.freeC,I.pin,I.hok,I.len⟩
def Oa.unwish  (I:Oa (X.wish E) pins σ H s):Oa X pins σ H s:=⟨I.ok.unwish,I.os,I.bare,I.base,I.loc,I.cell,I.free,I.freeC,I.pin,I.hok,I.len⟩
theorem SP.unwish     (h:SP (X.wish E) pins D f F):SP X pins D f F:=by
 cases f with
 |next=>obtain⟨j,y,I,q⟩:=h;exact⟨j,y,I.unwish,q⟩
 |brk=>obtain⟨j,y,I,q⟩:=h;exact⟨j,y,I.unwish,q⟩
 |cont=>obtain⟨j,y,I,q⟩:=h;exact⟨j,y,I.unwish,q⟩
 |ret u=>obtain⟨v,j,y,I,r,q⟩:=h;exact⟨v,j,y,I.unwish,r,q⟩
end

section
variable {X:Cx}{st:Qa}{rest:List Qa}{t u:TS}{e:La}{te:TE}{pos:Pos}
def oO  : TS:=λD j H=>D.nx j H
def tSeq  (t u:TS):TS:=λD j H=>t { D with nx:=u D } j H
def Ay  : Ce X [] oO:=λ_ _ j H _ I h=>Tr ⟨j,H,I,h⟩
def Ly  (J:PS X st t)(F:Ce X rest u):Ce X (st::rest) (tSeq t u):=by
 intro j s R H D I h;refine Lr (Mb (J j s R H { D with nx:=u D } I h) λf s1 q=>?_)
 cases f with
 |next=>
  obtain⟨y,O,Y,q⟩:=q;exact F j s1 y O D Y q
 |ret v=>exact q
 |brk=>exact q
 |cont=>exact q
def jR  (F:PS X st t):Ce X [st] t:=by
 intro j s y H D I h;refine Lr (Mb (F j s y H D I h) λf s1 q=>?_);cases f with
 |next=>exact Tr q
 |ret v=>exact q
 |brk=>exact q
 |cont=>exact q
def Oa.quiet   {j:St}(I:Oa X pins j H s):interactive X.env=ua:=by simp[interactive,I.ok.kind]
def mO  (y:TE):TS:=λD j H=>y j H λ_ F=>D.nx j F
def iR (O:PE X e te)(hs:rh e Aa pos.line X.env=pure ua:=by rfl):PS X (.Expr e pos) (mO te):=by
 intro j s y H D I h;exact wpAny_Expr_any (Mb (O j s y H _ I h) λv s1 ⟨x,F,J,r1,q1⟩=>⟨y,F,J,q1⟩) I.quiet hs
def tRet  (j:TE):TS:=λD y H=>j y H D.rt
def HQ  (O:PE X e te):PS X (.Return (ia e) pos) (tRet te):=by
 intro j s y H D I h;exact wpAny_Return_some (Mb (O j s y H _ I h) λv s1 ⟨x,F,J,r1,q1⟩=>⟨x,y,F,J,r1,q1⟩)
def tIfS  (c:TT)(t u:TS):TS:=λD j H=>c j H λb y=>if b=la then t D j y else u D j y
def jC     (O:PT X c tc)(R:Ce X a t)(Y:Ce X b u):PS X (.If c a b pos) (tIfS tc t u):=by
 intro j s y H D I h;refine wpAny_If (Mb (O j s y H _ I h) λd s1 ⟨F,J,q1⟩=>?_);cases d with
 |true=>exact R j s1 y F D J q1
 |false=>exact Y j s1 y F D J q1
end

abbrev TG:=V->St->Hp->(St->Hp->Prop)->Prop
abbrev fk:=List V->St->Hp->(St->Hp->Prop)->Prop
def PG  (X:Cx)(j:La)(t:TG):Prop:=
 ∀(y:List (Ba×Obj)) (s:Ja) (σ:St) (H:Hp) (v:V) (u:Da) (Q:St->Hp->Prop),Oa X y σ H s->RelV v u->t v σ H Q->
  wpAny (Ka X.prog X.w) X.A (Jc j X.env u) (λ_ J=>∃F I,Oa X y F I J/\Q F I) X.xe s
def Bh  (X:Cx)(ts:List La)(t:fk):Prop:=
 ∀(j:List (Ba×Obj)) (s:Ja) (σ:St) (H:Hp) (vs:List V) (us:List Da) (Q:St->Hp->Prop),Oa X j σ H s->Vals vs us->t vs σ H Q->
  wpAny (Ka X.prog X.w) X.A (cA ((ng ts X.env).map (·.2)) us) (λ_ I=>∃y F,Oa X j y F I/\Q y F) X.xe s
abbrev TSet:=V->V->V->Hp->(Hp->Prop)->Prop
def PSet  (X:Cx)(t:TSet):Prop:=
 ∀(j:List (Ba×Obj)) (s:Ja) (σ:St) (H:Hp) (o i v:V) (ov iv u:Da) (Q:Hp->Prop),Oa X j σ H s->RelV o ov->RelV i iv->RelV v u->t o i v H Q->
  wpAny (Ka X.prog X.w) X.A (Ji ov iv u) (λ_ F=>∃y,Oa X j σ y F/\Q y) X.xe s
abbrev Cw:=V->V->Hp->VK->Prop
def sL  (X:Cx)(F:Vl)(t:Cw):Prop:=
 ∀(j:List (Ba×Obj)) (s:Ja) (σ:St) (H:Hp) (x y:V) (v u:Da) (Q:VK),Oa X j σ H s->RelV x v->RelV y u->t x y H Q->
  wpAny (Ka X.prog X.w) X.A (Zl F v u) (EP X j σ Q) X.xe s
section
variable {X:Cx}{pos:Pos}
def Fq  (i:Nat):TG:=λv j H Q=>Q (j.set i (ia v)) H
def zy {i:Nat}{x:Str}(y:X.N.Nodup)(F:X.N[i]?=ia x)(O:Mm X.env.scope x)(J:X.fn x=la\/X.env.scope.names.lookup x=ia .local:=by first|exact .inl rfl|exact .inr rfl|assumption):PG X (.Name x pos) (Fq i):=by
 intro j s Z H v u Q I r h;exact wpAny_assign_Name (Uq I y F O r (λY R=>⟨_,H,R,h⟩) J)
def gNil  : fk:=λj y H Q=>j=[]/\Q y H
def XM  (t:TG)(u:fk):fk:=λy F H Q=>∃v r,y=v::r/\t v F H λj I=>u r j I Q
def aR  : Bh X [] gNil:=by
 intro j s y H J F Q I r h;obtain⟨e,h⟩:=h;subst e;cases r;exact assignInOrder_nil ⟨y,H,I,h⟩
def fT {e:La}{y:List La}{t:TG}{u:fk}(Y:PG X e t)(J:Bh X y u)
  (hs:(ng (e::y) X.env).map (·.2)=Jc e X.env::(ng y X.env).map (·.2):=by rfl):Bh X (e::y) (XM t u):=by
 intro j s Z H vs us Q I r h;obtain⟨v,vr,e1,h⟩:=h;subst e1;cases r with
 |cons r rr=>
  rw[hs];refine rA (Mb (Y j s Z H _ _ _ I r h) λ_ s1 ⟨F,O,R,q1⟩=>?_);exact J j s1 F O _ _ Q R rr q1
def gTup  (K:Nb)(n:Nat)(t:fk):TG:=λv y H Q=>∃a j,v=.ref a/\Bd K H a j/\j.length=n/\t j y H Q
def aP {y:List La}{k:Nat}{t:fk}{n:Nat}(Y:X.calm=la)(h:Bh X y t)
  (hn:(ng y X.env).length=n:=by rfl) (F:(ng y X.env).findIdx? (·.1)=Aa:=by rfl):PG X (.Tuple y k pos) (gTup X.K n t):=by
 intro j s R H v u Q I r J;obtain⟨a,Z,e1,hq,hl,J⟩:=J;subst e1;cases r;obtain⟨xa,O,ht,hz⟩:=I.tuple hq;refine assign_Tuple_tuple (I.ok.hd Y) ht (by simp[hn,<- hl,O.length]) F λh' hx=>?_
 have I1:Oa X j R H { s with heap:=h' }:=I.kept (t':=s.toks) λb o e=>hx b o (Xe (Lc e)) e
 exact h j _ R H Z _ Q I1 (by simpa using O) J
def gSub  (F O:TE)(t:TSet):TG:=λv j H Q=>F j H λo J=>O j J λi I=>t o i v I λy=>Q j y
def ZO {o i:La}{R Y:TE}{t:TSet}(ho:PE X o R)(hi:PE X i Y)(hs:PSet X t)
  (ha:∀v,Jc (.Subscript o i pos) X.env v=(do
   let F <- Ec [v] (Xa o X.env)
   let J <- Ec [v,F] (Xa i X.env)
   re pos
   Ec [v,F,J] (Ji F J v)
   release [v,F,J] []):=by intro _;rfl):PG X (.Subscript o i pos) (gSub R Y t):=by
 intro j s O H v u Q I r h;rw[ha];refine ub (cj (Mb (ho j s O H _ I h) λF s1 ⟨x,H1,I1,r1,q1⟩=>?_));refine ub (cj (Mb (hi j s1 O H1 _ I1 q1) λJ s2 ⟨y,H2,I2,r2,q2⟩=>?_));refine ub (Wj (ub (cj (Mb (hs j s2 O H2 x y v F J u _ I2 r1 r2 r q2) λ_ s3 ⟨Z,I3,q3⟩=>?_))));exact wpAny_release ⟨O,Z,I3,q3⟩
def tAsg  (y:TE)(g:TG):TS:=λD j H=>y j H λx F=>g x j F D.nx
def Mx {y e:La}{F:TE}{g:TG}(he:PE X e F)(O:PG X y g)(hs:Bi [y] e pos.line X.env=pure ua:=by rfl)(Y:vh [y] e X.env=pure Aa:=by rfl)
  (Z:(ng [y] X.env).map (·.2)=[Jc y X.env]:=by rfl):PS X (.Assign [y] e pos) (tAsg F g):=by
 intro j s J H D I h;refine wpAny_Assign_stores (Mb (he j s J H _ I h) λv s1 ⟨x,R,I1,r1,q1⟩=>?_) hs Y;rw[Z];exact Mb (O j s1 J R x v _ I1 r1 q1) λ_ s2 q=>q
def tPar  (i j:Nat)(J:TA):TS:=λD y H=>J y H λF I=>∃v w,F=[v,w]/\D.nx ((y.set i (ia v)).set j (ia w)) I
def GQ {i j:Nat}{x y:Str}{a b:La}{ta:TA}{Z py pt:Pos}{kt k2 J}(hc:X.calm=la)(hN:X.N.Nodup)(hi:X.N[i]?=ia x)(hj:X.N[j]?=ia y)(xa:i≠j)
  (hx:X.env.scope.names.lookup x=ia .local) (hy:X.env.scope.names.lookup y=ia .local) (ha:PA X [a,b] ta)
  (hw:vh [.Tuple [.Name x Z,.Name y py] kt pt] (.Tuple [a,b] k2 J) X.env=pure (ia [x,y]))
  (hs:Bi [.Tuple [.Name x Z,.Name y py] kt pt] (.Tuple [a,b] k2 J) pos.line X.env=pure ua:=by rfl) :
  PS X (.Assign [.Tuple [.Name x Z,.Name y py] kt pt] (.Tuple [a,b] k2 J) pos) (tPar i j ta):=by
 intro F s σ H D I h;rw[exec_Assign_arm];refine ub (Wj ?_);rw[hs];refine ub (Wb ?_);rw[if_neg (by decide)]
 refine ub (Tuple_ (Mb (ha _ F s σ H _ I h) λus s1 ⟨vs,H1,I1,r1,q1⟩=>?_));obtain⟨v,w,e1,q1⟩:=q1;subst e1;obtain⟨O,R,rfl,rv,Y⟩:∃O R,us=[O,R]/\RelV v O/\RelV w R:=by
  cases r1 with
  |cons p q=>
   cases q with
   |cons p' q'=>
    cases q';exact⟨_,_,rfl,p,p'⟩
 refine Ph ?_ (by show 2<=db;decide)
 have I2:Oa X F σ H1 { s1 with heap:=s1.heap.push { cls:=.type "tuple",data:=.seq [O,R].toArray } }:=I1.kept (t':=s1.toks) λb o e=>Nc _ e
 rw[hw];refine ub (Wb ?_);show wpAny (Ka X.prog X.w) X.A (do rule "assign.swapped-stores";let items <- unpackItems (.ref s1.heap.objs.size) 2 Aa;cA [λv=>eo X.env y v,λv=>eo X.env x v] items.reverse;pure Flow.next) _ _ _
 refine ub (No (ub (unpackItems_tuple (items:=#[O,R]) (I.ok.hd hc) (Vh.new s1.heap _) λh' za=>?_)));have I3:=I2.kept (h':=h') (t':=s1.toks) λb o e=>za b o (Xe (Lc e)) e;show wpAny _ _ (cA [λv=>eo X.env y v,λv=>eo X.env x v] [R,O] >>= λ_=>pure Flow.next) _ _ _
 refine ub (rA (wpAny_bindName (Uq I3 hN hj (.inl hy) Y (λs2 I4=>?_) (.inr hy))));refine rA (wpAny_bindName (Uq I4 hN hi (.inl hx) rv (λs3 I5=>assignInOrder_nil (Wb ?_)) (.inr hx)));rw[List.set_comm _ _ (Ta xa)]at I5;exact⟨_,H1,I5,q1⟩
def tAug  (i:Nat)(O:TE)(J:Cw):TS:=λD j H=>∃x,j[i]?=ia (ia x)/\O j H λy I=>J x y I λz F=>D.nx (j.set i (ia z)) F
def cP {i:Nat}{x:Str}{e:La}{te:TE}{Y:Vl}{ti:Cw}{O:Pos}(hN:X.N.Nodup)(hi:X.N[i]?=ia x)(R:Mm X.env.scope x)(he:PE X e te)(ho:sL X Y ti)(hf:X.fn x=la\/X.env.scope.names.lookup x=ia .local:=by first|exact .inl rfl|exact .inr rfl|assumption) :
  PS X (.AugAssign (.Name x O) Y e pos) (tAug i te ti):=by
 intro j s Z H D I h;obtain⟨v,e1,h⟩:=h;obtain⟨m,hn,hl⟩:=I.loc;have vis:Sh X.env.scope x:=by rcases R with k|k;exact .inl k;exact .inr (.inl k)
 obtain⟨u,r,l⟩:=hl i x v hi e1 vis;refine wpAny_AugAssign_Name ?_;have go:wpAny (Ka X.prog X.w) X.A (Xa e X.env) (λw F=>wpAny (Ka X.prog X.w) X.A (Zl Y u w) (λr J=>wpAny (Ka X.prog X.w) X.A (Fw X.env x r) (λ_=>SP X j D .next) X.xe J) X.xe F) X.xe s:=by
  refine Mb (he j s Z H _ I h) λw s1 ⟨y,H1,I1,r1,q1⟩=>?_;refine Mb (ho j s1 Z H1 v y u w _ I1 r r1 q1) λz s2 ⟨zv,H2,I2,r2,q2⟩=>?_;exact Uq I2 hN hi R r2 (λs3 I3=>⟨_,H2,I3,q2⟩) hf
 rcases l with⟨hk,hm⟩|⟨hk,c,hc,hcell⟩
 ·exact wpAny_loadName_local I.ok.kind hk hn hm go
 ·rcases hk with hk|hk
  ·exact wpAny_loadName_cell I.ok.kind hk hc hcell go
  ·rcases R with k|k
   ·have:X.env.scope.names.lookup x=ia .free:=hk;rw[k]at this;cases this
   ·have:X.env.scope.names.lookup x=ia .free:=hk;rw[k]at this;cases this
def PGet  (X:Cx)(t:V->V->Hp->VK->Prop):Prop:=
 ∀(j:List (Ba×Obj)) (s:Ja) (σ:St) (H:Hp) (o i:V) (ov iv:Da) (Q:VK),Oa X j σ H s->RelV o ov->RelV i iv->t o i H Q->
  wpAny (Ka X.prog X.w) X.A (td ov iv) (EP X j σ Q) X.xe s
end


def zQ  (c:TT)(tb:TS):TS:=λD j H=>∃W:Nat->St->Hp->Prop,(∃m,W m j H)/\∀m j H,W m j H->
 c j H λb F=>if b=la then ∃N:St->Hp->Prop,(∀y J,N y J->∃I,I<m/\W I y J)/\tb { D with nx:=N,ct:=N,bk:=D.nx } j F else D.nx j F
def rT      (hp:aj (Ka X.prog X.w) X.A X.env X.xe)(hc:PT X c tc)(hb:Ce X body tb):PS X (.While c body [] pos) (zQ tc tb):=by
 intro y s σ H D I h;obtain⟨W,⟨m0,w0⟩,J⟩:=h;refine wpAny_While (codeAny_whileLoop (λn s'=>∃O H',Oa X y O H' s'/\W n O H') ?_ m0 ⟨σ,H,I,w0⟩);rintro n s1 ⟨σ1,H1,I1,w1⟩;refine gm hp (Mb (hc y s1 σ1 H1 _ I1 (J n σ1 H1 w1)) λb s2 ⟨H2,I2,q2⟩=>?_);cases b with
 |true=>
  obtain⟨N,hN,q2⟩:=q2;rw[if_pos rfl];refine gm hp (Mb (hb y s2 σ1 H2 _ I2 q2) λf s3 q3=>?_);cases f with
  |next=>
   obtain⟨j,F,I3,n3⟩:=q3;obtain⟨Z,Y,R⟩:=hN j F n3;exact⟨Z,Y,j,F,I3,R⟩
  |cont=>
   obtain⟨j,F,I3,n3⟩:=q3;obtain⟨Z,Y,R⟩:=hN j F n3;exact⟨Z,Y,j,F,I3,R⟩
  |brk=>exact q3
  |ret v=>exact q3
 |false=>
  rw[if_neg Ld];exact Tr ⟨σ1,H2,I2,q2⟩

structure It where
 go:Nat->Hp->Prop
 yld:Nat->Hp->V->Hp->Prop
 stop:Nat->Hp->Prop
def FpOk  (X:Cx)(pins:List (Ba×Obj))(H:Hp)(b:Ba):Prop:=
 H b=Aa/\b≠X.env.locals/\b∉X.fs/\(b∈X.ex\/X.s₀.heap.objs.size<=b)/\(∀x c,X.env.cells.lookup x=ia c->c≠b)/\∀p∈X.pn++pins,p.1≠b
def Oa.fpOk    {y:St}{b:Ba}(I:Oa X pins y H s)(j:s.heap.objs.size<=b)(F:H' b=Aa):FpOk X pins H' b:=by
 refine⟨F,Nat.ne_of_gt (Wf I.lt j),I.nofs j,.inr (Lb I.sz j),λx c e z=>?_,λp J z=>?_⟩
 ·obtain⟨v,q⟩:=I.cell x c e;exact absurd (Wf q.lt (by rw[z];exact j)) (Rh _)
 ·exact absurd (Wf (Lc (I.pin p J).1) (by rw[z];exact j)) (Rh _)
structure Turn (P:Rb)(w:Db)(K:Nb)(tg:La)(J:It)(fp:List Ba)(it:Ba)(tn:Nat->Za->Prop):Prop where
 mem:it∈fp
 obj:∀i h,tn i h->∀b∈fp,∃o,h.get? b=ia o/\∀v,o.data≠.cell v
 keep:∀i h h',tn i h->(∀b∈fp,∀o,h.get? b=ia o->h'.get? b=ia o)->tn i h'
 item:∀(X:Cx),X.prog=P->X.w=w->X.K=K->X.calm=la->∀(i:Nat) (pins:List (Ba×Obj)) (s:Ja) (σ:St) (H:Hp) (E:Da->Ja->Prop),Oa X pins σ H s->(∀b∈fp,FpOk X pins H b)->tn i s.heap->J.go i H->
  wpAny (Ka P w) X.A (pyNext (.ref it)) (λr s1=>∃u,r=ia u/\
   wpAny (Ka P w) X.A (Sr tg (.ref it) u) (λ_ s2=>∃x H',Oa X pins σ H' s2/\RelV x u/\J.yld i H x H'/\tn (i+1) s2.heap/\∀b∈fp,H' b=Aa) E s1) E s
 done:∀(X:Cx),X.prog=P->X.w=w->X.K=K->X.calm=la->∀(i:Nat) (pins:List (Ba×Obj)) (s:Ja) (σ:St) (H:Hp) (E:Da->Ja->Prop),Oa X pins σ H s->(∀b∈fp,FpOk X pins H b)->tn i s.heap->J.stop i H->
  wpAny (Ka P w) X.A (pyNext (.ref it)) (λr s1=>r=Aa/\Oa X pins σ H s1) E s
 self:∀(A:Ub) (i:Nat) (s:Ja) (Q:Da->Ja->Prop) (E:Da->Ja->Prop),tn i s.heap->Q (.ref it) s->wpAny (Ka P w) A (pyIter (.ref it)) Q E s
abbrev TI:=St->Hp->(It->Hp->Prop)->Prop
def tL  (X:Cx)(pins:List (Ba×Obj))(F:St)(I:La)(R:It->Hp->Prop)(j:Da)(s2:Ja):Prop:=
 ∃(y:Ba) (fp:List Ba) (tn:Nat->Za->Prop) (J:It) (H':Hp),j=.ref y/\Oa X pins F H' s2/\Turn X.prog X.w X.K I J fp y tn/\tn 0 s2.heap/\(∀b∈fp,FpOk X pins H' b)/\R J H'
def PI  (X:Cx)(F y:La)(I:TI):Prop:=
 ∀(j:List (Ba×Obj)) (s:Ja) (σ:St) (H:Hp) (R:It->Hp->Prop),Oa X j σ H s->I σ H R->
  wpAny (Ka X.prog X.w) X.A (Xa y X.env) (λv s1=>wpAny (Ka X.prog X.w) X.A (pyIter v) (tL X j σ F R) X.xe s1) X.xe s

def Vt             (F : s.heap.get? it = ia o)(y : o.cls = .type n)(hd : o.data = .fields vs)
    (I : ["enumerate", "zip", "dict_itemiterator", "dict_reverseitemiterator", "odict_iterator", "itertools.zip_longest", "itertools.pairwise"].contains n = ua) (j : Q () s) : wpAny M A (Sr tg (.ref it) u) Q E s := by
  unfold Sr
  cases tg <;> first
    | exact Wb j
    | (cases u <;> first
        | exact Wb j
        | (refine ub (wpAny_load F ?_)
           rw [y, hd]
           show wpAny M A (if (["enumerate", "zip", "dict_itemiterator", "dict_reverseitemiterator", "odict_iterator", "itertools.zip_longest", "itertools.pairwise"].contains n && vs[0]? == ia (Me _)) = la then _ else _) Q E s
           rw [if_neg (by intro h; rw [I, Bool.false_and] at h; cases h)]
           exact Wb j))

noncomputable def vL  (K:Nb)(a:Ba):It:=
 ⟨λi H=>∃j x,Ae K H a j/\j[i]?=ia x,λi H x y=>y=H/\∀j,Ae K H a j->j[i]?=ia x,λi H=>∃j,Ae K H a j/\j.length<=i⟩
noncomputable def uL  (K:Nb)(a:Ba):It:=
 ⟨λi H=>∃j x,Bd K H a j/\j[i]?=ia x,λi H x y=>y=H/\∀j,Bd K H a j->j[i]?=ia x,λi H=>∃j,Bd K H a j/\j.length<=i⟩
noncomputable def Zr  (lo:Int)(n:Nat):It:=⟨λi _=>i<n,λi H x j=>j=H/\x=.int (lo+i),λi _=>n<=i⟩
def QV    {K:Nb} a it:Turn P w K tg (vL K a) [it] it (λi h=>h.IsListIter it a i) where
 mem:=by simp
 obj:=λi h st b y=>by
  have e:b=it:=by simpa using y
  subst e;obtain⟨o,e,c,d⟩:=st;exact⟨o,e,λv z=>by rw[d]at z;cases z⟩
 keep:=λi h R st k=>st.at λo e=>k it (by simp) o e
 item:=by
  intro X hP hw hK hc i j s σ H E I O st Z;subst hP hw hK;obtain⟨xs,x,J,hx⟩:=Z;obtain⟨xa,rv,p,hz⟩:=I.list J;obtain⟨u,hu,ru⟩:=rv.get hx;obtain⟨f0,f1,f2,f3,f4,Y⟩:=O it (by simp)
  refine wpAny_pyNext_list_item st p.isList (x:=u) (by simpa using hu) λR F sb=>?_
  have I1:Oa X j σ H { s with heap:=R }:=I.turned (t':=s.toks) (λb o y e=>(sb.2 b y).trans e) f0 f1 f3 f4 Y
  obtain⟨o,e,c,d⟩:=id F;exact⟨u,rfl,Vt (s:={ s with heap:=R }) e c d (by decide) ⟨x,H,I1,ru,⟨rfl,λys hy=>by rw[I.list_inj hy J];exact hx⟩,F,λb y=>(O b y).1⟩⟩
 done:=by
  intro X hP hw hK hc i j s σ H E I O st Z;subst hP hw hK;obtain⟨xs,J,hx⟩:=Z;obtain⟨xa,rv,p,hz⟩:=I.list J;obtain⟨f0,f1,f2,f3,f4,Y⟩:=O it (by simp)
  have hl:=rv.length;exact wpAny_pyNext_list_end (I.ok.hd hc) st p.isList (by simp;lia) λR eb=>⟨rfl,I.turned (t':=s.toks) (λb o y e=>eb b o y e) f0 f1 f3 f4 Y⟩
 self:=λ_ _ _ _ _ st h=>wpAny_pyIter_listiter st h
def qV    {K:Nb} a it:Turn P w K tg (uL K a) [it] it (λi h=>h.IsTupleIter it a i) where
 mem:=by simp
 obj:=λi h st b F=>by
  have e:b=it:=by simpa using F
  subst e;obtain⟨o,e,c,d⟩:=st;exact⟨o,e,λv z=>by rw[d]at z;cases z⟩
 keep:=λi h Y st k=>st.at λo e=>k it (by simp) o e
 item:=by
  intro X hP hw hK hc i j s σ H E I R st hg;subst hP hw hK;obtain⟨xs,x,O,hx⟩:=hg;obtain⟨y,rv,p,hz⟩:=I.tuple O;obtain⟨u,hu,ru⟩:=rv.get hx;obtain⟨f0,f1,f2,f3,f4,Z⟩:=R it (by simp)
  refine wpAny_pyNext_tuple_item st (show s.heap.IsTuple a y.toArray from p) (x:=u) (by simpa using hu) λY J sb=>?_
  have I1:Oa X j σ H { s with heap:=Y }:=I.turned (t':=s.toks) (λb o F e=>(sb.2 b F).trans e) f0 f1 f3 f4 Z
  obtain⟨o,e,c,d⟩:=id J;exact⟨u,rfl,Vt (s:={ s with heap:=Y }) e c d (by decide) ⟨x,H,I1,ru,⟨rfl,λys hy=>by rw[I.tuple_inj hy O];exact hx⟩,J,λb F=>(R b F).1⟩⟩
 done:=by
  intro X hP hw hK hc i j s σ H E I R st hg;subst hP hw hK;obtain⟨xs,O,hx⟩:=hg;obtain⟨y,rv,p,hz⟩:=I.tuple O;obtain⟨f0,f1,f2,f3,f4,Z⟩:=R it (by simp)
  have hl:=rv.length;exact wpAny_pyNext_tuple_end (I.ok.hd hc) st (show s.heap.IsTuple a y.toArray from p) (by simp;lia) λY eb=>⟨rfl,I.turned (t':=s.toks) (λb o F e=>eb b o F e) f0 f1 f3 f4 Z⟩
 self:=λ_ _ _ _ _ st h=>wpAny_pyIter_tupleiter st h
def pV    {K:Nb} it lo n:Turn P w K tg (Zr lo n) [it] it (λi h=>IsRangeIter h it (lo+(i:Nat)*1) ((n:Int)-(i:Nat)) 1) where
 mem:=by simp
 obj:=λi h st b y=>by
  have e:b=it:=by simpa using y
  subst e;exact⟨_,st,λv z=>by
   have z':Data.fields _=Data.cell v:=z;cases z'⟩
 keep:=λi h O st k=>k it (by simp) _ st
 item:=by
  intro X hP hw hK hc i j s σ H E I J st Y;subst hP hw hK;obtain⟨f0,f1,f2,f3,Z,R⟩:=J it (by simp)
  have W:=Walks.range (prog:=X.prog) (w:=X.w) (I.ok.hd hc) it lo 1 n;refine W.item i s _ _ Y st λv O tk hv F kk=>?_;obtain⟨t,rfl⟩:=hv;have I1:Oa X j σ H { s with heap:=O,toks:=tk }:=I.turned (λb o y e=>kk b o (by simpa using y) e) f0 f1 f3 Z R
  refine⟨_,rfl,Vt (s:={ s with heap:=O,toks:=tk }) (n := "range_iterator") F rfl rfl (by decide) ⟨.int (lo+i),H,I1,⟨t,?_⟩,⟨rfl,rfl⟩,F,λb y=>(J b y).1⟩⟩
  rw[Int.mul_one]
 done:=by
  intro X hP hw hK hc i j s σ H E I J st Y;subst hP hw hK;obtain⟨f0,f1,f2,f3,Z,R⟩:=J it (by simp)
  exact wpAny_pyNext_range_end (I.ok.hd hc) st (by have:n<=i:=Y;lia) λO eb=>⟨rfl,I.turned (t':=s.toks) (λb o y e=>eb b o y e) f0 f1 f3 Z R⟩
 self:=λ_ _ _ _ _ st h=>wpAny_pyIter_rangeiter st h
section
variable {X:Cx}{tg:La}
def HE   {F:St}{lo j:Int}(I:Oa X pins F H s)(Z:-(2 ^ 62)<=lo)(J:lo<2 ^ 62)(h3:-(2 ^ 62)<=j)(O:j<2 ^ 62)
  (q:R (Zr lo (j-lo).toNat) H):wpAny (Ka X.prog X.w) X.A (pyIter (.ref s.heap.objs.size)) (tL X pins F tg R) E { s with heap:=s.heap.push { cls:=.type "range",data:=.fields #[.int lo t,.int j u,.int 1 v] },toks:=tk }:=by
 refine wpAny_pyIter_range (IsRange.new ..) (small_one Z J h3 O) ?_;have y:Oa X pins F H { s with heap:=s.heap.push { cls:=.type "range",data:=.fields #[.int lo t,.int j u,.int 1 v] },toks:=tk }:=I.kept λb o e=>Nc _ e
 refine⟨(s.heap.push { cls:=.type "range",data:=.fields #[.int lo t,.int j u,.int 1 v] }).objs.size,[(s.heap.push { cls:=.type "range",data:=.fields #[.int lo t,.int j u,.int 1 v] }).objs.size],_,_,H,rfl,
  y.kept (t':=tk) λb o e=>Nc _ e,pV _ lo (j-lo).toNat,?_,λb hb=>?_,q⟩
 ·have e1:lo+((0:Nat):Int)*1=lo:=by simp
  have Y:(((j-lo).toNat:Nat):Int)-((0:Nat):Int)=iL lo j 1:=by rw[rangeSize_one];split<;>lia
  show IsRangeIter _ _ (lo+((0:Nat):Int)*1) ((((j-lo).toNat:Nat):Int)-((0:Nat):Int)) 1;rw[e1,Y];exact Df _ rfl
 ·have e:b=(s.heap.push { cls:=.type "range",data:=.fields #[.int lo t,.int j u,.int 1 v] }).objs.size:=by simpa using hb
  subst e;exact y.fpOk (Fb _) (y.hok.fresh (Fb _))
def aN  (J:TA):TI:=λI H R=>J I H λy F=>∃j:Int,y=[.int j]/\-(2 ^ 62)<=j/\j<2 ^ 62/\R (Zr 0 j.toNat) F
def cN  (J:TA):TI:=λI H R=>J I H λy F=>∃i j:Int,y=[.int i,.int j]/\(-(2 ^ 62)<=i/\i<2 ^ 62/\-(2 ^ 62)<=j/\j<2 ^ 62)/\R (Zr i (j-i).toNat) F
def HU {a:La}{F:TA}{p pos:Pos}(O:Gl X "range")(J:X.mg "range" = Aa)(ha:PA X [a] F)(hs:gc [a] X.env=[(ua,Xa a X.env)]:=by rfl):PI X tg (.Call (.Name "range" p) [a] [] pos) (aN F):=by
 intro y s Z H R I h;refine Call_ (Pj I O J To (Io (Mb (ha pos y s Z H _ I h) λus s1 ⟨vs,H1,Y,r1,q1⟩=>?_) hs rfl));obtain⟨j,e,q1,q2,q⟩:=q1;subst e;cases r1 with
 |cons r rr=>
  cases rr;obtain⟨t,rfl⟩:=r;exact call_range_1 (HE Y (by lia) (by lia) q1 q2 (by simpa using q))
def IU {a b:La}{J:TA}{p pos:Pos}(Z:Gl X "range")(Y:X.mg "range" = Aa)(ha:PA X [a,b] J)(hs:gc [a,b] X.env=[(ua,Xa a X.env),(ua,Xa b X.env)]:=by rfl)(y:gc [b] X.env=[(ua,Xa b X.env)]:=by rfl) :
  PI X tg (.Call (.Name "range" p) [a,b] [] pos) (cN J):=by
 intro F s σ H R I h;refine Call_ (Pj I Z Y To (Io (Mb (ha pos F s σ H _ I h) λus s1 ⟨vs,H1,I1,r1,q1⟩=>?_) (by rw[hs,y]) (by rw[y];rfl)))
 obtain⟨i,j,e,⟨q1,q2,q3,q4⟩,q⟩:=q1;subst e;cases r1 with
 |cons r rr=>
  cases rr with
  |cons O rr=>
   cases rr;obtain⟨t,rfl⟩:=r;obtain⟨t',rfl⟩:=O;exact call_range_2 (HE I1 q1 q2 q3 q4 q)

def tFor  (Z:TI)(g:TG)(tb:TS):TS:=λD j H=>Z j H λJ Y=>∃W:Nat->Nat->St->Hp->Prop,(∃m,W 0 m j Y)/\∀i m j H,W i m j H->
 (J.stop i H/\D.nx j H)\/(J.go i H/\∃N:St->Hp->Prop,(∀y F,N y F->∃O,O<m/\W (i+1) O y F)/\∀x F,J.yld i H x F->g x j F λI R=>tb { D with nx:=N,ct:=N,bk:=D.nx } I R)
noncomputable def Jq  (j:List Ba)(h:Za):List (Ba×Obj):=j.filterMap λb=>(h.get? b).map λo=>(b,o)
def bv      (y:b∈j)(e:h.get? b=ia o):(b,o)∈Jq j h:=List.mem_filterMap.mpr ⟨b,y,by rw[e];rfl⟩
def VU     (I:p∈Jq j h):p.1∈j/\h.get? p.1=ia p.2:=by
 obtain⟨b,F,e⟩:=List.mem_filterMap.mp I;cases q:h.get? b with
 |none=>rw[q]at e;cases e
 |some o=>
  rw[q]at e;have y:(b,o)=p:=Nd e;subst y;exact⟨F,q⟩
def Oa.pinned   {F:St}(I:Oa X pins F H s)(R:∀b∈j,FpOk X pins H b)(Z:∀b∈j,∃o,s.heap.get? b=ia o/\∀v,o.data≠.cell v):Oa X (pins++Jq j s.heap) F H s:=
 I.pins_of λp hp=>(Ma.mp hp).elim (λz=>I.pin p (Uf _ z)) λz=>by
  obtain⟨J,e⟩:=VU z;obtain⟨O,f1,Y,_⟩:=R p.1 J;obtain⟨o,y,d⟩:=Z p.1 J;rw[e]at y;cases y;exact⟨e,O,f1,Y,d⟩
def Oa.unpinned   {j:St}(I:Oa X (pins++F) j H s):Oa X pins j H s:=I.pins_of λp y=>I.pin p (Uf _ (Sf _ y))
def EQ {O:La}{body:List Qa}{wi:TI}{g:TG}{tb:TS}{pos:Pos}(hp:aj (Ka X.prog X.w) X.A X.env X.xe)(hc:X.calm=la)(hi:PI X tg O wi)(hg:PG X tg g)(R:Ce X body tb)
  (hs:∀x,Oh O X.env x=pure x:=by intro _;rfl):PS X (.For tg O body [] pos) (tFor wi g tb):=by
 intro j s σ H D I h;refine wpAny_For (Mb (hi j s σ H _ I h) λv s1 h1=>Mb h1 λxb s2 h2=>?_) hs;obtain⟨it,fp,tn,J,H2,e,I2,T,st2,f2,W,⟨m0,w0⟩,va⟩:=h2;subst e;have F:∀{H':Hp},(∀b∈fp,H' b=Aa)->∀b∈fp,FpOk X j H' b:=λhn b R=>⟨hn b R,(f2 b R).2⟩;refine codeAny_forLoop_any (λn s'=>∃i xa H',Oa X j xa H' s'/\tn i s'.heap/\(∀b∈fp,H' b=Aa)/\W i n xa H') ?_ m0 ⟨0,σ,H2,I2,st2,λb R=>(f2 b R).1,w0⟩;rintro n s3 ⟨i,σ3,H3,I3,Wo,fr3,w3⟩;rcases va i n σ3 H3 w3 with⟨ya,qn⟩|⟨go,N,hN,step⟩
 ·refine gm hp (Mb (T.done X rfl rfl rfl hc i j s3 σ3 H3 X.xe I3 (F fr3) Wo ya) λr s4 ⟨hr,I4⟩=>?_);subst hr;exact Tr ⟨σ3,H3,I4,qn⟩
 ·refine gm hp (Mb (T.item X rfl rfl rfl hc i j s3 σ3 H3 X.xe I3 (F fr3) Wo go) λr s4 ⟨u,hr,h4⟩=>?_);subst hr;refine gm hp (Mb h4 λ_ s5 ⟨x,H5,I5,r5,y5,ja,ka⟩=>?_);have wa:=I5.pinned (F ka) (T.obj _ _ ja);refine gm hp (Mb (hg _ s5 σ3 H5 x u _ wa r5 (step x H5 y5)) λ_ s6 ⟨ha,H6,I6,q6⟩=>?_);refine gm hp (Mb (R _ s6 ha H6 _ I6 q6) λf s7 q7=>?_);have za:∀{y:St} {Y:Hp},Oa X (j++Jq fp s5.heap) y Y s7->N y Y->∃m,m<n/\∃i xa H',Oa X j xa H' s7/\tn i s7.heap/\(∀b∈fp,H' b=Aa)/\W i m xa H':=λ{y Y} Z n7=>by
   obtain⟨m',hm,w7⟩:=hN y Y n7;refine⟨m',hm,i+1,y,Y,Z.unpinned,T.keep _ _ _ ja λb R o e=>(Z.pin (b,o) (Uf _ (Uf _ (bv R e)))).1,λb R=>?_,w7⟩;obtain⟨o,e,d⟩:=T.obj _ _ ja b R;exact(Z.pin (b,o) (Uf _ (Uf _ (bv R e)))).2.1
  cases f with
  |next=>obtain⟨y,Y,Z,n7⟩:=q7;exact za Z n7
  |cont=>obtain⟨y,Y,Z,n7⟩:=q7;exact za Z n7
  |brk=>obtain⟨y,Y,Z,q7⟩:=q7;exact⟨y,Y,Z.unpinned,q7⟩
  |ret v=>obtain⟨x7,y,Y,Z,r7,q7⟩:=q7;exact⟨x7,y,Y,Z.unpinned,r7,q7⟩
end


abbrev R2:=V->V->Hp->VK->Prop
def Cc  (X:Cx)(f:Da->Da->Sem Da)(r:R2):Prop:=
 ∀(j:List (Ba×Obj)) (s:Ja) (σ:St) (H:Hp) (x y:V) (v u:Da) (Q:VK),Oa X j σ H s->RelV x v->RelV y u->r x y H Q->
  wpAny (Ka X.prog X.w) X.A (f v u) (EP X j σ Q) X.xe s
def lB  (X:Cx)(f:Da->Sem Da)(r:V->Hp->VK->Prop):Prop:=
 ∀(j:List (Ba×Obj)) (s:Ja) (σ:St) (H:Hp) (x:V) (v:Da) (Q:VK),Oa X j σ H s->RelV x v->r x H Q->
  wpAny (Ka X.prog X.w) X.A (f v) (EP X j σ Q) X.xe s
def mf  (X:Cx)(f:Da)(r:List V->Hp->VK->Prop):Prop:=
 ∀(j:List (Ba×Obj)) (s:Ja) (σ:St) (H:Hp) (xs:List V) (us:List Da) (Q:VK),Oa X j σ H s->Vals xs us->r xs H Q->
  wpAny (Ka X.prog X.w) X.A (call f us) (EP X j σ Q) X.xe s
def TruR  (X:Cx)(r:V->Hp->(Bool->Hp->Prop)->Prop):Prop:=
 ∀(j:List (Ba×Obj)) (s:Ja) (σ:St) (H:Hp) (x:V) (v:Da) (Q:Bool->Hp->Prop),Oa X j σ H s->RelV x v->r x H Q->
  wpAny (Ka X.prog X.w) X.A (Ii v) (TP X j σ Q) X.xe s

def Ms  (r:R2)(J tb:TE):TE:=λj H Q=>J j H λx F=>tb j F λy I=>r x y I Q
def BL  (r:V->Hp->VK->Prop)(F:TE):TE:=λy H Q=>F y H λx j=>r x j Q
def rI  (C:Int->Int->Prop)(g:Int->Int->V):R2:=λx y H Q=>∃i j,x=.int i/\y=.int j/\C i j/\Q (g i j) H
def Xh  (g:Int->Int->V):R2:=λx y H Q=>∃i j,x=.int i/\y=.int j/\Q (g i j) H
def rU  (g:Int->V):V->Hp->VK->Prop:=λx H Q=>∃i,x=.int i/\Q (g i) H


def binT  (ha:PE X a ta)(hb:PE X b tb){F:St}{R:V->V->Hp->Prop}(I:Oa X pins F H s)
  (h:ta F H λx Y=>tb F Y λy j=>R x y j) {f:Da->Da->Sem Da}
  (hf:∀v u s2 x y j,Oa X pins F j s2->RelV x v->RelV y u->R x y j->wpAny (Ka X.prog X.w) X.A (f v u) Q X.xe s2) :
  wpAny (Ka X.prog X.w) X.A (Xa a X.env) (λv O=>wpAny (Ka X.prog X.w) X.A (Xa b X.env) (λu J=>wpAny (Ka X.prog X.w) X.A (f v u) Q X.xe J) X.xe O) X.xe s:=by
 refine Mb (ha pins s F H _ I h) λv s1 ⟨x,Y,I1,r1,q1⟩=>?_;refine Mb (hb pins s1 F Y _ I1 q1) λu s2 ⟨y,j,Z,r2,q2⟩=>?_;exact hf v u s2 x y j Z r1 r2 q2

def tM    (O:Cc X (tf op) r)(Z:PE X a ta)(hb:PE X b tb):PE X (.BinOp a op b pos) (Ms r ta tb):=by
 intro j s Y H Q I h;exact wpAny_BinOp (binT Z hb I h λv u s2 x y F J rx R q=>O j s2 Y F x y v u Q J rx R q)
def vM    (F:lB X (unaryOp op) r)(R:PE X a ta):PE X (.UnaryOp op a pos) (BL r ta):=by
 intro j s y H Q I h;exact UnaryOp_ (Mb (R j s y H _ I h) λv s1 ⟨x,J,O,r1,q1⟩=>F j s1 y J x v Q O r1 q1)
def xp    {g:Int->Int->Int}
  (F:∀i j t u (s:Ja) Q E ,C i j->Q (.int (g i j) s.toks) { s with toks:=s.toks+1 }->wpAny (Ka X.prog X.w) X.A (f (.int i t) (.int j u)) Q E s) :
  Cc X f (rI C λi j=>.int (g i j)):=by
 intro J s σ H x y v u Q I Z Y h;obtain⟨i,j,rfl,rfl,O,q⟩:=h;obtain⟨t,rfl⟩:=Z;obtain⟨R,rfl⟩:=Y;exact F i j t R s _ _ O ⟨.int (g i j),H,I.tok _,⟨_,rfl⟩,q⟩
def opI0   {g:Int->Int->Int}
  (F:∀i j t u (s:Ja) Q E ,Q (.int (g i j) s.toks) { s with toks:=s.toks+1 }->wpAny (Ka X.prog X.w) X.A (f (.int i t) (.int j u)) Q E s) :
  Cc X f (Xh λi j=>.int (g i j)):=by
 intro J s Z H x y v u Q I Y R h;obtain⟨i,j,rfl,rfl,q⟩:=h;obtain⟨t,rfl⟩:=Y;obtain⟨O,rfl⟩:=R;exact F i j t O s _ _ ⟨.int (g i j),H,I.tok _,⟨_,rfl⟩,q⟩
def opB0   {g:Int->Int->Bool}
  (F:∀i j t u s Q E ,Q (.bool (g i j)) s->wpAny (Ka X.prog X.w) X.A (f (.int i t) (.int j u)) Q E s) :
  Cc X f (Xh λi j=>.bl (g i j)):=by
 intro J s Z H x y v u Q I Y R h;obtain⟨i,j,rfl,rfl,q⟩:=h;obtain⟨t,rfl⟩:=Y;obtain⟨O,rfl⟩:=R;exact F i j t O s _ _ ⟨.bl (g i j),H,I,rfl,q⟩

def CDiv  (i j:Int):Prop:=0<j/\j<1073741824
def CPow  (i j:Int):Prop:=0<=j/\j<=1000000/\i.natAbs<2 ^ 64
def CMul  (i j:Int):Prop:=(-(2 ^ 64)<i/\i<2 ^ 64)\/(-(2 ^ 64)<j/\j<2 ^ 64)
def CMul.ok   (h:CMul i j):IntMulOk i j:=by
 rcases h with⟨F,y⟩|⟨F,y⟩
 ·exact .of_left (intBits_le_64 F y)
 ·exact .of_right (intBits_le_64 F y)
def vP  : Cc X (tf .Add) (Xh λi j=>.int (i+j)):=opI0 λ_ _ _ _ _ _ _ q=>add_int q
def GO  : Cc X (tf .Sub) (Xh λi j=>.int (i-j)):=opI0 λ_ _ _ _ _ _ _ q=>sub_int q
def CO  : Cc X (tf .Mult) (rI CMul λi j=>.int (i*j)):=xp λ_ _ _ _ _ _ _ y q=>mul_int q y.ok
def SQ  : Cc X (tf .FloorDiv) (rI CDiv λi j=>.int (i/j)):=xp λi j _ _ _ _ _ y q=>by
 have I:(0:Int)<j:=y.1;have F:j<1073741824:=y.2;exact floordiv_int (by lia) (by rw[Int.fdiv_eq_ediv_of_nonneg i (by lia)];exact q) (.inl (PyProof.noPylong_small (by lia)))
def BO  : Cc X (tf .Mod) (rI (λ_ j=>0<j) λi j=>.int (i%j)):=xp λi j _ _ _ _ _ y q=>by
 have F:(0:Int)<j:=y;exact mod_int' (by lia) (by rw[Int.fmod_eq_emod_of_nonneg i (by lia)];exact q)
def EO  : Cc X (tf .Pow) (rI CPow λi j=>.int (i ^ j.toNat)):=xp λ_ _ _ _ _ _ _ y q=>pow_int_small y.1 y.2.1 y.2.2 q
def UR  : Cc X (Zl .Add) (Xh λi j=>.int (i+j)):=opI0 λ_ _ _ _ _ _ _ q=>iadd_int q
def mR  : Cc X (Zl .Sub) (Xh λi j=>.int (i-j)):=opI0 λ_ _ _ _ _ _ _ q=>isub_int q
def VR  : Cc X (Zl .Mult) (rI CMul λi j=>.int (i*j)):=xp λ_ _ _ _ _ _ _ y q=>imul_int q y.ok
def unI   {g:Int->Int}
  (j:∀i t (s:Ja) Q E ,Q (.int (g i) s.toks) { s with toks:=s.toks+1 }->wpAny (Ka X.prog X.w) X.A (f (.int i t)) Q E s) :
  lB X f (rU λi=>.int (g i)):=by
 intro y s J H x v Q I F h;obtain⟨i,rfl,q⟩:=h;obtain⟨t,rfl⟩:=F;exact j i t s _ _ ⟨.int (g i),H,I.tok _,⟨_,rfl⟩,q⟩
def OP  : lB X (unaryOp .USub) (rU λi=>.int (-i)):=unI λ_ _ _ _ _ q=>neg_int q

noncomputable def scal  : V->V->Bool
 |.non,.non=>la|.non,.int _=>la|.int _,.non=>la|.non,.bl _=>la|.bl _,.non=>la|.non,.str _=>la|.str _,.non=>la
 |.int _,.int _=>la|.bl _,.bl _=>la|.str _,.str _=>la|.byt _,.byt _=>la
 |.int _,.str _=>la|.str _,.int _=>la|.bl _,.str _=>la|.str _,.bl _=>la
 |_,_=>ua
def IL  : R2:=λx y H Q=>scal x y=la/\Q (.bl (decide (x=y))) H
def GL  : R2:=λx y H Q=>scal x y=la/\Q (.bl (!decide (x=y))) H

def iD   : decide (V.int i=V.int j)=(i==j):=by
 rw[Xj];simp
def pC   : decide (V.bl i=V.bl j)=(i==j):=by
 rw[Xj];simp
def jD   : decide (V.str i=V.str j)=(i==j):=by
 rw[Xj];simp
def fD   : decide (V.byt i=V.byt j)=(i.toList==j.toList):=by
 rw[Xj];cases i;cases j;simp

section
variable {X:Cx}{a b c:La}{ta tb tc:TE}{pos:Pos}
def Pd   {j:St}(I:Oa X pins j H s)(q:Q (.bl k) H)(e:k=k'):EP X pins j Q (.bool k') s:=by
 subst e;exact⟨.bl k,H,I,rfl,q⟩
def oN  : Cc X (ce .Eq) IL:=by
 intro Y s Z H x y v u Q I R F h;obtain⟨O,q⟩:=h;cases x with
 |non=>
  cases R;cases y with
  |non=>cases F;exact PySem.EqNone.eq_none_none (Pd I q (by simp))
  |bl j=>cases F;exact PySem.EqNone.eq_none_bool (Pd I q (by simp))
  |int j=>obtain⟨J,rfl⟩:=F;exact PySem.EqNone.eq_none_int (Pd I q (by simp))
  |str j=>obtain⟨J,rfl⟩:=F;exact PySem.EqNone.eq_none_str (Pd I q (by simp))
  |_=>exact absurd (show ua=la from O) Ld
 |bl i=>
  cases R;cases y with
  |non=>cases F;exact PySem.EqNone.eq_bool_none (Pd I q (by simp))
  |bl j=>cases F;exact eq_bool (Pd I q pC)
  |str j=>obtain⟨J,rfl⟩:=F;exact PySem.EqMixed.eq_bool_str (Pd I q (by simp))
  |_=>exact absurd (show ua=la from O) Ld
 |int i=>
  obtain⟨t,rfl⟩:=R;cases y with
  |non=>cases F;exact PySem.EqNone.eq_int_none (Pd I q (by simp))
  |int j=>obtain⟨J,rfl⟩:=F;exact eq_int (Pd I q iD)
  |str j=>obtain⟨J,rfl⟩:=F;exact PySem.EqMixed.eq_int_str (Pd I q (by simp))
  |_=>exact absurd (show ua=la from O) Ld
 |str i=>
  obtain⟨t,rfl⟩:=R;cases y with
  |non=>cases F;exact PySem.EqNone.eq_str_none (Pd I q (by simp))
  |bl j=>cases F;exact PySem.EqMixed.eq_str_bool (Pd I q (by simp))
  |int j=>obtain⟨J,rfl⟩:=F;exact PySem.EqMixed.eq_str_int (Pd I q (by simp))
  |str j=>obtain⟨J,rfl⟩:=F;exact eq_str (Pd I q jD)
  |_=>exact absurd (show ua=la from O) Ld
 |byt i=>
  obtain⟨t,rfl⟩:=R;cases y with
  |byt j=>obtain⟨J,rfl⟩:=F;exact PySem.W.eq_bytes (Pd I q fD)
  |_=>exact absurd (show ua=la from O) Ld
 |_=>cases y<;>exact absurd (show ua=la from O) Ld
def pM  : Cc X (ce .NotEq) GL:=by
 intro Y s Z H x y v u Q I R F h;obtain⟨O,q⟩:=h;cases x with
 |non=>
  cases R;cases y with
  |non=>cases F;exact PySem.EqNone.ne_none_none (Pd I q (by simp))
  |bl j=>cases F;exact PySem.EqNone.ne_none_bool (Pd I q (by simp))
  |int j=>obtain⟨J,rfl⟩:=F;exact PySem.EqNone.ne_none_int (Pd I q (by simp))
  |str j=>obtain⟨J,rfl⟩:=F;exact PySem.EqNone.ne_none_str (Pd I q (by simp))
  |_=>exact absurd (show ua=la from O) Ld
 |bl i=>
  cases R;cases y with
  |non=>cases F;exact PySem.EqNone.ne_bool_none (Pd I q (by simp))
  |bl j=>cases F;exact ne_bool (Pd I q (congrArg not pC))
  |str j=>obtain⟨J,rfl⟩:=F;exact PySem.EqMixed.ne_bool_str (Pd I q (by simp))
  |_=>exact absurd (show ua=la from O) Ld
 |int i=>
  obtain⟨t,rfl⟩:=R;cases y with
  |non=>cases F;exact PySem.EqNone.ne_int_none (Pd I q (by simp))
  |int j=>obtain⟨J,rfl⟩:=F;exact ne_int (Pd I q (congrArg not iD))
  |str j=>obtain⟨J,rfl⟩:=F;exact PySem.EqMixed.ne_int_str (Pd I q (by simp))
  |_=>exact absurd (show ua=la from O) Ld
 |str i=>
  obtain⟨t,rfl⟩:=R;cases y with
  |non=>cases F;exact PySem.EqNone.ne_str_none (Pd I q (by simp))
  |bl j=>cases F;exact PySem.EqMixed.ne_str_bool (Pd I q (by simp))
  |int j=>obtain⟨J,rfl⟩:=F;exact PySem.EqMixed.ne_str_int (Pd I q (by simp))
  |str j=>obtain⟨J,rfl⟩:=F;exact ne_str (Pd I q (congrArg not jD))
  |_=>exact absurd (show ua=la from O) Ld
 |byt i=>
  obtain⟨t,rfl⟩:=R;cases y with
  |byt j=>obtain⟨J,rfl⟩:=F;exact PySem.W.ne_bytes (Pd I q (congrArg not fD))
  |_=>exact absurd (show ua=la from O) Ld
 |_=>cases y<;>exact absurd (show ua=la from O) Ld

def oM  : Cc X (ce .Lt) (Xh λi j=>.bl (decide (i<j))):=opB0 λ_ _ _ _ _ _ _ q=>lt_int q
def nM  : Cc X (ce .LtE) (Xh λi j=>.bl (decide (i<=j))):=opB0 λ_ _ _ _ _ _ _ q=>le_int q
def qN  : Cc X (ce .Gt) (Xh λi j=>.bl (decide (j<i))):=opB0 λ_ _ _ _ _ _ _ q=>gt_int q
def pN  : Cc X (ce .GtE) (Xh λi j=>.bl (decide (j<=i))):=opB0 λ_ _ _ _ _ _ _ q=>ge_int q
def BU  : Cc X (ce .In) (λx y H Q=>∃i j,x=.str i/\y=.str j/\Q (.bl (!(Zv j i 0 j.length 1).isEmpty)) H):=by
 intro F s Y H x y v u Q I O J h;obtain⟨i,j,rfl,rfl,q⟩:=h;obtain⟨t,rfl⟩:=O;obtain⟨R,rfl⟩:=J;exact in_str (Pd I q rfl)

def dW  : Cc X (ce .NotIn) (λx y H Q=>∃i j,x=.str i/\y=.str j/\Q (.bl (!(!(Zv j i 0 j.length 1).isEmpty))) H):=by
 intro F s Y H x y v u Q I O J h;obtain⟨i,j,rfl,rfl,q⟩:=h;obtain⟨t,rfl⟩:=O;obtain⟨R,rfl⟩:=J;exact notIn_str (Pd I q rfl)
def Cc.or    (h:Cc X f r)(h':Cc X f r'):Cc X f (λx y H Q=>r x y H Q\/r' x y H Q):=by
 intro j s J H x y v u Q I O F q;rcases q with q|q
 ·exact h j s J H x y v u Q I O F q
 ·exact h' j s J H x y v u Q I O F q

def WQ    (R:Cc X (ce op) r)(ha:PE X a ta)(hb:PE X b tb)(O:Ev op b=ua):PE X (.Compare a [op] [b] pos) (Ms r ta tb):=by
 intro j s Z H Q I h;exact wpAny_Compare1 (binT ha hb I h λv u s2 x y F J rx Y q=>R j s2 Z F x y v u Q J rx Y q) O
def iC  (t:TE):TT:=λj H Q=>t j H λx y=>∃k,x=.bl k/\Q k y
def kR    (ho:Cc X (ce op) r)(ha:PE X a ta)(hb:PE X b tb)(Z:Ev op b=ua):PT X (.Compare a [op] [b] pos) (iC (Ms r ta tb)):=by
 intro j s F H Q I h;refine wpAny_isTrue_Compare1 (Mb (ha j s F H _ I h) λv s1 ⟨x,H1,I1,r1,q1⟩=>Mb (hb j s1 F H1 _ I1 q1) λu s2 ⟨y,R,Y,r2,q2⟩=>
  Mb (ho j s2 F R x y v u _ Y r1 r2 q2) λc s3 ⟨z,J,O,r3,k,e,q3⟩=>?_) Z
 subst e;cases r3;exact mj ⟨J,O,q3⟩
def aD  (r I:R2)(R tb Y:TE):TE:=λj H Q=>R j H λx Z=>tb j Z λy O=>r x y O λz F=>∃k,z=.bl k/\
 (if k=la then Y j F λw' J=>I y w' J Q else Q (.bl ua) F)
section
variable {op op':Js}{r r':R2}
def aT (Z:Cc X (ce op) r)(J:Cc X (ce op') r')(ha:PE X a ta)(hb:PE X b tb)(hc:PE X c tc)
  (hm:uv [op,op'] [b,c]=ua:=by with_unfolding_all rfl):PE X (.Compare a [op,op'] [b,c] pos) (aD r r' ta tb tc):=by
 intro j s F H Q I h;refine Compare_chain (Mb (ha j s F H _ I h) λv s1 ⟨x,H1,I1,r1,q1⟩=>chain_link (Mb (hb j s1 F H1 _ I1 q1) λu s2 ⟨y,H2,Y,r2,q2⟩=>
  Mb (Z j s2 F H2 x y v u _ Y r1 r2 q2) λd s3 ⟨z,O,R,r3,k,e,q3⟩=>?_)) hm
 subst e;cases r3;refine mj ?_;cases k with
 |false=>exact ite_ff ⟨.bl ua,O,R,rfl,q3⟩
 |true=>exact ite_tt (chain_last (Mb (hc j s3 F O _ R q3) λw' s4 ⟨z',H4,I4,r4,q4⟩=>J j s4 F H4 y z' u w' Q I4 r2 r4 q4))
def pU (Z:Cc X (ce op) r)(J:Cc X (ce op') r')(ha:PE X a ta)(hb:PE X b tb)(hc:PE X c tc)
  (hm:uv [op,op'] [b,c]=ua:=by with_unfolding_all rfl):PT X (.Compare a [op,op'] [b,c] pos) (iC (aD r r' ta tb tc)):=by
 intro j s F H Q I h;refine isTrue_chain (Mb (ha j s F H _ I h) λv s1 ⟨x,H1,I1,r1,q1⟩=>test_link (Mb (hb j s1 F H1 _ I1 q1) λu s2 ⟨y,H2,Y,r2,q2⟩=>
  Mb (Z j s2 F H2 x y v u _ Y r1 r2 q2) λd s3 ⟨z,O,R,r3,k,e,q3⟩=>?_)) hm
 subst e;cases r3;refine mj ?_;cases k with
 |false=>
  obtain⟨k',e',q'⟩:=q3;cases e';exact ite_ff ⟨O,R,q'⟩
 |true=>
  refine ite_tt (test_last (Mb (hc j s3 F O _ R q3) λw' s4 ⟨z',H4,I4,r4,q4⟩=>Mb (J j s4 F H4 y z' u w' _ I4 r2 r4 q4) λd' s5 ⟨z2,H5,I5,r5,k2,e2,q5⟩=>?_));subst e2;cases r5;exact mj ⟨H5,I5,q5⟩

end
def TruV  (K:Nb)(x:V)(H:Hp)(k:Bool):Prop:=
 match x with
 |.non=>k=ua
 |.bl b=>k=b
 |.int i=>k=(i != 0)
 |.str y=>y.length<=db/\k=((y.length:Int) != 0)
 |.byt y=>y.size<=db/\k=((y.size:Int) != 0)
 |.ref p=>(∃j,Ae K H p j/\k = !j.isEmpty)\/(∃j,Bd K H p j/\k = !j.isEmpty)\/∃F,H p=ia (.dK F)/\k = !F.isEmpty
 |_=>False
def xV     (r:KV kvs vs):(!vs.isEmpty) = !kvs.isEmpty:=by
 cases r<;>rfl
def LF    (r:Vals xs j):(!j.toArray.isEmpty) = !xs.isEmpty:=by
 cases r<;>simp
def Kn  : (db:Nat)<2 ^ 63:=by rw[Og];decide
def xu  : TruR X (λx H Q=>∃k,TruV X.K x H k/\Q k H):=by
 intro za s σ H x v Q I R h;obtain⟨k,e,q⟩:=h;have hl:=Kn;have hs:db=16777216:=Og;cases x with
 |non=>
  cases R;have j:k=ua:=e;subst j;exact truthy_none ⟨H,I,q⟩
 |bl b=>
  cases R;have j:k=b:=e;subst j;exact mj ⟨H,I,q⟩
 |int i=>
  obtain⟨t,rfl⟩:=R;have j:k=(i != 0):=e;subst j;exact PySem.P.truthy_int ⟨H,I,q⟩
 |str y=>
  obtain⟨t,rfl⟩:=R;obtain⟨hy,j⟩:y.length<=db/\k=((y.length:Int) != 0):=e;subst j;exact PySem.P.truthy_str (by lia) ⟨H,I.tok _,q⟩
 |byt y=>
  obtain⟨t,rfl⟩:=R;obtain⟨hy,j⟩:y.size<=db/\k=((y.size:Int) != 0):=e;subst j;exact PySem.W.truthy_bytes (by lia) ⟨H,I.tok _,q⟩
 |ref p=>
  cases R;have j:(∃O,Ae X.K H p O/\k = !O.isEmpty)\/(∃O,Bd X.K H p O/\k = !O.isEmpty)\/∃F,H p=ia (.dK F)/\k = !F.isEmpty:=e;rcases j with⟨O,Y,j⟩|⟨O,Y,j⟩|⟨F,Y,j⟩
  ·subst j;obtain⟨xa,r,pl,hz⟩:=I.list Y;have J:=r.length;exact wpAny_truthy_list pl.isList (by simp only[Zc];lia) ⟨H,I.tok _,by rw[LF r];exact q⟩
  ·subst j;obtain⟨xa,r,pl,hz⟩:=I.tuple Y;have J:=r.length;exact truthy_tuple pl (by simp only[Zc];lia) ⟨H,I.tok _,by rw[LF r];exact q⟩
  ·subst j;obtain⟨hz,hS,Z,r,m⟩:F.length<=db/\(p==yf)=ua/\∃Z,KV F Z/\s.heap.DictOf (we X.prog X.w) p Z:=I.hok p _ Y;have J:F.length=Z.length:=Tv r;exact wpAny_truthy_dict hS m (by lia) ⟨H,I.tok _,by rw[xV r];exact q⟩
 |_=>exact(show False from e).elim
def qU  (Y:PE X a ta)(Z:∀j,se a X.env j=(do let v <- j;re a.pos;Ec [v] (Ii v))) :
  PT X a (λF H Q=>ta F H λx J=>∃k,TruV X.K x J k/\Q k J):=by
 intro y s F H Q I h;exact isTrue_plain (Mb (Y y s F H _ I h) λv s1 ⟨x,O,R,r1,q1⟩=>xu y s1 F O x v Q R r1 q1) (Z _)

def MV  : Cc X (tf .Add) (λx y H Q=>∃i j,x=.str i/\y=.str j/\i.length+j.length<=db/\Q (.str (i++j)) H):=by
 intro F s σ H x y v u Q I Y R h;obtain⟨i,j,rfl,rfl,O,q⟩:=h;obtain⟨t,rfl⟩:=Y;obtain⟨J,rfl⟩:=R;exact add_str (λJ Z=>⟨.str (i++j),H,I.tok _,⟨_,rfl⟩,q⟩) O
def WV  : Cc X (Zl .Add) (λx y H Q=>∃i j,x=.str i/\y=.str j/\i.length+j.length<=db/\Q (.str (i++j)) H):=by
 intro F s σ H x y v u Q I Y R h;obtain⟨i,j,rfl,rfl,O,q⟩:=h;obtain⟨t,rfl⟩:=Y;obtain⟨J,rfl⟩:=R;exact iadd_str (λJ Z=>⟨.str (i++j),H,I.tok _,⟨_,rfl⟩,q⟩) O
def nh    (r:Vals [x] us):∃u,us=[u]/\RelV x u:=by
 cases r with
 |cons r1 r2=>cases r2;exact⟨_,rfl,r1⟩
def XN    (r:Vals [x,y] us):∃u j,us=[u,j]/\RelV x u/\RelV y j:=by
 cases r with
 |cons r1 r2=>
  cases r2 with
  |cons r3 r4=>cases r4;exact⟨_,_,rfl,r1,r3⟩
def lU  (J:X.calm=la):mf X (.builtin "min") (λxs H Q=>∃i j,xs=[.int i,.int j]/\Q (.int (if j<i then j else i)) H):=by
 intro F s σ H xs O Q I r h;obtain⟨i,j,rfl,q⟩:=h;obtain⟨u,w',rfl,⟨t,rfl⟩,⟨R,rfl⟩⟩:=XN r;refine min_two_ints (I.ok.hd J) λZ Y k=>⟨_,H,I.kept k,?_,q⟩;by_cases y:j<i
 ·rw[if_pos y,if_pos y];exact⟨_,rfl⟩
 ·rw[if_neg y,if_neg y];exact⟨_,rfl⟩
def eU  : mf X (.type "int") (λxs H Q=>(∃i,xs=[.int i]/\Q (.int i) H)\/∃k,xs=[.bl k]/\Q (.int (if k then 1 else 0)) H):=by
 intro j s F H xs y Q I r h;rcases h with⟨i,rfl,q⟩|⟨k,rfl,q⟩
 ·obtain⟨u,rfl,t,rfl⟩:=nh r;exact call_int_int ⟨.int i,H,I,⟨_,rfl⟩,q⟩
 ·obtain⟨u,rfl,r1⟩:=nh r;cases r1;exact call_int_bool ⟨.int (if k then 1 else 0),H,I.tok _,⟨_,rfl⟩,q⟩
def LenV  (K:Nb)(x:V)(H:Hp)(n:Nat):Prop:=
 match x with
 |.str y=>y.length<=db/\n=y.length
 |.byt y=>y.size<=db/\n=y.size
 |.ref p=>(∃j,Ae K H p j/\n=j.length)\/∃j,Bd K H p j/\n=j.length
 |_=>False
def vT  : mf X (.builtin "len") (λxs H Q=>∃x n,xs=[x]/\LenV X.K x H n/\Q (.int n) H):=by
 intro xa s σ H xs us Q I r h;obtain⟨x,n,rfl,e,q⟩:=h;obtain⟨u,rfl,Z⟩:=nh r;have hl:=Kn;have hs:db=16777216:=Og;cases x with
 |str y=>
  obtain⟨t,rfl⟩:=Z;obtain⟨hy,F⟩:y.length<=db/\n=y.length:=e;subst F;exact len_str (by lia) ⟨.int _,H,I.tok _,⟨_,rfl⟩,q⟩
 |byt y=>
  obtain⟨t,rfl⟩:=Z;obtain⟨hy,F⟩:y.size<=db/\n=y.size:=e;subst F;exact PySem.W.len_bytes (by lia) ⟨.int _,H,I.tok _,⟨_,rfl⟩,q⟩
 |ref p=>
  cases Z;have F:(∃xs,Ae X.K H p xs/\n=xs.length)\/∃xs,Bd X.K H p xs/\n=xs.length:=e;rcases F with⟨xs,O,F⟩|⟨xs,O,F⟩
  ·subst F;obtain⟨R,J,Y,hz⟩:=I.list O;have j:=J.length;exact Calls.call_len_list Y.isList (by simp only[Zc];lia) ⟨.int xs.length,H,I.tok _,⟨_,by simp only[Zc];rw[j]⟩,q⟩
  ·subst F;obtain⟨R,J,Y,hz⟩:=I.tuple O;have j:=J.length;exact len_tuple Y (by simp only[Zc];lia) ⟨.int xs.length,H,I.tok _,⟨_,by simp only[Zc];rw[j]⟩,q⟩
 |_=>exact(show False from e).elim
end

structure ObjM (h:Za)(x dx C:Ba)(mA:Str->Option Da):Prop where
 obj:h.get? x=ia (dB C dx)
 ns:h.Ns1 dx mA
 ne:dx≠x

def mV  {h:Za}(n:h.Ns1 dx mA):∃od,h.get? dx=ia od/\∀name,pA name od=ia (mA name):=by
 obtain⟨o,F,Y,J,hd,hk,_,I⟩:=n;refine⟨o,J,λname=>?_⟩;have e:=I name;unfold nsFind findBy at e;rw[<- QA]at e;unfold pA;rw[hd];dsimp only;split
 ·rename_i y q;rw[q]at e;exact congrArg ia e
 ·rename_i q;rw[q]at e;have a:F.toList.any (·.refKey)=ua:=by
   rw[rK];intro y R;obtain⟨z,t,j⟩:=hk y (Array.mem_toList_iff.mp R);simp[si.refKey,j]
  have O:¬F.toList.any (·.refKey)=la:=by rw[a];exact Ld
  rw[if_neg O];exact congrArg ia e

def ObjM.look     (I:ObjM h x dx C mA):∃od,PySem.W.InstAt h x (dB C dx) C (ia od)/\∀name,pA name od=ia (mA name):=
 let ⟨od,y,j⟩:=mV I.ns
 ⟨od,⟨I.obj,rfl,rfl,y⟩,j⟩



noncomputable def putF  (f:Str)(v:V):List (Str×V)->List (Str×V)
 |[]=>[(f,v)]
 |(g,x)::r=>if g=f then (g,v)::r else (g,x)::putF f v r
theorem qG   f g v:∀fs ,(putF f v fs).lookup g=if g=f then ia v else fs.lookup g
 |[]=>by
  show yh g [(f,v)]=_;by_cases h:g=f
  ·have j:(g==f)=la:=beq_iff_eq.mpr h;simp only[yh,j,if_pos h]
  ·have j:(g==f)=ua:=beq_eq_false_iff_ne.mpr h;simp only[yh,j,if_neg h]
 |(k,x)::r=>by
  have y:=qG f g v r;rw[show putF f v ((k,x)::r)=(if k=f then (k,v)::r else (k,x)::putF f v r)from rfl]
  by_cases hk:k=f
  ·rw[if_pos hk];by_cases h:g=k
   ·have j:(g==k)=la:=beq_iff_eq.mpr h;simp only[yh,j,if_pos (h.trans hk)]
   ·have j:(g==k)=ua:=beq_eq_false_iff_ne.mpr h;simp only[yh,j,if_neg (λe:g=f=>h (e.trans hk.symm))]
  ·rw[if_neg hk];by_cases h:g=k
   ·have j:(g==k)=la:=beq_iff_eq.mpr h;simp only[yh,j,if_neg (λe:g=f=>hk (h.symm.trans e))]
   ·have j:(g==k)=ua:=beq_eq_false_iff_ne.mpr h;simp only[yh,j];exact y
def RelO.some_of    (r:RelO (ia v) o):∃u,o=ia u/\RelV v u:=by
 cases o with
 |none=>exact(show False from r).elim
 |some u=>exact⟨u,rfl,r⟩
def RelO.none_of   (r:RelO Aa o):o=Aa:=by
 cases o with
 |none=>rfl
 |some u=>exact(show False from r).elim

def TR  (j:Vd P w H h)(e:H a=ia (.ins C dx fs)):∃mA,ObjM h a dx C mA/\(∀f,RelO (fs.lookup f) (mA f))/\PySem.Within mA (fs.map (·.1))/\fs.length<=1000/\H dx=ia (.own a):=by
 obtain⟨d,z,F,y,mA,n,r,q⟩:=(show Od P w H h a (.ins C dx fs)from j a _ e);exact⟨mA,⟨y,n,F⟩,r,q,z,d⟩

structure uB (K:Nb)(C:Ba):Prop where
 pg:NJ K C Str.empty=la
 hd:PySem.W.hasDictIn K C=la
 po:PySem.W.plainOver K C=la
 sa:Mv K (.ref C) "__setattr__" = ia (ia (.builtin "object.__setattr__"))
def uB.get  {K:Nb}(c:uB K C) f:NJ K C f=la:=c.pg
structure Con (K:Nb)(C:Ba)(f:Str)(v:V)(u:Da):Prop where
 at_:Mv K (.ref C) f=ia (ia u)
 rel:RelV v u
 get:WJ K u "__get__" = ia Aa
 cp:PySem.W.copiedNames.contains f=ua

def WP          (y:Qh e f env (Xa e env)=Xa e env)
  (h:wpAny (Ka prog w) A (Xa e env) (λo j=>wpAny (Ka prog w) A (getAttr o f la) Q E j) E s):wpAny (Ka prog w) A (Xa (.Attribute e f pos) env) Q E s:=
 Attribute_any_ h (by rw[arm_eval_Attribute,y])



section
variable {X:Cx}{pins:List (Ba×Obj)}{σ:St}{H:Hp}{s:Ja}{A:Ub}{E:Da->Ja->Prop}{Q:Da->Ja->Prop}{c:Da}{b:Bool}
inductive TyOf (K:Nb)(H:Hp):V->Da->Prop where
 |non:TyOf K H .non (.type "NoneType")
 |bl (x:Bool):TyOf K H (.bl x) (.type "bool")
 |int (i:Int):TyOf K H (.int i) (.type "int")
 |str (x:Str):TyOf K H (.str x) (.type "str")
 |flt (x:UInt64):TyOf K H (.flt x) (.type "float")
 |lst {a:Ba} {xs:List V} (e:H a=ia (.lst xs)):TyOf K H (.ref a) (.type "list")
 |frz {a:Ba} {o:Obj} {xs:List V} (e:H a=ia (.frz o (.lst xs))):TyOf K H (.ref a) (.type "list")
 |tup {a:Ba} {xs:List V} (e:H a=ia (.tup xs)):TyOf K H (.ref a) (.type "tuple")
 |dK {a:Ba} {kvs:List (Sb×V)} (e:H a=ia (.dK kvs)):TyOf K H (.ref a) (.type "dict")
 |dT {a:Ba} {kvs:List (List Sb×V)} (e:H a=ia (.dT kvs)):TyOf K H (.ref a) (.type "dict")
 |ins {a C dx:Ba} {fs:List (Str×V)} (e:H a=ia (.ins C dx fs)) (cl:uB K C) (ha:Mv K (.ref C) "__class__" = ia (ia (.builtin "object.__class__")))
   (hn:WJ K (.builtin "object.__class__") "__get__" = ia (ia (.builtin "getset_descriptor.__get__"))) (htk:PySem.W.takesIn K (.builtin "object.__class__")=ia la)
   (hm:PySem.W.mroIn K C (.type "object")=ia la):TyOf K H (.ref a) (.ref C)
def iV    (I:Oa X pins σ H s)(F:RelV x u)(ty:TyOf X.K H x t)(e:Nv X.K t c=ia b)(h:∀tk,Q (.bool b) { s with toks:=tk }) :
  wpAny (Ka X.prog X.w) A (call (.builtin "isinstance") [u,c]) Q E s:=by
 cases ty with
 |non=>cases(show u=cf from F);exact Nh PySem.W.kitx_none I.kIn zh e (λz=>nomatch z) h
 |bl y=>cases(show u=bA y from F);exact Nh PySem.W.kitx_bool I.kIn zh e (λz=>nomatch z) h
 |int i=>obtain⟨t,q⟩:=(show ∃t,u=ur i t from F);cases q;exact Nh PySem.W.kitx_int I.kIn zh e (λz=>nomatch z) h
 |str y=>obtain⟨t,q⟩:=(show ∃t,u=Kv y t from F);cases q;exact Nh PySem.W.kitx_str I.kIn zh e (λz=>nomatch z) h
 |flt y=>obtain⟨t,q⟩:=(show ∃t,u=Da.float y t from F);cases q;exact Nh PySem.W.kitx_float I.kIn zh e (λz=>nomatch z) h
 |@lst a Z j=>
  cases(show u=Ie a from F);obtain⟨_,_,n,_,R⟩:=(show Od X.prog X.w H s.heap a (.lst Z)from I.hok a _ j);exact Nh VJ I.kIn ⟨_,R,rfl⟩ e (λz=>nomatch z) h
 |@frz a ob Z j=>
  cases(show u=Ie a from F);obtain⟨_,_,_,n,_,R⟩:=(show Od X.prog X.w H s.heap a (.frz ob (.lst Z))from I.hok a _ j);exact Nh VJ I.kIn ⟨_,R,rfl⟩ e (λz=>nomatch z) h
 |@tup a Z j=>
  cases(show u=Ie a from F);obtain⟨_,_,_,p⟩:=(show Od X.prog X.w H s.heap a (.tup Z)from I.hok a _ j);obtain⟨o,R,h2,_⟩:=p;exact Nh PySem.W.kitx_tuple I.kIn ⟨o,R,h2⟩ e (λz=>nomatch z) h
 |@dK a Y j=>
  cases(show u=Ie a from F);obtain⟨_,_,vs,_,p⟩:=(show Od X.prog X.w H s.heap a (.dK Y)from I.hok a _ j);obtain⟨o,es,ep,R,h2,_⟩:=p;exact Nh UJ I.kIn ⟨o,R,h2.1⟩ e (λz=>nomatch z) h
 |@dT a Y j=>
  cases(show u=Ie a from F);obtain⟨_,_,Z,_,o,es,ep,R,h2,_⟩:=(show Od X.prog X.w H s.heap a (.dT Y)from I.hok a _ j);exact Nh UJ I.kIn ⟨o,R,h2.1⟩ e (λz=>nomatch z) h
 |@ins a C dx fs j cl ha hn xa hm=>
  cases(show u=Ie a from F);obtain⟨mA,O,_⟩:=TR I.hok j;obtain⟨od,J,_⟩:=O.look;exact Nh (PySem.W.kitx_own (cl.get _) cl.hd ha hn xa hm) I.kIn J e (λz=>nomatch z) h
end

structure Room (k:Nat)(A:Ub):Prop where
 hd:A.handled=Aa
 dp:A.depth+k+20<recursionLimit
 un:A.units+8*k+200<bc
 gd:A.guards=ia []
def Room.mono    (r:Room k A)(h:j<=k):Room j A:=⟨r.hd,by have:=r.dp;lia,by have:=r.un;lia,r.gd⟩
def Room.deeper    (r:Room (k+1) A) env:Room k (A.deeper env):=
 ⟨r.hd,by have:=r.dp;show A.depth+1+k+20<_;lia,by have:=r.un;show A.units+3+8*k+200<_;lia,r.gd⟩
def zV  {A:Ub}:(A.under (.builtin "type.__call__" ⟨.ref C::us,kw⟩)).depth=A.depth+1:=by
 first|rfl|simp[uA,Li.weight,Li.isCreation,Li.isGuard,Li.isCaller,Li.frames,Wz,guardIds]
def AV  {A:Ub}:(A.under (.builtin "type.__call__" ⟨.ref C::us,kw⟩)).units=A.units+1:=by
 first|rfl|simp[uA,Li.cUnits,Li.frames,Wz]
def Room.make    (r:Room (k+1) A) C us kw:Room k (A.under (.builtin "type.__call__" ⟨.ref C::us,kw⟩)):=
 ⟨r.hd,by have:=r.dp;rw[zV];lia,by have:=r.un;rw[AV];lia,r.gd⟩
def Room.depth    (r:Room k A):A.depth<recursionLimit:=by have:=r.dp;lia
def Room.units    (r:Room k A):A.units+64<bc:=by have:=r.un;lia
def Room.units0    (r:Room k A):A.units<bc:=by have:=r.un;lia

def tNil  : TA:=λ_ H Q=>Q [] H
def NM  (I:TE)(O:TA):TA:=λj H Q=>I j H λx J=>O j J λy F=>Q (x::y) F
section
variable {X:Cx}{e:La}{es:List La}{te:TE}{t:TA}{pos:Pos}
def Ln  : PA X [] tNil:=λ_ _ _ _ H Q I h=>Calls.spliced_nil ⟨[],H,I,.nil,h⟩
def Vi (Z:PE X e te)(hr:PA X es t)(hs:gc (e::es) X.env=(ua,Xa e X.env)::gc es X.env:=by rfl):PA X (e::es) (NM te t):=by
 intro pos j s y H Q I h;rw[hs];show wpAny _ _ (spliced ((ua,Xa e X.env)::Xb pos (gc es X.env))) _ _ s;refine pK (Mb (Z j s y H _ I h) λu s1 ⟨x,R,Y,r1,q1⟩=>?_);exact Mb (hr pos j s1 y R _ Y q1) λus s2 ⟨F,J,O,r2,q2⟩=>⟨x::F,J,O,.cons r1 r2,q2⟩

def tTup  (t:TA):TE:=λF H Q=>t F H λy j=>y.length<=db/\∀p,j p=Aa->Q (.ref p) (upd j p (.tup y))
def tLst  (t:TA):TE:=λF H Q=>t F H λy j=>y.length<=db/\∀p,j p=Aa->Q (.ref p) (upd j p (.lst y))
def Lx   (h:PA X es t):PE X (.Tuple es x1 pos) (tTup t):=by
 intro j s Z H Q I Y;refine wpAny_Tuple_spliced (Mb (h pos j s Z H _ I Y) λJ s1 ⟨O,y,F,r,z,q⟩=>⟨by rw[<- r.length];exact z,?_⟩)
 have R:y s1.heap.objs.size=Aa:=F.hok.fresh (Fb _);refine⟨.ref s1.heap.objs.size,upd y s1.heap.objs.size (.tup O),F.laid (t':=s1.toks) (λb u e=>Nc _ e) (Fb _) ?_,rfl,q _ R⟩;exact⟨z,J,r,⟨_,Df _ rfl,rfl,_,rfl,rfl⟩⟩
def WC  (h:PA X es t):PE X (.List es pos) (tLst t):=by
 intro j s Z H Q I Y;refine wpAny_List_spliced (Mb (h pos j s Z H _ I Y) λJ s1 ⟨O,y,F,r,z,q⟩=>⟨by rw[<- r.length];exact z,?_⟩)
 have R:y s1.heap.objs.size=Aa:=F.hok.fresh (Fb _);refine⟨.ref s1.heap.objs.size,upd y s1.heap.objs.size (.lst O),F.laid (t':=s1.toks) (λb u e=>Nc _ e) (Fb _) ?_,rfl,q _ R⟩;exact⟨z,J,0,r,Df _ rfl⟩
end

abbrev Sp:=List V->Hp->VK->XK->Prop
abbrev qk:=List Env->Hp->Ja->XK->Da->Ja->Prop

structure Env0 (P:Rb)(w:Db)(K:Nb)(mg:Str->Option Da)(base:Za)(A:Ub)(outer:List Env)(s:Ja)(H:Hp):Prop where
 frames:A.frames=ia outer
 mod:Mod K mg base
 bs:∀b o,base.get? b=ia o->s.heap.get? b=ia o/\H b=Aa
 bsz:base.objs.size<=s.heap.objs.size
 funs:s.heap.FunFrames base outer
 frf:∀b∈Bf outer,H b=Aa
 hok:Vd P w H s.heap
 bare:ve s.gens
def CE  (outer:List Env)(P:Rb)(w:Db)(H:Hp)(s:Ja)(Q:VK)(u:Da)(j:Ja):Prop:=
 ∃v y,j.os=s.os/\ve j.gens/\Un (Bf outer) [] H y s.heap j.heap/\Vd P w y j.heap/\RelV v u/\Q v y
def CR  (CX:qk)(outer:List Env)(P:Rb)(w:Db)(H:Hp)(s:Ja)(Q:VK)(E:XK)(r:Result)(j:Ja):Prop:=
 match r with
 |.ok (.ret u)=>CE outer P w H s Q u j
 |.ok _=>False
 |.error e=>CX outer H s E e j
structure FnOk (P:Rb)(w:Db)(K:Nb)(mg:Str->Option Da)(base:Za)(CX:qk)(k:Nat)(f:Ba)(fd:Ul)(ps:List Str)(sp:Sp):Prop where
 len:∀vs H Q E,sp vs H Q E->vs.length=ps.length
 run:∀(A:Ub) (outer:List Env) (s:Ja) (H:Hp) (args:Args) (us:List Da) (vs:List V) (Q:VK) (E:XK),Room k A->Env0 P w K mg base A outer s H->Lf s fd args (ps.zip us)->Vals vs us->sp vs H Q E->
  codeAny (Ka P w) A (.call (.ref f) args) (CR CX outer P w H s Q E) s
def Env0.make    {K:Nb}(e:Env0 P w K mg base A outer s H) C us kw :
  Env0 P w K mg base (A.under (.builtin "type.__call__" ⟨.ref C::us,kw⟩)) outer s H:=⟨by first|exact e.frames|(simpa[uA,Li.envs,Wz,pushEnvs]using e.frames),e.mod,e.bs,e.bsz,e.funs,e.frf,e.hok,e.bare⟩

def Oa.env0  {j: St}(I:Oa X pins j H s):Env0 X.prog X.w X.K X.mg X.base X.A X.stack s H:=
 ⟨I.ok.frames,I.ok.mod,I.bs,Lb I.ok.bsz I.sz,I.stack,I.stkFree,I.hok,I.bare⟩
def Oa.after  {J: St}(I:Oa X pins J H s)(h:CE X.stack X.prog X.w H s Q u F):EP X pins J Q u F:=by
 obtain⟨v,R,Y,bare,un,y,r,q⟩:=h;obtain⟨O,g,d,t,j⟩:=F;obtain rfl:j=s.os:=Y;exact⟨v,R,I.call (h':=O) (g':=g) (d':=d) (t':=t) (ch:=[]) un y bare (λb z=>absurd z (by simp)),r,q⟩

def Binds  (K:Nb)(y:Ul)(ps:List Str)(j:List Da):Prop:=
 ∀(s:Ja) (us:List Da),K.In s.heap->(us++j).length=ps.length->Lf s y ⟨us,[]⟩ (ps.zip (us++j))
def Binds.all  {K:Nb}(h:∀us ,us.length=ps.length->zk fd ⟨us,[]⟩=pure (ps.zip us)):Binds K fd ps []:=λs us _ j=>by
 rw[im]at j ⊢;exact .of_eq (h us j)

section
variable {X:Cx}{CX:qk}{k:Nat}{f C:Ba}{fd:Ul}{ps:List Str}{sp:Sp}{dvs:List V}{ds:List Da}{E:XK}{x m:Str}{p pos apos:Pos}{e o:La}{es:List La}{ta:TE}{t:TA}

structure Mk (K:Nb)(C f:Ba):Prop where
 makes:PySem.W.makesIn K C=la
 init:Mv K (.ref C) "__init__" = ia (ia (.ref f))
 fn:PySem.W.isFn K (.ref f)=la
 kp:Lh K (.ref C)=la

end



structure FnScope (N P:List Str)(sc:Rc):Prop where
 kind:sc.kind=.function
 co:sc.isCoroutine=ua
 gen:sc.isGenerator=ua
 nd:N.Nodup
 pre:N.take P.length=P
 par:∀x∈P,sc.names.lookup x=ia .local\/sc.names.lookup x=ia .cell
 nofree:∀y∈sc.names,y.2≠.free

theorem wF  {kindOf:Str->Option Rf}:∀{binds } {m },(∀v,(x,v)∉binds)->Th kindOf binds m x=m x
 |[],_,_=>rfl
 |(n,v)::r,m,h=>by
  unfold Th;rw[wF λw j=>h w (Uc _ j)];split
  ·have:x≠n:=by rintro rfl;exact h v Cf
   simp[this]
  ·rfl
theorem uF  {kindOf:Str->Option Rf}:∀{binds } {m },(∀v,(x,v)∉binds)->Uh kindOf binds m x=m x
 |[],_,_=>rfl
 |(n,v)::r,m,h=>by
  unfold Uh;rw[uF λw j=>h w (Uc _ j)];split
  ·rfl
  ·have:x≠n:=by rintro rfl;exact h v Cf
   simp[this]
theorem vF  {kindOf:Str->Option Rf}:∀{P:List Str} {vs } {i:Nat} {m },P.Nodup->P[i]?=ia x->vs[i]?=ia v->kindOf x=ia .local->
  Th kindOf (P.zip vs) m x=ia v
 |[],_,_,_,_,h,_,_=>by simp at h
 |_::_,[],_,_,_,_,h,_=>by simp at h
 |p::P,w::vs,0,m,nd,h1,h2,hk=>by
  simp at h1 h2;subst h1;subst h2;show Th kindOf ((p,w)::P.zip vs) m p=_;unfold Th;rw[wF λv j=>(Ra.mp nd).1 (Lv j).1,if_pos hk];simp
 |p::P,w::vs,i+1,m,nd,h1,h2,hk=>by
  show Th kindOf ((p,w)::P.zip vs) m x=_;unfold Th;exact vF (i:=i) (Ra.mp nd).2 (by simpa using h1) (by simpa using h2) hk
theorem tF  {kindOf:Str->Option Rf}:∀{P:List Str} {vs } {i:Nat} {m },P.Nodup->P[i]?=ia x->vs[i]?=ia v->kindOf x≠ia .local->
  Uh kindOf (P.zip vs) m x=ia v
 |[],_,_,_,_,h,_,_=>by simp at h
 |_::_,[],_,_,_,_,h,_=>by simp at h
 |p::P,w::vs,0,m,nd,h1,h2,hk=>by
  simp at h1 h2;subst h1;subst h2;show Uh kindOf ((p,w)::P.zip vs) m p=_;unfold Uh;rw[uF λv j=>(Ra.mp nd).1 (Lv j).1,if_neg hk];simp
 |p::P,w::vs,i+1,m,nd,h1,h2,hk=>by
  show Uh kindOf ((p,w)::P.zip vs) m x=_;unfold Uh;exact tF (i:=i) (Ra.mp nd).2 (by simpa using h1) (by simpa using h2) hk

noncomputable def start  (N:List Str)(vs:List V):St:=vs.map ia++Qb (N.length-vs.length) Aa

noncomputable def cxOf  (CX:qk)(P:Rb)(w:Db)(K:Nb)(mg:Str->Option Da)(base:Za)(N:List Str)(j:Str)(scope:Rc)(f:Ba)(F:Da)(A:Ub)(outer:List Env)(s:Ja)(H:Hp)(E:XK):Cx where
 prog:=P
 w:=w
 K:=K
 mg:=mg
 base:=base
 A:=A.deeper (Tc j scope s.heap.objs.size f F)
 N:=N
 s₀:=s
 H₀:=H
 env:=Tc j scope s.heap.objs.size f F
 outer:=outer
 stack:=Tc j scope s.heap.objs.size f F::outer
 ex:=[]
 calm:=la
 fn:=λ_=>la
 pn:=[]
 xe:=λe I=>wpAny (Ka P w) (A.deeper (Tc j scope s.heap.objs.size f F)) (leaving (Tc j scope s.heap.objs.size f F) e) (λ_ y=>CX outer H s E e y) (λJ y=>CX outer H s E J y) I

def Ey  {j:Rc}(h:j.names.lookup x=ia .cell):∃c,(Gf n j.names []).lookup x=ia c:=by
 have q:=JA j.names n [] (.inl h);exact Option.isSome_iff_exists.mp q

def kF     {K:Nb} 
  (S:FnScope N ps scope) (hd:A.handled=Aa) (e0:Env0 P w K mg base A outer s H) (hl:vs.length=ps.length) (r:Vals vs us)
  (x:InCallC s s.heap.objs.size (Th (Tc F scope s.heap.objs.size f cd).kindOf (ps.zip us) λ_=>Aa) (Gf (s.heap.objs.size+1) scope.names []) (Uh (Tc F scope s.heap.objs.size f cd).kindOf (ps.zip us) λ_=>Aa) s1) :
  Oa (cxOf CX P w K mg base N F scope f cd A outer s H E) [] (start N vs) H s1:=by
 have xa:ps.length<=N.length:=by have:=congrArg iA S.pre;rw[kj]at this;lia
 obtain⟨Z,tk,rfl,hk⟩:=x.done;have I:∀b:Ba,b∉(cxOf CX P w K mg base N F scope f cd A outer s H E).ex:=λb z=>absurd (show b∈([]:List Ba)from z) (by simp)
 refine⟨⟨e0.mod,S.kind,rfl,rfl,Fb _,λy z c Z j=>?_,λy J=>?_,λy c _ h=>?_,λ_=>hd,Ub.frames_deeper e0.frames,.inr ⟨rfl,rfl⟩,λb z=>absurd z (I b),e0.bs,e0.bsz,λb _ _=>I b,λb z=>absurd z (I b),e0.funs,e0.frf⟩,
  rfl,e0.bare,Un.kept hk,⟨_,x.toInCall.ns,λi y v Z j h3=>?_⟩,λy c h=>⟨_,x.cell y c h⟩,e0.hok.fresh (Fb _),λy c h=>?_,λp R=>absurd (show p∈([]:List (Ba×Obj))from R) (by simp),e0.hok.kept hk,?_⟩
 ·exact name_of_addr x.apart (Bg Z) (Bg j)
 ·have J:scope.names.lookup y=ia .cell\/scope.names.lookup y=ia .free:=J;rcases J with J|J
  ·exact Ey J
  ·exact absurd rfl (S.nofree _ (Bg J))
 ·exact Ei (x.above y c (Bg h))
 ·have Y:i<vs.length:=by
   unfold start at j;by_cases Y:i<vs.length
   ·exact Y
   ·rw[Vr (by simpa using Y)]at j
    rw[HK]at j;split at j<;>cases j
  have ha:vs[i]?=ia v:=by
   unfold start at j;rw[Zj (by simpa using Y),Dd]at j
   cases e:vs[i]? with
   |none=>rw[e]at j;cases j
   |some a=>rw[e]at j;cases j;rfl
  obtain⟨u,hu,rv⟩:=r.get ha;have R:ps[i]?=ia y:=by
   rw[<- S.pre,List.getElem?_take_of_lt (by lia)];exact Z
  have O:ps.Nodup:=by rw[<- S.pre];exact S.nd.sublist (tK _ _)
  refine⟨u,rv,?_⟩;rcases S.par y (Hd R)with k|k
  ·exact .inl ⟨k,vF O R hu k⟩
  ·obtain⟨c,e⟩:=Ey (n:=s.heap.objs.size+1) k;refine .inr ⟨.inl k,c,e,?_⟩;have q:=x.cell y c e;rw[tF O R hu (by show scope.names.lookup y≠_;rw[k];decide)]at q
   exact q
 ·exact e0.hok.fresh (Ei (x.above y c (Bg h)))
 ·unfold start;show _=N.length;rw[Xf,Hb,List.length_replicate]
  lia

def WM     {K : Nb}{dV kV ja pm F ct oc : Da} 
       (lk : K.lookup f = ia ⟨oc, od, .func (Ag name j params body scope dV kV ja pm an F ct), ha⟩) (va : pj K F j = la) (S : FnScope N ps scope)
    (len : ∀ vs H Q E, sp vs H Q E -> vs.length = ps.length)
    (Y : ∀ (A : Ub) outer (s : Ja) H (vs : List V) Q E , Room k (A.deeper (Tc j scope s.heap.objs.size f F)) -> sp vs H Q E ->
      ∃ t, Ce (cxOf CX P w K mg base N j scope f F A outer s H E) body t /\ t { nx := λ_ R => Q .non R, rt := Q } (start N vs) H) :
    FnOk P w K mg base CX (k + 1) f (Ag name j params body scope dV kV ja pm an F ct) ps sp := by
  refine ⟨len, λA outer s H wa us vs Q E hr e0 hb r za => ?_⟩
  have hl := len _ _ _ _ za
  have KX : K.In s.heap := e0.mod.kin.keeps λb o e => (e0.bs b o e).1
  have ya : s.heap.NoLimit := e0.mod.nolimit.keeps λb o e => (e0.bs b o e).1
  have Z : ∀ y ∈ ps.zip us, scope.names.lookup y.1 = ia .local \/ (scope.names.lookup y.1 = ia .cell /\ ((Gf (s.heap.objs.size + 1) scope.names []).lookup y.1).isSome = la) := λ⟨n, v⟩ hy => by
    rcases S.par n (Lv hy).1 with q | q
    · exact .inl q
    · exact .inr ⟨q, JA _ _ _ (.inl q)⟩
  refine KJ hr.depth (KX _ _ lk) rfl S.co S.gen rfl (WK KX va) (hb _ _ _ _ ?_)
  refine YK S.kind Z λka he s1 x => ?_
  subst he
  refine ⟨ya.keeps x.toInCall.keep, codeAny_func ?_⟩
  obtain ⟨t, ht, hq⟩ := Y A outer s H vs Q E (hr.deeper _) za
  have I : Oa (cxOf CX P w K mg base N j scope f F A outer s H E) [] (start N vs) H s1 := kF S hr.hd e0 hl r x
  refine We (ht [] s1 (start N vs) H _ I hq) (λfl s' hs => ?_) λe s' hs => hs
  have xa : ∀ {O : St} {R : Hp} {v : V} {u : Da}, Oa (cxOf CX P w K mg base N j scope f F A outer s H E) [] O R s' -> RelV v u -> Q v R -> CE outer P w H s Q u s' :=
    λ{O R v u} J rv q => ⟨v, R, J.os, J.bare, J.base, J.hok, rv, q⟩
  cases fl with
  | ret u =>
    obtain ⟨v, O, R, J, rv, q⟩ := hs
    exact xa J rv q
  | next =>
    obtain ⟨O, R, J, q⟩ := hs
    exact xa (v := V.non) (u := cf) J rfl q
  | brk =>
    obtain ⟨_, _, _, q⟩ := hs
    exact Xl q
  | cont =>
    obtain ⟨_, _, _, q⟩ := hs
    exact Xl q
section
variable {X:Cx}{x:Str}{p pos:Pos}{e:La}{es:List La}{t:TA}{id T:String}{r:List V->Hp->VK->Prop}

def Lw  (r:List V->Hp->VK->Prop)(t:TA):TE:=λF H Q=>t F H λj y=>r j y Q
def Vu (R:mf X (.builtin id) r)(Z:Gl X x)(Y:X.mg x=Aa)(hv:Di x=ia (.builtin id))(ha:PA X (e::es) t)(hn:x ≠ "__name__" := by decide)(y:(x==("__debug__" : Str))=ua:=by decide)
  (he:gc (e::es) X.env=(ua,Xa e X.env)::gc es X.env:=by rfl) (F:(Xb pos (gc es X.env)).any (·.1)=ua:=by rfl):PE X (.Call (.Name x p) (e::es) [] pos) (Lw r t):=by
 intro j s J H Q I h;refine yo (Pj I Z Y hv ?_ hn y);exact PyProof.Rows.callWith_builtin1 (Mb (ha pos j s J H _ I h) λO s1 ⟨vs,H1,I1,r1,q1⟩=>R j s1 J H1 vs O Q I1 r1 q1) he F
def Zu (R:mf X (.type T) r)(Z:Gl X x)(Y:X.mg x=Aa)(hv:Di x=ia (.type T))(ha:PA X (e::es) t)(hn:x ≠ "__name__" := by decide)(y:(x==("__debug__" : Str))=ua:=by decide)
  (he:gc (e::es) X.env=(ua,Xa e X.env)::gc es X.env:=by rfl) (F:(Xb pos (gc es X.env)).any (·.1)=ua:=by rfl):PE X (.Call (.Name x p) (e::es) [] pos) (Lw r t):=by
 intro j s J H Q I h;refine yo (Pj I Z Y hv ?_ hn y);exact Io (Mb (ha pos j s J H _ I h) λO s1 ⟨vs,H1,I1,r1,q1⟩=>R j s1 J H1 vs O Q I1 r1 q1) he F
end
end L2

namespace HT
open PySem PyProof.Rows

noncomputable def lexLt  : List Int->List Int->Bool
 |[],[]=>ua
 |[],_::_=>la
 |_::_,[]=>ua
 |x::xs,y::ys=>if x=y then lexLt xs ys else decide (x<y)
def lexLt_cons   x y xs ys:lexLt (x::xs) (y::ys)=if x=y then lexLt xs ys else decide (x<y):=rfl
def lexLt_nil_nil  : lexLt [] []=ua:=rfl
def lexLt_cons_nil   x xs:lexLt (x::xs) []=ua:=rfl

section
open PySem.SeqAt
open PySem.AutoSeq1 (wpAny_loadPart')
open PySem.MeetsSeq PySem.MeetsSeq2 PySem.MeetsSeq3

end

section
variable {prog:Rb}{w:Db}{A:Ub}{E:Da->Ja->Prop}{s:Ja}

def cat_tup     (ht:Vh s.heap t vs.toArray)(hb:Vh s.heap b ws.toArray)(hv:vs≠[])
  (h1:ws=[]->Q (.ref t) s) (h2:ws≠[]->Q (.ref s.heap.objs.size) { s with heap:=s.heap.push { cls:=.type "tuple",data:=.seq (vs++ws).toArray } })
  (hsz:vs.length+ws.length<=db):wpAny (Ka prog w) A (tf .Add (.ref t) (.ref b)) Q E s:=by
 obtain⟨⟨cls,Z,data,sl⟩,O,hc,n,hd⟩:=id ht;obtain⟨⟨xa,y,Y,I⟩,j,F,n2,J⟩:=id hb;simp only at hc hd F J;subst hc hd F J;have e:vs.toArray++ws.toArray=(vs++ws).toArray:=by simp
 by_cases R:ws=[]
 ·exact Mz ⟨_,O,rfl⟩ ⟨_,j,rfl⟩ Vv Fv Jo Ko (Go _ _)
   (tuple_addW1 t b vs.toArray ws.toArray n n2 Z y sl I (by simpa using hv) (by simp[R])) ⟨O,j,h1 R⟩
 ·refine Mz ⟨_,O,rfl⟩ ⟨_,j,rfl⟩ Vv Fv Jo Ko (Go _ _)
   (tuple_addW2 t b vs.toArray ws.toArray n n2 Z y sl I (by simpa using hv) (by simpa using R) (by rw[Zc,Zc];exact hsz)) ⟨O,j,?_⟩
  rw[e];exact h2 R

noncomputable def sIx  (n d:Nat):Option Int->Nat
 |none=>d
 |some v=>if v<0 then (v+(n:Int)).toNat else min v.toNat n
def sIx_none   n d:sIx n d Aa=d:=rfl
def sIx_nat  (n d k:Nat):sIx n d (ia (k:Int))=min k n:=by
 show(if (k:Int)<0 then ((k:Int)+(n:Int)).toNat else min (k:Int).toNat n)=min k n
 rw[if_neg (by lia),wo]
def nQ   n d (hd:d<=n) o:sIx n d o<=n:=by
 cases o with
 |none=>exact hd
 |some v=>
  show(if v<0 then (v+(n:Int)).toNat else min v.toNat n)<=n
  by_cases j:v<0
  ·rw[if_pos j];lia
  ·rw[if_neg j];exact nA _ _
def DD   v (n d:Nat):(if v<0 then max (v+(n:Int)) 0 else min v (n:Int))=((sIx n d (ia v):Nat):Int):=by
 show(if v<0 then max (v+(n:Int)) 0 else min v (n:Int))=(((if v<0 then (v+(n:Int)).toNat else min v.toNat n):Nat):Int)
 by_cases j:v<0
 ·simp only[if_pos j];lia
 ·simp only[if_neg j];lia
def rV   lo j (n:Nat):Wr lo j 1 (n:Int)=(((sIx n 0 lo:Nat):Int),((sIx n n j:Nat):Int)):=by
 have y:¬((1:Int)<0):=by lia
 unfold Wr;simp only[y,if_false];refine Vj ?_ ?_
 ·cases lo with
  |none=>rfl
  |some v=>exact DD v n 0
 ·cases j with
  |none=>rfl
  |some v=>exact DD v n n
def nV  (i j:Nat):ck (i:Int) (j:Int) 1=j-i:=by
 unfold ck;have y:(1:Int)>0:=by lia
 simp only[y,if_true,Pz];split<;>lia
def Wq     (p:Oe v o)(h:Q o s):wpAny (Ka prog w) A (Tb.Slice.slicePartIndex v) Q E s:=by
 cases p with
 |none=>exact slicePart_none h
 |int i t=>exact slicePart_int h
def FI    {lo j:Option Int}{n:Nat}(hs:s.heap.IsSliceOf Y I J .none)(Z:Oe I lo)(R:Oe J j)
  (h:Q (((sIx n 0 lo:Nat):Int),1,sIx n n j-sIx n 0 lo) s):wpAny (Ka prog w) A (Bw (.ref Y) (pure (n:Int))) Q E s:=by
 obtain⟨os,y,O,F⟩:=id hs;unfold Bw kL;refine ub (ub (Kh y F (x:=I) rfl (ub (Kh y F (x:=J) rfl (ub (Kh y F (x:=.none) rfl (Wb ?_)))))));refine ub (slicePart_none ?_);show wpAny _ _ (if ((1:Int)==0)=la then _ else _) _ _ s
 rw[if_neg (by decide)]
 refine ub (Wq Z (ub (Wq R (ub (Wb ?_)))));show wpAny _ _ (match Wr lo j 1 (n:Int)with|(lo,j)=>pure (lo,(1:Int),ck lo j 1)) _ _ s
 rw[rV lo j n];show wpAny _ _ (pure (((sIx n 0 lo:Nat):Int),(1:Int),ck ((sIx n 0 lo:Nat):Int) ((sIx n n j:Nat):Int) 1)) _ _ s;rw[nV];exact Wb h
def iT  (xs:Array Da)(i k:Nat):((md k).filterMap λ(m:Nat)=>xs[((i:Int)+(m:Int)*1).toNat]?).toArray=((xs.toList.drop i).take k).toArray:=by
 have e:(λ(m:Nat)=>xs[((i:Int)+(m:Int)*1).toNat]?)=λm=>xs[i+m]?:=by
  funext m;have:((i:Int)+(m:Int)*1).toNat=i+m:=by lia
  rw[this]
 rw[e];have:=pick_run xs i k;rw[eK]at this;have j:((λx=>xs[x]?) ∘ λx=>i+x)=λm=>xs[i+m]?:=rfl;rw[j]at this;rw[this]

def getItem_tuple_cut     {lo y:Option Int}(F:Vh s.heap t items)(hs:s.heap.IsSliceOf Y vl vu .none)(pl:Oe vl lo)(Z:Oe vu y)
  (hw:¬(sIx items.size 0 lo=0/\sIx items.size items.size y=items.size))
  (h:Q (.ref s.heap.objs.size) { s with heap:=s.heap.push { cls:=.type "tuple",data:=.seq ((items.toList.drop (sIx items.size 0 lo)).take (sIx items.size items.size y-sIx items.size 0 lo)).toArray } })
  (hsz:items.size<=db):wpAny (Ka prog w) A (td (.ref t) (.ref Y)) Q E s:=by
 have j:sizeOk (.seq ((items.toList.drop (sIx items.size 0 lo)).take (sIx items.size items.size y-sIx items.size 0 lo)).toArray):=by
  show((items.toList.drop (sIx items.size 0 lo)).take (sIx items.size items.size y-sIx items.size 0 lo)).toArray.size<=db;rw[Zc,kj,EJ,Lo]
  lia
 have hj:sIx items.size items.size y<=items.size:=nQ _ _ (Fb _) y;obtain⟨os,J,I,xa⟩:=id hs;have O:s.TypeIs (.ref Y) "slice" := ⟨os,J,I⟩;unfold td
 try with_reducible refine cj ?_
 first|refine ub (Wb ?_)|skip
 refine ub (kA F.typeIs (by decide) ?_)
 refine ub (ow (name:=bj "__getitem__") F.typeIs vj
  (Kr vj F.typeIs eB ?_ (qA _ _)))
 show wpAny _ _ (iB (.ref t) >>= _) _ _ s;refine ub (fA F ?_);refine ub (Dr O ?_);rw[if_pos (by decide)]
 refine ub (FI hs pl Z ?_);have R:¬((((sIx items.size 0 lo:Nat):Int)==0&&(1:Int)==1&&(sIx items.size items.size y-sIx items.size 0 lo)==items.size)=la):=by
  intro q;rw[Be,Be]at q;have q1:((sIx items.size 0 lo:Nat):Int)=0:=eq_of_beq q.1.1;have q2:sIx items.size items.size y-sIx items.size 0 lo=items.size:=eq_of_beq q.2;exact hw ⟨by lia,by lia⟩
 show wpAny _ _ (if (((sIx items.size 0 lo:Nat):Int)==0&&(1:Int)==1&&(sIx items.size items.size y-sIx items.size 0 lo)==items.size)=la then _ else _) _ _ s
 rw[if_neg R,iT]
 first
  |exact ub (m:=ak _) (Ph (Wb ⟨_,rfl,Wb h⟩) j)
  |exact ub (m:=ak _) (Ph (ub (Wb (Wb ⟨_,rfl,Wb h⟩))) j)
  |exact ub (ub (m:=ak _) (Ph (Wb (Wb ⟨_,rfl,Wb h⟩)) j))
  |exact ub (ub (m:=ak _) (Ph (Wb ⟨_,rfl,Wb h⟩) j))
end
end HT

namespace L2
open PySem PySem.Spec PyProof.Rows

abbrev TO:=St->Hp->(Option Int->Hp->Prop)->Prop
def PO  (X:Cx)(e:Option La)(t:TO):Prop:=
 ∀(j:List (Ba×Obj)) (s:Ja) (σ:St) (H:Hp) (Q:Option Int->Hp->Prop),Oa X j σ H s->t σ H Q->
  wpAny (Ka X.prog X.w) X.A (evalPart e X.env) (λu F=>∃o y,Oa X j σ y F/\Oe u o/\Q o y) X.xe s
def fS  : TO:=λ_ H Q=>Q Aa H
def uO  (t:TE):TO:=λy H Q=>t y H λx j=>∃i,x=.int i/\Q (ia i) j


def dR  : PO X Aa fS:=by
 intro j s y H Q I h;rw[dA];exact Wb ⟨Aa,H,I,.none,h⟩
def eR  (h:PE X e te):PO X (ia e) (uO te):=by
 intro j s O H Q I F;rw[evalPart_some];refine Mb (h j s O H _ I F) λu s1 ⟨x,y,J,r1,q1⟩=>?_;obtain⟨i,rfl,q⟩:=q1;obtain⟨t,rfl⟩:=r1;exact⟨ia i,y,J,.int i t,q⟩

def dh  (X:Cx)(r:V->Option Int->Option Int->Hp->VK->Prop):Prop:=
 ∀(j:List (Ba×Obj)) (s:Ja) (σ:St) (H:Hp) (x:V) (v vl vu:Da) (lo hi:Option Int) (sl:Ba) (Q:VK),Oa X j σ H s->RelV x v->s.heap.IsSliceOf sl vl vu .none->Oe vl lo->Oe vu hi->r x lo hi H Q->
  ∃T y,uf (.type T) "__getitem__" = pure (ia (.builtin y))/\s.TypeIs v T/\wpAny (Ka X.prog X.w) X.A (td v (.ref sl)) (EP X j σ Q) X.xe s
def dh.or   (h:dh X r)(h':dh X r'):dh X (λx lo y H Q=>r x lo y H Q\/r' x lo y H Q):=by
 intro j s Y H x v R Z lo y O Q I rx F pl J q;rcases q with q|q
 ·exact h j s Y H x v R Z lo y O Q I rx F pl J q
 ·exact h' j s Y H x v R Z lo y O Q I rx F pl J q
def CL  (r:V->Option Int->Option Int->Hp->VK->Prop)(R:TE)(I J:TO):TE:=λj H Q=>R j H λx O=>I j O λl F=>J j F λu y=>r x l u y Q
def eT  {lo: Option La}(hr:dh X r)(he:PE X e te)(hl:PO X lo tl)(hu:PO X Y th):PE X (.Subscript e (.Slice lo Y Aa p2) pos) (CL r te tl th):=by
 intro j s F H Q I h;refine Vo (Mb (he j s F H _ I h) λv s1 ⟨x,H1,I1,r1,q1⟩=>?_);refine wpAny_Slice (Mb (hl j s1 F H1 _ I1 q1) λO s2 ⟨l,H2,I2,pl,q2⟩=>Mb (hu j s2 F H2 _ I2 q2) λJ y ⟨u,R,I3,Z,q3⟩=>?_);rw[dA];refine Wb ?_;have I4:Oa X j F R { y with heap:=y.heap.push { cls:=.type "slice",data:=.fields #[O,J,.none] } }:=I3.kept (t':=y.toks) λb ob q=>Nc _ q
 obtain⟨T,id,hT,ht,hg⟩:=hr j { y with heap:=y.heap.push { cls:=.type "slice",data:=.fields #[O,J,.none] } } F R x v O J l u y.heap.objs.size Q I4 r1 (je.new ..) pl Z q3;show wpAny (Ka X.prog X.w) X.A (Gv e (.Slice lo Y Aa p2) v (.ref y.heap.objs.size)) (EP X j F Q) X.xe { y with heap:=y.heap.push { cls:=.type "slice",data:=.fields #[O,J,.none] } }
 exact uk (ops:=[.ref y.heap.objs.size,v]) ht hT hg (by with_unfolding_all rfl)

def cutV  (xs:List V)(lo j:Option Int):List V:=(xs.drop (HT.sIx xs.length 0 lo)).take (HT.sIx xs.length xs.length j-HT.sIx xs.length 0 lo)
def BG  (xs:List V) lo hi:(cutV xs lo hi).length<=xs.length:=by
 unfold cutV;rw[kj,EJ]
 lia
def rSlT  (K:Nb):V->Option Int->Option Int->Hp->VK->Prop:=λx F y H Q=>∃a j,x=.ref a/\Bd K H a j/\
 ¬(HT.sIx j.length 0 F=0/\HT.sIx j.length j.length y=j.length)/\∀p,H p=Aa->Q (.ref p) (upd H p (.tup (cutV j F y)))
def vQ  : dh X (rSlT X.K):=by
 intro Y s σ H x v vl vu F O sl Q I rx hs pl pu h;obtain⟨a,y,rfl,hx,hw,q⟩:=h;cases rx;obtain⟨J,r,Z,R⟩:=I.tuple hx;have j:J.toArray.size=y.length:=by rw[Zc];exact r.length.symm
 refine⟨"tuple",_,vj.lookup,Z.typeIs,?_⟩;refine HT.getItem_tuple_cut Z hs pl pu (by rw[j];exact hw) ?_ (by rw[j];exact R)
 rw[j];refine⟨.ref s.heap.objs.size,_,I.laid (t':=s.toks) (o:=.tup (cutV y F O)) (λb ob q=>Nc _ q) (Fb _) ?_,rfl,q _ (I.hok.fresh (Fb _))⟩;exact⟨Lb (BG y F O) R,_,(r.drop (HT.sIx y.length 0 F)).take (HT.sIx y.length y.length O-HT.sIx y.length 0 F),TupD.new _ _⟩

def AM  (K:Nb):R2:=λx y H Q=>∃a b F j,x=.ref a/\y=.ref b/\Bd K H a F/\Bd K H b j/\F≠[]/\F.length+j.length<=db/\
 (j=[]->Q (.ref a) H)/\(j≠[]->∀p,H p=Aa->Q (.ref p) (upd H p (.tup (F++j))))
def Vals.nil_iff    (r:Vals xs us):us=[]↔xs=[]:=by
 cases r with
 |nil=>simp
 |cons _ _=>simp
def RQ  : Cc X (tf .Add) (AM X.K):=by
 intro J s σ H x y v u Q I rx Y h;obtain⟨a,b,O,ys,rfl,rfl,ha,hb,Z,F,q1,q2⟩:=h;cases rx;cases Y;obtain⟨xa,r1,p1,_⟩:=I.tuple ha;obtain⟨j,r2,R,_⟩:=I.tuple hb;refine HT.cat_tup p1 R (λz=>Z (r1.nil_iff.mp z)) (λz=>⟨.ref a,H,I,rfl,q1 (r2.nil_iff.mp z)⟩) (λz=>?_) (by rw[<- r1.length,<- r2.length];exact F)
 refine⟨.ref s.heap.objs.size,_,I.laid (t':=s.toks) (o:=.tup (O++ys)) (λb ob q=>Nc _ q) (Fb _) ?_,rfl,q2 (λw=>z (r2.nil_iff.mpr w)) _ (I.hok.fresh (Fb _))⟩;exact⟨by rw[Xf];exact F,_,r1.append r2,TupD.new _ _⟩

noncomputable def dg  (n:Nat)(i:Int):Option Nat:=if 0<=i then (if i<n then ia i.toNat else Aa) else if -(n:Int)<=i then ia (i+n).toNat else Aa
def atI  {y:Type}(xs:List y)(i:Int):Option y:=(dg xs.length i).bind λj=>xs[j]?
def VD     (h:dg n i=ia j):wv i n=ia j/\j<n/\-(n:Int)<=i/\i<n:=by
 unfold dg at h;by_cases h0:0<=i
 ·rw[if_pos h0]at h;by_cases y:i<n
  ·rw[if_pos y]at h;have e:i.toNat=j:=Nd h;exact⟨by rw[vk h0 y,e],by lia,by lia,y⟩
  ·rw[if_neg y]at h;cases h
 ·rw[if_neg h0]at h;by_cases y:-(n:Int)<=i
  ·rw[if_pos y]at h;have e:(i+n).toNat=j:=Nd h;exact⟨by rw[Nz (by lia) y,e],by lia,y,by lia⟩
  ·rw[if_neg y]at h;cases h
def Yx      (h:atI xs i=ia v):∃j,wv i xs.length=ia j/\xs[j]?=ia v/\j<xs.length/\-(xs.length:Int)<=i/\i<xs.length:=by
 unfold atI at h;cases e:dg xs.length i with
 |none=>rw[e]at h;cases h
 |some j=>
  rw[e]at h;obtain⟨J,F,y,I⟩:=VD e;exact⟨j,J,h,F,y,I⟩
def Mn    {j:Nat}{v:α}(h:xs[j]?=ia v):atI xs (j:Int)=ia v:=by
 have y:j<xs.length:=(Ea.mp h).1;have e:dg xs.length (j:Int)=ia j:=by
  unfold dg;rw[if_pos (by lia),if_pos (by lia)];simp
 unfold atI;rw[e];exact h
def Wx  (b:La):Prop:=∀o i,subscripted b ua o i=operate [o,i] (td o i)
def Hi  (X:Cx)(r:R2):Prop:=
 ∀(F j:La) (pins:List (Ba×Obj)) (s:Ja) (σ:St) (H:Hp) (x y:V) (v u:Da) (Q:VK),Oa X pins σ H s->RelV x v->RelV y u->r x y H Q->
  subscripted j ua v u=operate [v,u] (td v u)->wpAny (Ka X.prog X.w) X.A (Gv F j v u) (EP X pins σ Q) X.xe s
def Lm  (X:Cx)(y:String)(r:V->List V->Hp->VK->Prop):Prop:=
 ∀(j:List (Ba×Obj)) (s:Ja) (σ:St) (H:Hp) (x:V) (xs:List V) (v:Da) (us:List Da) (Q:VK),Oa X j σ H s->RelV x v->Vals xs us->r x xs H Q->
  wpAny (Ka X.prog X.w) X.A (call (.builtin y) (v::us)) (EP X j σ Q) X.xe s

def Hi.or   (h:Hi X r)(h':Hi X r'):Hi X (λx y H Q=>r x y H Q\/r' x y H Q):=by
 intro F j J s Y H x y v u Q I Z R q O;rcases q with q|q
 ·exact h F j J s Y H x y v u Q I Z R q O
 ·exact h' F j J s Y H x y v u Q I Z R q O
def Lm.or  {y:String}(h:Lm X y r)(h':Lm X y r'):Lm X y (λx xs H Q=>r x xs H Q\/r' x xs H Q):=by
 intro j s O H x xs v F Q I R J q;rcases q with q|q
 ·exact h j s O H x xs v F Q I R J q
 ·exact h' j s O H x xs v F Q I R J q
def qM   (hr:Hi X r)(Y:PE X a ta)(Z:PE X b tb)(hs:Wx b):PE X (.Subscript a b pos) (Ms r ta tb):=by
 intro j s R H Q I h;exact Vo (binT Y Z I h λv u s2 x y F J rx O q=>hr a b j s2 R F x y v u Q J rx O q (hs _ _))

def rIxL  (K:Nb):R2:=λx y H Q=>∃p j i v,x=.ref p/\y=.int i/\Ae K H p j/\atI j i=ia v/\Q v H
def rIxT  (K:Nb):R2:=λx y H Q=>∃p j i v,x=.ref p/\y=.int i/\Bd K H p j/\atI j i=ia v/\Q v H
def rIxS  : R2:=λx y H Q=>∃z i c,x=.str z/\y=.int i/\z.length<=db/\atI z.cps.toList i=ia c/\Q (.str ⟨#[c]⟩) H
def pR  : Hi X (rIxL X.K):=by
 intro Y xa F s σ H x y v u Q I rx ry h hs;obtain⟨p,xs,i,z,rfl,rfl,hq,he,q⟩:=h;cases rx;obtain⟨t,rfl⟩:=ry;obtain⟨Z,r,pl,hz⟩:=I.list hq;obtain⟨j,O,h2,h3,h4,h5⟩:=Yx he;obtain⟨w,ew,za⟩:=r.get h2;have hl:=r.length;have hn:=Kn;have J:EP X F σ Q w s:=⟨z,H,I,za,q⟩;by_cases h0:0<=i
 ·have R:i.toNat=j:=by
   rw[vk h0 h5]at O;exact Nd O
  exact item_listR pl.isList h0 (by lia) (by rw[R];simpa using ew) J hs
 ·have R:(i+(Z.toArray.size:Int)).toNat=j:=by
   rw[Nz (by lia) h4]at O
   rw[Zc,<- hl];exact Nd O
  exact xK (x:=w) pl.isList.typeIs Kf.lookup
   (wpAny_getItem_list_neg (Q:=λr s'=>r=w/\EP X F σ Q r s') pl.isList (by lia) (by rw[Zc]<;>lia) (by lia) (by rw[R];simpa using ew) ⟨rfl,J⟩) hs
def GP  : Hi X (rIxT X.K):=by
 intro J R F s Z H x y v u Q I rx ry h hs;obtain⟨p,xs,i,z,rfl,rfl,hq,he,q⟩:=h;cases rx;obtain⟨t,rfl⟩:=ry;obtain⟨xa,r,pl,hz⟩:=I.tuple hq;obtain⟨j,h1,h2,h3,h4,h5⟩:=Yx he;obtain⟨w,ew,Y⟩:=r.get h2;have hl:=r.length;have hn:=Kn;have O:EP X F Z Q w s:=⟨z,H,I,Y,q⟩;exact xK (x:=w) pl.typeIs slot_tuple_getitem.lookup
  (getItem_tuple (j:=j) (Q:=λr s'=>r=w/\EP X F Z Q r s') pl (by lia) (by lia) (by rw[Zc,<- hl];exact h1) (by simpa using ew) ⟨rfl,O⟩) hs
def FP  : Hi X rIxS:=by
 intro F J O s σ H x y v u Q I rx Z h hs;obtain⟨z,i,c,rfl,rfl,hz,he,q⟩:=h;obtain⟨t,rfl⟩:=rx;obtain⟨t',rfl⟩:=Z;obtain⟨j,R,h2,h3,Y,h5⟩:=Yx he;have hl:z.cps.toList.length=z.length:=by simp[Str.length]
 rw[hl]at R Y h5;have hn:=Kn;exact uk (lr s z t) slot_str_getitem.lookup (getItem_str (c:=c) (by
  have e1:decide (i < -(2 ^ 63:Int))=ua:=decide_eq_false (by lia)
  have e2:decide (i ≥ 2 ^ 63)=ua:=decide_eq_false (by lia)
  rw[e1,e2,Bool.or_false]) (by rw[R];simpa using h2) ⟨.str ⟨#[c]⟩,H,I.tok _,⟨_,rfl⟩,q⟩) hs
def Ow  (K:Nb):R2:=λx y H Q=>rIxL K x y H Q\/rIxT K x y H Q\/rIxS x y H Q
def DP  : Hi X (Ow X.K):=pR.or (GP.or FP)

def BV  (y:List Da)(n j:Nat) u:fj (·.setIfInBounds j u) { cls:=.type "list",data:=.seq y.toArray n }={ cls:=.type "list",data:=.seq (y.set j u).toArray n }:=by
 simp[fj]
def Oa.lst   {y:St}(I:Oa X pins y H s)(h:H p=ia (.lst xs)) :
  ∃(j:List Da) (n:Nat),Vals xs j/\s.heap.get? p=ia { cls:=.type "list",data:=.seq j.toArray n }/\xs.length<=db:=by
 obtain⟨z,j,n,r,e⟩:=I.hok p _ h;exact⟨j,n,r,e,z⟩
def Oa.lstUpd   {J:St}{j its':List Da}(I:Oa X pins J H s)(h:H p=ia (.lst xs))
  (O:s.heap.get? p=ia { cls:=.type "list",data:=.seq j.toArray n }) (F:f { cls:=.type "list",data:=.seq j.toArray n }={ cls:=.type "list",data:=.seq its'.toArray y }) (r:Vals ys its') (hz:ys.length<=db) t :
  Oa X pins J (upd H p (.lst ys)) { s with heap:=s.heap.update p f,toks:=t }:=by
 have e:(s.heap.update p f).get? p=ia { cls:=.type "list",data:=.seq its'.toArray y }:=by
  rw[Ir f O (by rw[F]<;>rfl),F]
 refine I.write (x:=p) (e:=p) (by rw[h];trivial) (.inl rfl) (λb u R q=>(EA _ _ (Ta R)).trans q) ⟨_,e⟩ ?_
 exact⟨hz,its',y,r,e⟩
def dC  : V->V->V->Hp->(Hp->Prop)->Prop:=λo i v H Q=>∃p y k j,o=.ref p/\i=.int k/\H p=ia (.lst y)/\dg y.length k=ia j/\Q (upd H p (.lst (y.set j v)))
def zU  : PSet X dC:=by
 intro F s σ H o i v ov iv u Q I ro ri rv h;obtain⟨p,xs,k,j,rfl,rfl,Z,hj,q⟩:=h;cases ro;obtain⟨t,rfl⟩:=ri;obtain⟨y,n,r,O,hz⟩:=I.lst Z;obtain⟨J,h2,h3,Y⟩:=VD hj;have R:=r.length;have hn:=Kn;have I':Oa X F σ (upd H p (.lst (xs.set j v))) { s with heap:=s.heap.update p (fj (·.setIfInBounds j u)) }:=
  I.lstUpd Z O (BV y n j u) (r.set rv j) (by rw[Mh];exact hz) s.toks
 by_cases h0:0<=k
 ·have hk:k.toNat=j:=by
   rw[vk h0 Y]at J;exact Nd J
  exact PySem.W.ki_setAt O h0 (by lia) (by rw[Zc,<- R];exact Y) (by rw[hk];exact⟨_,I',q⟩)
 ·have hk:(k+(y.toArray.size:Int)).toNat=j:=by
   rw[Nz (by lia) h3]at J
   rw[Zc,<- R];exact Nd J
  exact PySem.W.ki_setBack O (by lia) (by rw[Zc,<- R];exact h3) (by lia) (by rw[hk];exact⟨_,I',q⟩)

def xW   lo hi n:(gj lo hi Aa n).1=((HT.sIx n 0 lo:Nat):Int)/\(gj lo hi Aa n).2.1=((HT.sIx n n hi:Nat):Int)/\(gj lo hi Aa n).2.2=1:=by
 refine⟨?_,?_,rfl⟩
 ·cases lo with
  |none=>simp[gj,HT.sIx]
  |some i=>
   simp only[gj,HT.sIx,lK,show(1:Int)>0 by decide,if_true]
   by_cases h:i<0
   ·simp only[h,if_true]<;>lia
   ·simp only[h,if_false]<;>lia
 ·cases hi with
  |none=>simp[gj,HT.sIx]
  |some i=>
   simp only[gj,HT.sIx,lK,show(1:Int)>0 by decide,if_true]
   by_cases h:i<0
   ·simp only[h,if_true]<;>lia
   ·simp only[h,if_false]<;>lia
def qW  (j:List Da) lo hi:ao j.toArray lo hi Aa=((j.drop (HT.sIx j.length 0 lo)).take (HT.sIx j.length j.length hi-HT.sIx j.length 0 lo)).toArray:=by
 obtain⟨I,F,y⟩:=xW lo hi j.toArray.size;unfold ao;rw[I,F,y];simp only[sliceRange_one,pick_run,Zc]<;>rfl
def rSlL  (K:Nb):V->Option Int->Option Int->Hp->VK->Prop:=λx F y H Q=>∃a j,x=.ref a/\Ae K H a j/\∀p,H p=Aa->Q (.ref p) (upd H p (.lst (cutV j F y)))
def XR  : dh X (rSlL X.K):=by
 intro O s σ H x v vl vu F J sl Q I rx Y pl Z h;obtain⟨a,j,rfl,hx,q⟩:=h;cases rx;obtain⟨xa,r,R,hz⟩:=I.list hx;have y:=r.length;refine⟨"list",_,Kf.lookup,R.isList.typeIs,?_⟩;refine DA R.isList Y pl Z .none (by simp) ?_ (by rw[Zc]<;>lia)
 rw[qW,<- y];refine⟨.ref s.heap.objs.size,_,I.laid (t':=s.toks) (o:=.lst (cutV j F J)) (λb ob q=>Nc _ q) (Fb _) ?_,rfl,q _ (I.hok.fresh (Fb _))⟩;exact⟨Lb (BG j F J) hz,_,0,(r.drop (HT.sIx j.length 0 F)).take (HT.sIx j.length j.length J-HT.sIx j.length 0 F),Df _ rfl⟩

noncomputable def lh  : V->Bool
 |.non=>la
 |.bl _=>la
 |.int _=>la
 |.str _=>la
 |_=>ua
noncomputable def Zi  : V->V->Bool
 |.non,.non=>la
 |.bl a,.bl b=>a==b
 |.bl a,.int b=>(if a then 1 else 0)==b
 |.int a,.bl b=>a==(if b then 1 else 0)
 |.int a,.int b=>a==b
 |.str a,.str b=>a==b
 |_,_=>ua
def wN      (I:RelV y u)(j:RelV x v)(O:lh y=la)(J:lh x=la):lg A s u v (Zi y x):=by
 cases y with
 |non=>
  cases I;cases x with
  |non=>cases j;exact lg.same _
  |bl b=>cases j;exact lg.none_bool b
  |int b=>obtain⟨t,rfl⟩:=j;exact lg.none_int b t
  |str b=>obtain⟨t,rfl⟩:=j;exact lg.none_str b t
  |_=>exact absurd (show ua=la from J) Ld
 |bl a=>
  cases I;cases x with
  |non=>cases j;exact lg.bool_none a
  |bl b=>cases j;exact lg.bool_bool a b
  |int b=>obtain⟨t,rfl⟩:=j;exact lg.bool_int a b t
  |str b=>obtain⟨t,rfl⟩:=j;exact lg.bool_str a b t
  |_=>exact absurd (show ua=la from J) Ld
 |int a=>
  obtain⟨F,rfl⟩:=I;cases x with
  |non=>cases j;exact lg.int_none a F
  |bl b=>cases j;exact lg.int_bool a F b
  |int b=>obtain⟨t,rfl⟩:=j;exact lg.int_int a F b t
  |str b=>obtain⟨t,rfl⟩:=j;exact OK a F b t
  |_=>exact absurd (show ua=la from J) Ld
 |str a=>
  obtain⟨F,rfl⟩:=I;cases x with
  |non=>cases j;exact lg.str_none a F
  |bl b=>cases j;exact lg.str_bool a F b
  |int b=>obtain⟨t,rfl⟩:=j;exact PK a F b t
  |str b=>obtain⟨t,rfl⟩:=j;exact lg.str_str a F b t
  |_=>exact absurd (show ua=la from J) Ld
 |_=>exact absurd (show ua=la from O) Ld
def eqU  (x:V)(u:Da):Bool:=match u with
 |.none=>Zi .non x
 |.bool b=>Zi (.bl b) x
 |.int i _=>Zi (.int i) x
 |.str z _=>Zi (.str z) x
 |_=>ua
def vC    (r:RelV y u)(f:lh y=la):eqU x u=Zi y x:=by
 cases y with
 |non=>cases r;rfl
 |bl b=>cases r;rfl
 |int i=>obtain⟨t,rfl⟩:=r;rfl
 |str z=>obtain⟨t,rfl⟩:=r;rfl
 |_=>exact absurd (show ua=la from f) Ld
theorem Rq   : ∀{xs } {us },Vals xs us->xs.all lh=la->us.any (eqU x)=xs.any λy=>Zi y x
 |_,_,.nil,_=>rfl
 |y::xs,u::us,.cons r t,f=>by
  rw[Ci,Be]at f;rw[tj,tj,vC r f.1,Rq t f.2]
theorem Sq      (F:RelV x v)(j:lh x=la):∀{xs } {us },Vals xs us->xs.all lh=la->∀u∈us,lg A s u v (eqU x u)
 |_,_,.nil,_=>λu hu=>by cases hu
 |y::xs,u::us,.cons r t,f=>λI hu=>by
  rw[Ci,Be]at f;rcases ic.mp hu with rfl|hu
  ·rw[vC r f.1];exact wN r F f.1 j
  ·exact Sq F j t f.2 I hu
def Zq  (x:V)(xs:List V):Bool:=xs.any λy=>Zi y x
def yB  (K:Nb)(F:Bool):R2:=λx y H Q=>∃p j,y=.ref p/\(Ae K H p j\/Bd K H p j)/\lh x=la/\j.all lh=la/\Q (.bl (if F then !Zq x j else Zq x j)) H
def AU  : Cc X (ce .In) (yB X.K ua):=by
 intro R s σ H x y v u Q I Z ry h;obtain⟨p,xs,rfl,F,Y,fs,q⟩:=h;cases ry;rcases F with F|F
 ·obtain⟨j,r,O,hz⟩:=I.list F;refine JJ (eqU x) O.isList (λw J=>Sq Z Y r fs w (by simpa using J)) ⟨.bl _,H,I,rfl,?_⟩
  rw[show j.toArray.any (eqU x)=j.any (eqU x) by simp,Rq r fs]
  exact q
 ·obtain⟨j,r,O,hz⟩:=I.tuple F;refine wK (eqU x) O (λw J=>Sq Z Y r fs w (by simpa using J)) ⟨.bl _,H,I,rfl,?_⟩
  rw[show j.toArray.any (eqU x)=j.any (eqU x) by simp,Rq r fs]
  exact q
def cW  : Cc X (ce .NotIn) (yB X.K la):=by
 intro R s σ H x y v u Q I Z ry h;obtain⟨p,xs,rfl,F,Y,fs,q⟩:=h;cases ry;rcases F with F|F
 ·obtain⟨j,r,O,hz⟩:=I.list F;refine OJ (eqU x) O.isList (λw J=>Sq Z Y r fs w (by simpa using J)) ⟨.bl _,H,I,rfl,?_⟩
  rw[show j.toArray.any (eqU x)=j.any (eqU x) by simp,Rq r fs]
  exact q
 ·obtain⟨j,r,O,hz⟩:=I.tuple F;refine XJ (eqU x) O (λw J=>Sq Z Y r fs w (by simpa using J)) ⟨.bl _,H,I,rfl,?_⟩
  rw[show j.toArray.any (eqU x)=j.any (eqU x) by simp,Rq r fs]
  exact q
def mf.or    (h:mf X f r)(h':mf X f r'):mf X f (λxs H Q=>r xs H Q\/r' xs H Q):=by
 intro j s F H xs y Q I J q;rcases q with q|q
 ·exact h j s F H xs y Q I J q
 ·exact h' j s F H xs y Q I J q
def gW  : mf X (.type "list") (λxs H Q=>∃p O,xs=[.ref p]/\(Ae X.K H p O\/Bd X.K H p O)/\∀l,H l=Aa->Q (.ref l) (upd H l (.lst O))):=by
 intro Z s σ H xs us Q I r h;obtain⟨p,O,rfl,Y,q⟩:=h;obtain⟨u,rfl,rx⟩:=nh r;cases rx;have xa:∀(j:List Da),Vals O j->O.length<=db->∀(y:Za) (J:Nat),(∀b o',s.heap.get? b=ia o'->y.get? b=ia o')->
   y.get? s.heap.objs.size=ia { cls:=.type "list",dict:=Aa,data:=.seq j.toArray J,slots:=#[] }->EP X Z σ Q (.ref s.heap.objs.size) { s with heap:=y }:=λj F R y J kp e=>
  ⟨.ref s.heap.objs.size,_,I.laid (t':=s.toks) kp (Fb _) (show Od X.prog X.w _ y _ (.lst O)from⟨R,j,J,F,e⟩),rfl,q _ (I.hok.fresh (Fb _))⟩
 rcases Y with Y|Y
 ·obtain⟨j,F,pl,R⟩:=I.list Y;have za:=F.length;obtain⟨o,ho,hc,n,hd⟩:=pl.isList;exact call_list_seq p (.inl rfl) ho hc hd (λy J kp e=>xa j F R y J kp e) (by simp only[Zc]<;>lia)
 ·obtain⟨j,F,pl,R⟩:=I.tuple Y;have za:=F.length;obtain⟨o,ho,hc,n,hd⟩:=pl;exact call_list_seq p (.inr rfl) ho hc hd (λy J kp e=>xa j F R y J kp e) (by simp only[Zc]<;>lia)
def tW  : mf X (.type "tuple") (λxs H Q=>∃p F,xs=[.ref p]/\((Ae X.K H p F/\∀l,H l=Aa->Q (.ref l) (upd H l (.tup F)))\/(Bd X.K H p F/\Q (.ref p) H))):=by
 intro j s σ H xs us Q I r h;obtain⟨p,F,rfl,h⟩:=h;obtain⟨u,rfl,rx⟩:=nh r;cases rx;rcases h with⟨R,q⟩|⟨R,q⟩
 ·obtain⟨y,O,Y,Z⟩:=I.list R;have xa:=O.length;refine call_tuple_list Y.isList (λJ kp=>?_) (by simp only[Zc]<;>lia)
  have I1:Oa X j σ H { s with heap:=J }:=I.kept (t':=s.toks) kp
  have I2:Oa X j σ (upd H J.objs.size (.tup F)) { s with heap:=J.push { cls:=.type "tuple",data:=.seq y.toArray } }:=
   I1.laid (t':=s.toks) (λb o e=>Nc _ e) (Fb _) (show Od X.prog X.w _ _ _ (.tup F)from⟨Z,y,O,TupD.new _ _⟩)
  exact⟨.ref J.objs.size,_,I2,rfl,q _ (I1.hok.fresh (Fb _))⟩
 ·obtain⟨y,O,Y,Z⟩:=I.tuple R;exact call_tuple_same Y ⟨.ref p,H,I,rfl,q⟩

def Hw  (K:Nb)(T:String)(x:V)(H:Hp):Prop:=match x with
 |.str _=>T = "str"
 |.int _=>T = "int"
 |.ref p=>(T = "list" /\ ∃y,Ae K H p y)\/(T = "tuple" /\ ∃o,K.lookup p=ia o/\o.cls=.type "tuple" /\ o.dict=Aa)\/
   (T = "dict" /\ ((∃j,H p=ia (.dK j))\/∃j,H p=ia (.dT j)))\/(T = "set" /\ ∃S n,H p=ia (.set S n))\/(T = "tuple" /\ ∃y,H p=ia (.tup y))
 |_=>False
def QC   {σ:St}(I:Oa X pins σ H s)(r:RelV x v)(F:Hw X.K T x H) :
  s.TypeIs v T/\∀a,v=.ref a->∃Y,s.heap.get? a=ia Y/\Y.dict=Aa:=by
 cases x with
 |str z=>
  obtain⟨t,rfl⟩:=r;cases(show T = "str" from F);exact⟨lr s z t,λ_ e=>nomatch e⟩
 |int i=>
  obtain⟨t,rfl⟩:=r;cases(show T = "int" from F);exact⟨Qo s i t,λ_ e=>nomatch e⟩
 |ref p=>
  cases r;rcases F with⟨rfl,R,hq⟩|⟨rfl,o,hk,hc,hd⟩|⟨rfl,hk⟩|⟨rfl,S,n,hk⟩|⟨rfl,R,hk⟩
  ·obtain⟨J,_,Z,_⟩:=I.list hq;refine⟨Z.isList.typeIs,λa e=>?_⟩;cases e;obtain⟨o,n,e,c,hd,_⟩:=Z;exact⟨o,e,hd⟩
  ·refine⟨⟨o,I.kIn p o hk,hc⟩,λa e=>?_⟩;cases e;exact⟨o,I.kIn _ o hk,hd⟩
  ·have z:∃o,s.heap.get? p=ia o/\o.ExactDict:=by
    rcases hk with⟨O,hk⟩|⟨O,hk⟩
    ·obtain⟨_,_,_,_,o,_,_,e,j,_⟩:=I.hok p _ hk;exact⟨o,e,j⟩
    ·obtain⟨_,_,_,_,o,_,_,e,j,_⟩:=I.hok p _ hk;exact⟨o,e,j⟩
   obtain⟨o,e,j⟩:=z;refine⟨⟨o,e,j.1⟩,λa y=>?_⟩;cases y;exact⟨o,e,j.2.1⟩
  ·obtain⟨o,_,_,_,e,j,_⟩:=I.hok p _ hk;refine⟨⟨o,e,j.1⟩,λa y=>?_⟩;cases y;exact⟨o,e,j.2.1⟩
  ·obtain⟨_,J,r,o,e,c,n,d,hd⟩:=(show Od X.prog X.w H s.heap p (.tup R)from I.hok p _ hk);refine⟨⟨o,e,c⟩,λa y=>?_⟩;cases y;exact⟨o,e,hd⟩
 |_=>exact Xl F


def Yr  (X:Cx)(y:String)(r:V->List V->Hp->VK->Prop):Prop:=
 ∀(j:List (Ba×Obj)) (s:Ja) (σ:St) (H:Hp) (x:V) (xs:List V) (v:Da) (us:List Da) (Q:VK),Oa X j σ H s->RelV x v->Vals xs us->r x xs H Q->
  wpAny (Ka X.prog X.w) X.A (call (.builtin y) (v::us)) (EP X j σ Q) X.xe s

def Vals.one  : ∀{x } {us },Vals [x] us->∃u,us=[u]/\RelV x u
 |_,_,.cons r .nil=>⟨_,rfl,r⟩
def Vals.two  : ∀{x y } {us },Vals [x,y] us->∃u v,us=[u,v]/\RelV x u/\RelV y v
 |_,_,_,.cons r (.cons q .nil)=>⟨_,_,rfl,r,q⟩
def Vals.zero  : ∀{us },Vals [] us->us=[]
 |_,.nil=>rfl
theorem Vals.dropLast    (h:Vals xs us):Vals xs.dropLast us.dropLast:=by
 induction h with
 |nil=>exact .nil
 |cons r t j=>
  cases t with
  |nil=>exact .nil
  |cons q y=>exact .cons r j
theorem Vals.eraseIdx  : ∀{xs } {us } i ,Vals xs us->Vals (xs.eraseIdx i) (us.eraseIdx i)
 |_,_,_,.nil=>.nil
 |_,_,0,.cons _ t=>t
 |_,_,i+1,.cons r t=>.cons r (Vals.eraseIdx i t)
theorem Vals.rep    (h:Vals xs us):∀k ,Vals (Qb k xs).flatten (Qb k us).flatten
 |0=>.nil
 |k+1=>by
  rw[Dm,Dm,xo,xo];exact Vals.append h (Vals.rep h k)
def wV  {y:Type}(l:List y):l.eraseIdx (l.length-1)=l.dropLast:=by
 induction l with
 |nil=>rfl
 |cons a r j=>
  cases r with
  |nil=>rfl
  |cons b r=>
   have e:(a::b::r).length-1=((b::r).length-1)+1:=by
    have I:(a::b::r).length=r.length+2:=rfl;have F:(b::r).length=r.length+1:=rfl
    lia
   rw[e,List.eraseIdx_cons_succ,j]
   all_goals rfl
theorem mF  {j:Type}:∀(l:List j) i ,(l.eraseIdx i).length<=l.length
 |[],_=>Fb _
 |_::_,0=>io _
 |_::r,i+1=>oA (mF r i)
theorem gF  (j:List Da):∀k (acc:List Da),
  jA (λy I=>y++I) acc.toArray (Qb k j.toArray)=(acc++(Qb k j).flatten).toArray
 |0,acc=>by simp
 |k+1,acc=>by
  have e:acc.toArray++j.toArray=(acc++j).toArray:=by simp
  have F:(acc++j)++(Qb k j).flatten=acc++(Qb (k+1) j).flatten:=by
   rw[Dm,xo,Pr]
  rw[<- F,<- gF j k (acc++j),<- e,Dm,List.foldl_cons]

section
variable {X:Cx}{pins:List (Ba×Obj)}{σ:St}{H:Hp}{s:Ja}{l b:Ba}{xs ys zs:List V}

def Oa.lset  {j its':List Da}(I:Oa X pins σ H s)(y:H l=ia (.lst xs))
  (e:s.heap.get? l=ia { cls:=.type "list",data:=.seq j.toArray n }) (F:f j.toArray=its'.toArray) (J:Vals ys its') (hz:ys.length<=db) :
  Oa X pins σ (upd H l (.lst ys)) { s with heap:=s.heap.update l (fj f),toks:=t' }:=by
 have q:=PySem.IsL.update e f;rw[F]at q;refine I.write (x:=l) (e:=l) (by rw[y];exact trivial) (.inl rfl) (λR u O hu=>(EA s.heap (fj f) (Ta O)).trans hu) ⟨_,q⟩ ?_
 exact⟨hz,its',_,J,q⟩
def Oa.lnew    (I:Oa X pins σ H s)(y:Vals ys j)(hz:ys.length<=db) :
  Oa X pins σ (upd H s.heap.objs.size (.lst ys)) { s with heap:=s.heap.push { cls:=.type "list",data:=.seq j.toArray },toks:=t' }:=
 I.laid (λ_ _ q=>Nc _ q) (Fb _) ⟨hz,j,0,y,Df _ rfl⟩
def Oa.fresh  (I:Oa X pins σ H s):H s.heap.objs.size=Aa:=I.hok.fresh (Fb _)
def Oa.lstM  (I:Oa X pins σ H s)(y:H l=ia (.lst xs)):xs.length<=db/\∃(j:List Da) (n:Nat),Vals xs j/\xs.length=j.length/\s.heap.get? l=ia { cls:=.type "list",data:=.seq j.toArray n }:=by
 obtain⟨z,j,n,r,e⟩:=I.hok l _ y;exact⟨z,j,n,r,r.length,e⟩

def Iy   (h:n<=db):Ho n=ua:=by
 unfold Ho;exact decide_eq_false (by lia)
end


def AS  : V->List V->Hp->VK->Prop:=λx F H Q=>∃l j y,x=.ref l/\F=[y]/\H l=ia (.lst j)/\j.length<db/\Q .non (upd H l (.lst (j++[y])))
def oF  : Yr X "list.append" AS:=by
 intro O s σ H x vs v us Q I Z R h;obtain⟨l,xs,y,rfl,rfl,J,hz,q⟩:=h;cases Z;obtain⟨u,rfl,Y⟩:=R.one;obtain⟨z,j,n,r,hl,e⟩:=I.lstM J;refine uh F.slot_list_append ⟨_,e,rfl⟩ F.entry_list_append (F.args_list_append_2 _ _) (PySem.list_append l j.toArray n u (by rw[Zc];lia)) ⟨e,?_⟩
 refine⟨.non,_,I.lset (its':=j++[u]) J e (by simp) (r.append (.cons Y .nil)) ?_,rfl,q⟩
 rw[Xf,ZA]
 lia

def BS  : V->List V->Hp->VK->Prop:=λx F H Q=>∃l b y j,x=.ref l/\F=[.ref b]/\H l=ia (.lst y)/\H b=ia (.lst j)/\y.length+j.length<=db/\Q .non (upd H l (.lst (y++j)))
def QU  : Yr X "list.extend" BS:=by
 intro R s σ H x vs v us Q I Z rv h;obtain⟨l,b,xs,zs,rfl,rfl,Y,hB,hz,q⟩:=h;cases Z;obtain⟨u,rfl,ru⟩:=rv.one;cases ru;obtain⟨z,y,n,r,hl,e⟩:=I.lstM Y;obtain⟨z2,j,n2,r2,xa,e2⟩:=I.lstM hB;have O:y.toArray.size+j.toArray.size<=db:=by rw[Zc,Zc];lia
 have J:¬(!y.toArray.isEmpty&&Ho (y.toArray.size+j.toArray.size))=la:=by
  rw[Iy O,Bool.and_false];exact Ld
 refine uh F.slot_list_extend ⟨_,e,rfl⟩ F.entry_list_extend (F.args_list_extend_2 _ _)
  (AutoSeq1.list_extend_list_list_0 l y.toArray n b j.toArray n2 J (by rw[Zc];lia) (by lia)) ⟨e,e2,?_⟩
 refine⟨.non,_,I.lset (its':=y++j) Y e (by simp) (r.append r2) ?_,rfl,q⟩
 rw[Xf]
 lia

def rPop  : V->List V->Hp->VK->Prop:=λx F H Q=>∃l j y,x=.ref l/\F=[]/\H l=ia (.lst j)/\j[j.length-1]?=ia y/\Q y (upd H l (.lst j.dropLast))
def mt_pop  : Yr X "list.pop" rPop:=by
 intro Y s σ H x vs v us Q I rx Z h;obtain⟨l,xs,y,rfl,rfl,R,hy,q⟩:=h;cases rx;have J:=Z.zero;subst J;obtain⟨z,j,n,r,hl,e⟩:=I.lstM R;obtain⟨u,hu,ru⟩:=r.get hy;have O:j.toArray[j.toArray.size-1]?=ia u:=by
  show j.toArray[j.length-1]?=ia u;rw[<- jw,<- hl];exact hu
 refine uh F.slot_list_pop ⟨_,e,rfl⟩ F.entry_list_pop (F.args_list_pop_1 _) (MeetsSeq.list_pop_last l j.toArray n u O (by rw[Zc];lia)) ⟨e,?_⟩
 refine⟨y,_,I.lset (its':=j.dropLast) R e ?_ r.dropLast ?_,ru,q⟩
 ·show j.toArray.eraseIdxIfInBounds (j.toArray.size-1)=j.dropLast.toArray;rw[Zc,qL,wV]
 ·rw[SJ]
  lia

def KQ  : V->List V->Hp->VK->Prop:=λx F H Q=>∃l j i k y,x=.ref l/\F=[.int i]/\H l=ia (.lst j)/\-(2 ^ 63)<=i/\i<2 ^ 63/\wv i j.length=ia k/\j[k]?=ia y/\Q y (upd H l (.lst (j.eraseIdx k)))
def OT  : Yr X "list.pop" KQ:=by
 intro R s σ H x vs v us Q I rx rv h;obtain⟨l,Z,i,k,y,rfl,rfl,O,h1,Y,hk,hy,q⟩:=h;cases rx;obtain⟨u,rfl,ru⟩:=rv.one;obtain⟨t,rfl⟩:=ru;obtain⟨z,j,n,r,hl,e⟩:=I.lstM O;obtain⟨w,hw,J⟩:=r.get hy;refine uh F.slot_list_pop ⟨_,e,rfl⟩ F.entry_list_pop (F.args_list_pop_2 _ _)
  (MeetsSeq.list_pop_at l j.toArray n i t k w (fitsIndex_both h1 Y) (by rw[Zc,<- hl];exact hk) (by rw[<- jw];exact hw) (by rw[Zc];lia)) ⟨e,?_⟩
 refine⟨y,_,I.lset (its':=j.eraseIdx k) O e ?_ (r.eraseIdx k) ?_,J,q⟩
 ·show j.toArray.eraseIdxIfInBounds k=(j.eraseIdx k).toArray;rw[qL]
 ·have:=mF Z k
  lia

def rCat  : R2:=λx y H Q=>∃l b F j,x=.ref l/\y=.ref b/\H l=ia (.lst F)/\H b=ia (.lst j)/\F.length+j.length<=db/\∀p,H p=Aa->Q (.ref p) (upd H p (.lst (F++j)))
def wP  : Cc X (tf .Add) rCat:=by
 intro J s σ H x y v u Q I rx Z h;obtain⟨l,b,xs,zs,rfl,rfl,Y,hB,hz,q⟩:=h;cases rx;cases Z;obtain⟨z,F,n,r,hl,e⟩:=I.lstM Y;obtain⟨z2,j,n2,r2,R,O⟩:=I.lstM hB;refine PySem.P.add_list e O ?_ (by rw[Zc,Zc];lia)
 have ea:F.toArray++j.toArray=(F++j).toArray:=by simp
 rw[ea];exact⟨.ref _,_,I.lnew (t':=s.toks) (r.append r2) (by rw[Xf];lia),rfl,q _ I.fresh⟩
def rRep  : R2:=λx y H Q=>∃l k j,x=.ref l/\y=.int k/\H l=ia (.lst j)/\-(2 ^ 63)<=k/\k<2 ^ 63/\j.length*k.toNat<=db/\
 ∀p,H p=Aa->Q (.ref p) (upd H p (.lst (Qb k.toNat j).flatten))
def xR  {y:Type}(xs:List y) k:(Qb k xs).flatten.length=k*xs.length:=by
 induction k with
 |zero=>simp
 |succ k j=>rw[Dm,xo,Xf,j,Nat.succ_mul,Nat.add_comm]
def FO  : Cc X (tf .Mult) rRep:=by
 intro xa s σ H x y v u Q I rx ry h;obtain⟨l,k,xs,rfl,rfl,hH,h1,h2,hz,q⟩:=h;cases rx;obtain⟨t,rfl⟩:=ry;obtain⟨z,j,n,r,hl,e⟩:=I.lstM hH;have O:j.toArray.size*k.toNat<=db:=by rw[Zc,<- hl];exact hz
 have Z:¬j.toArray.size*k.toNat>(2 ^ 63-1)/8:=by
  have:(db:Nat)<=(2 ^ 63-1)/8:=by decide
  lia
 have R:¬(!Builtin.List.listFitsIndex k)=la:=by
  rw[fitsIndex_both h1 h2];exact Ld
 have J:¬Ho (j.toArray.size*k.toNat)=la:=by
  rw[Iy O];exact Ld
 have Y:jA (λx1 x2=>x1++x2) #[] (Qb (if j.toArray.isEmpty=la then 0 else k.toNat) j.toArray)=(Qb k.toNat j).flatten.toArray:=by
  have f0:∀m:Nat,jA (λx1 x2=>x1++x2) #[] (Qb m j.toArray)=(Qb m j).flatten.toArray:=λm=>by
   have:=gF j m [];rw[zi]at this;exact this
  rw[f0];cases j with
  |nil=>simp
  |cons a r'=>rw[if_neg (by simp)]
 refine wpAny_binaryOp_repeat_ref (T := "list") (U := "int") (by decide) ⟨_,e,rfl⟩ (λs'=>Qo s' k t) noFill_list_mul F.fills_int_mul F.slot_int_rmul repeat_list F.slot_int_index.lookup
  (uh F.slot_int_rmul (Qo s k t) F.entry_int_rmul (F.args_int_rmul_2 _ _) (int___rmul___int_list k t l j.toArray n)
   ⟨e,rfl,⟨_,e,rfl⟩,uh F.slot_list_mul ⟨_,e,rfl⟩ F.entry_list_mul (F.args_list_mul_2 _ _) (AutoListH.list___mul___list_int_3 l j.toArray n k t R Z J) ⟨e,?_⟩⟩)
 rw[Y];exact⟨.ref _,_,I.lnew (t':=s.toks) (r.rep k.toNat) (by rw[xR,Nat.mul_comm];exact hz),rfl,q _ I.fresh⟩






section
variable {κ:Type}[DecidableEq κ]
noncomputable def valV (kvs:List (κ×V))(k:κ):Option V:=(kvs.find? λj=>decide (j.1=k)).map (·.2)
noncomputable def putK (kvs:List (κ×V))(k:κ)(v:V):List (κ×V):=
 if (kvs.any λj=>decide (j.1=k))=la then kvs.map (λj=>if j.1=k then (j.1,v) else j) else kvs++[(k,v)]
def Yu    {k:κ}(e:p.1=k):valV (p::r) k=ia p.2:=by simp[valV,qj,e]
def Xu    {k:κ}(e:¬p.1=k):valV (p::r) k=valV r k:=by simp[valV,qj,e]
theorem XE  (k:κ):∀kvs ,(kvs.any λj=>decide (j.1=k))=(valV kvs k).isSome
 |[]=>rfl
 |p::r=>by
  rw[tj];by_cases e:p.1=k
  ·simp only[Yu e,decide_eq_true e,Bool.true_or,Option.isSome_some]
  ·rw[Xu e,decide_eq_false e,vA];exact XE k r
def kz  (kvs:List (κ×V)) k v:(putK kvs k v).length<=kvs.length+1:=by
 unfold putK;split
 ·rw[Hb];lia
 ·rw[Xf,Td,ah];lia
def RelO.isSome_eq    (r:RelO o u):o.isSome=u.isSome:=by
 cases o with
 |none=>cases u with
  |none=>rfl
  |some _=>exact(show False from r).elim
 |some _=>cases u with
  |none=>exact(show False from r).elim
  |some _=>rfl
theorem RelO.getD      (r:RelO o u)(rd:RelV d d'):RelV (o.getD d) (u.getD d'):=by
 cases o with
 |none=>cases u with
  |none=>exact rd
  |some _=>exact(show False from r).elim
 |some _=>cases u with
  |none=>exact(show False from r).elim
  |some _=>exact r

def KV.val    (r:KV kvs vs)(k:κ):RelO (valV kvs k) (Jf vs k):=by
 unfold KV at r
 induction r with
 |nil=>exact zh
 |@cons p q O y h t J=>
  obtain⟨F,I⟩:=h;by_cases e:p.1=k
  ·have j:q.1=k:=F.symm.trans e;have b:Jf (q::y) k=ia q.2:=by simp[Jf,qj,j]
   rw[Yu e,b];exact I
  ·have j:¬q.1=k:=λz=>e (F.trans z);have b:Jf (q::y) k=Jf y k:=by simp[Jf,qj,j]
   rw[Xu e,b];exact J
theorem KV.any    (r:KV kvs vs)(k:κ):(kvs.any λj=>decide (j.1=k))=vs.any λj=>decide (j.1=k):=by
 unfold KV at r
 induction r with
 |nil=>rfl
 |cons h t y=>rw[tj,tj,y,h.1]
def KV.repl    (r:KV kvs vs)(k:κ)(O:RelV y u) :
  KV (kvs.map λj=>if j.1=k then (j.1,y) else j) (vs.map λj=>if j.1=k then (j.1,u) else j):=by
 unfold KV at r ⊢
 induction r with
 |nil=>exact .nil
 |@cons p q R Y h t J=>
  rw[Sd,Sd];refine .cons ?_ J;obtain⟨F,I⟩:=h;by_cases e:p.1=k
  ·rw[if_pos e,if_pos (F.symm.trans e)];exact⟨F,O⟩
  ·rw[if_neg e,if_neg (λz=>e (F.trans z))];exact⟨F,I⟩
def KV.put    (r:KV kvs vs)(k:κ)(j:RelV y u):KV (putK kvs k y) (stored vs k u):=by
 unfold putK stored;rw[r.any k];by_cases e:(vs.any λF=>decide (F.1=k))=la
 ·rw[if_pos e,if_pos e];exact r.repl k j
 ·rw[if_neg e,if_neg e];exact Fd.snoc r ⟨rfl,j⟩
def KV.length {kvs:List (κ×V)}{vs:List (κ×Da)}(r:KV kvs vs):kvs.length=vs.length:=Tv r
end

def Il      (r:RelV (kV k) u):(we P w).is k u=la:=by
 cases k with
 |inl i=>obtain⟨t,e⟩:=(show ∃t,u=ur i t from r);subst e;exact YV P w i t
 |inr x=>obtain⟨t,e⟩:=(show ∃t,u=Kv x t from r);subst e;exact ZV P w x t
theorem lF    : ∀{ks } {us },Vals (ks.map kV) us->ItemsAre (we P w) ks us
 |[],_,r=>by rw[Fo]at r;cases r;exact .nil
 |k::ks,_,r=>by
  rw[Sd]at r;cases r with
  |cons h t=>exact .cons (Il h) (lF t)

abbrev KT  (H:Hp):List (List Sb×V)->List (List Sb×Ba×Da)->Prop:=Fd λp q=>p.1=q.1/\H q.2.1=ia (.tup (p.1.map kV))/\RelV p.2 q.2.2
def KT.val     (r:KT H kvs xs) k:RelO (valV kvs k) ((Ug xs k).map (·.2)):=by
 induction r with
 |nil=>exact zh
 |@cons p q O y h t J=>
  obtain⟨F,_,I⟩:=h;by_cases e:p.1=k
  ·have j:q.1=k:=F.symm.trans e;have b:Ug (q::y) k=ia q.2:=by simp[Ug,qj,j]
   rw[Yu e,b];exact I
  ·have j:¬q.1=k:=λz=>e (F.trans z);have b:Ug (q::y) k=Ug y k:=by simp[Ug,qj,j]
   rw[Xu e,b];exact J
def KT.repl     (r:KT H kvs xs) k (O:RelV y u) :
  KT H (kvs.map λF=>if F.1=k then (F.1,y) else F) (xs.map (putAt k u)):=by
 induction r with
 |nil=>exact .nil
 |@cons p q Y Z h t J=>
  rw[Sd,Sd];refine .cons ?_ J;obtain⟨j,I,R⟩:=h;unfold putAt;by_cases e:p.1=k
  ·rw[if_pos e,if_pos (j.symm.trans e)];exact⟨j,I,O⟩
  ·rw[if_neg e,if_neg (λz=>e (j.trans z))];exact⟨j,I,R⟩
def KT.put     (r:KT H kvs xs)(k:List Sb)(F:H b=ia (.tup (k.map kV)))(j:RelV y u) :
  KT H (putK kvs k y) (storedH xs k b u):=by
 have e:(kvs.any λI=>decide (I.1=k))=(Ug xs k).isSome:=by
  rw[XE,(r.val k).isSome_eq,OA]
 unfold putK storedH;rw[e];by_cases q:(Ug xs k).isSome=la
 ·rw[if_pos q,if_pos q];exact r.repl k j
 ·rw[if_neg q,if_neg q];exact Fd.snoc r ⟨rfl,F,j⟩
def KT.keeps     (r:KT H kvs xs)(y:∀b j,H b=ia (.tup j)->H' b=ia (.tup j)):KT H' kvs xs:=
 Paired.mapP r λ_ _ z=>⟨z.1,y _ _ z.2.1,z.2.2⟩


def eC   (ok:Vd P w H h)(e:Rd H a u):Od P w H h a u:=e.ok ok
def Qi   (ok:Vd P w H h)(e:Rd H a (.dK kvs)):kvs.length<=db/\(a==yf)=ua/\∃vs,KV kvs vs/\h.DictOf (we P w) a vs:=
 show Od P w H h a (.dK kvs)from eC ok e
def JB   (ok:Vd P w H h)(e:H a=ia (.dK kvs)):kvs.length<=db/\(a==yf)=ua/\∃vs,KV kvs vs/\h.DictOf (we P w) a vs:=Qi ok (.inl e)
def Hn   (ok:Vd P w H h)(e:H a=ia (.tup (ks.map kV))):(bo (we P w)).is h ks a:=by
 obtain⟨_,j,r,o,I,F,n,y,_⟩:=(show Od P w H h a (.tup (ks.map kV))from ok a _ e);exact⟨o,j.toArray,n,I,F,y,by simpa using lF r⟩
def Hl   (ok:Vd P w H h)(e:Rd H a (.dT kvs)):kvs.length<=db/\(a==yf)=ua/\
  ∃xs,KT H kvs xs/\h.DictOfH (bo (we P w)) a xs:=by
 obtain⟨z,y,xs,r,o,O,ep,Z,I,h3,J,R⟩:=(show Od P w H h a (.dT kvs)from eC ok e);refine⟨z,y,xs,r,o,O,ep,Z,I,h3,J,λx j=>?_,R⟩;have all:∀{l:List (List Sb×V)} {m:List (List Sb×Ba×Da)},KT H l m->∀x∈m,(bo (we P w)).is h x.1 x.2.1:=by
  intro l m q
  induction q with
  |nil=>intro x j;exact nomatch j
  |@cons p q ps qs F t Y=>
   intro x j;rcases ic.mp j with e|j
   ·subst e;exact Hn ok (by rw[<- F.1];exact F.2.1)
   ·exact Y x j
 exact all r x j
def TM   (ok:Vd P w H h)(e:H a=ia (.dT kvs)):kvs.length<=db/\(a==yf)=ua/\
  ∃xs,KT H kvs xs/\h.DictOfH (bo (we P w)) a xs:=Hl ok (.inl e)

def DGet  (H:Hp)(a:Ba)(y:V)(r:Option V):Prop:=
 (∃j k,Rd H a (.dK j)/\y=kV k/\r=valV j k)\/∃j k b,Rd H a (.dT j)/\y=.ref b/\H b=ia (.tup (k.map kV))/\r=valV j k
def DPut  (H:Hp)(a:Ba)(y v:V)(F:Hp):Prop:=
 (∃j k,H a=ia (.dK j)/\y=kV k/\j.length<db/\F=upd H a (.dK (putK j k v)))\/
 ∃j k b,H a=ia (.dT j)/\y=.ref b/\H b=ia (.tup (k.map kV))/\j.length<db/\F=upd H a (.dT (putK j k v))
def DGet.k     {k:Sb}(e:H a=ia (.dK kvs)):DGet H a (kV k) (valV kvs k):=.inl ⟨kvs,k,.inl e,rfl,rfl⟩
def DGet.t     {k:List Sb}(e:H a=ia (.dT kvs))(j:H b=ia (.tup (k.map kV))):DGet H a (.ref b) (valV kvs k):=.inr ⟨kvs,k,b,.inl e,rfl,j,rfl⟩
def DPut.k     {k:Sb}(e:H a=ia (.dK kvs))(j:kvs.length<db):DPut H a (kV k) v (upd H a (.dK (putK kvs k v))):=.inl ⟨kvs,k,e,rfl,j,rfl⟩
def DPut.t     {k:List Sb}(e:H a=ia (.dT kvs))(j:H b=ia (.tup (k.map kV)))(y:kvs.length<db) :
  DPut H a (.ref b) v (upd H a (.dT (putK kvs k v))):=.inr ⟨kvs,k,b,e,rfl,j,y,rfl⟩


def Oa.big  {j: St}(I:Oa X pins j H s):yf<s.heap.objs.size:=by
 have h:ze<s.heap.objs.size:=(I.mod.glob.keeps I.bk).lt;exact Rz (by decide) h

def oU  {σ: St}(hu:A.units+1<bc)(I:Oa X pins σ H s)(g:DGet H a y (ia v))(ry:RelV y u)(h:∀J s',Oa X pins σ H s'->RelV v J->Q J s') :
  wpAny (Ka X.prog X.w) A (td (.ref a) u) Q E s:=by
 rcases g with⟨xa,k,e,Y,l⟩|⟨xa,k,b,e,Y,eb,l⟩
 ·subst Y;obtain⟨z,hd,vs,j,R⟩:=Qi I.hok e;obtain⟨J,Z,F⟩:=RelO.some_of (v:=v) (o:=Jf vs k) (by rw[l];exact j.val k)
  exact wpAny_getItem_of (Il ry) R.mapOf Z (h J _ (I.tok _) F)
 ·subst Y;cases(show u=Ie b from ry);obtain⟨z,hd,xs,j,R⟩:=Hl I.hok e;obtain⟨J,Z,F⟩:=RelO.some_of (v:=v) (o:=(Ug xs k).map (·.2)) (by rw[l];exact j.val k)
  obtain⟨p,hp,O⟩:=Option.map_eq_some_iff.mp Z;refine wpAny_getItem_heap (Nr hu) (Hn I.hok eb) R hp ?_;rw[O];exact h J _ (I.tok _) F
def d_in  {Z: St}(hu:A.units+1<bc)(I:Oa X pins Z H s)(g:DGet H a y o)(Y:RelV y u)(h:∀R,Oa X pins Z H R->Q (.bool o.isSome) R) :
  wpAny (Ka X.prog X.w) A (ce .In u (.ref a)) Q E s:=by
 rcases g with⟨O,k,e,J,l⟩|⟨O,k,b,e,J,eb,l⟩
 ·subst J;obtain⟨z,hd,vs,j,F⟩:=Qi I.hok e;refine wpAny_in_of (Il Y) hd F.mapOf ?_;rw[<- (j.val k).isSome_eq,<- l];exact h _ (I.tok _)
 ·subst J;cases(show u=Ie b from Y);obtain⟨z,hd,xs,j,F⟩:=Hl I.hok e;refine wpAny_in_heap (Nr hu) (Hn I.hok eb) hd F ?_;have q:=(j.val k).isSome_eq;rw[OA]at q;rw[<- q,<- l];exact h _ (I.tok _)
def cQ  {Z: St}(hu:A.units+1<bc)(I:Oa X pins Z H s)(g:DGet H a y o)(Y:RelV y u)(h:∀R,Oa X pins Z H R->Q (.bool (!o.isSome)) R) :
  wpAny (Ka X.prog X.w) A (ce .NotIn u (.ref a)) Q E s:=by
 rcases g with⟨O,k,e,J,l⟩|⟨O,k,b,e,J,eb,l⟩
 ·subst J;obtain⟨z,hd,vs,j,F⟩:=Qi I.hok e;refine wpAny_notIn_of (Il Y) hd F.mapOf ?_;rw[<- (j.val k).isSome_eq,<- l];exact h _ (I.tok _)
 ·subst J;cases(show u=Ie b from Y);obtain⟨z,hd,xs,j,F⟩:=Hl I.hok e;refine wpAny_notIn_heap (Nr hu) (Hn I.hok eb) hd F ?_;have q:=(j.val k).isSome_eq;rw[OA]at q;rw[<- q,<- l];exact h _ (I.tok _)
def gy  {j: St}(I:Oa X pins j H s)(J:Xr (H a))(hs:lm a s.heap h')(F:∃q,h'.get? a=ia q)(new:Od X.prog X.w (upd H a y) h' a y) :
  Oa X pins j (upd H a y) { s with heap:=h',toks:=t' }:=
 I.write (x:=a) (e:=a) J (.inl rfl) (λb q O z=>(hs.2 b O).trans z) F new
def qC        (z:kvs.length<=db)(hd:(a==yf)=ua)(j:KV kvs vs)(y:h'.DictOf (we P w) a vs) :
  Od P w H' h' a (.dK kvs):=⟨z,hd,vs,j,y⟩
def QT  {σ: St}(hu:A.units+1<bc)(I:Oa X pins σ H s)(g:DPut H a y v H')(ry:RelV y u)(rv:RelV v r)(h:∀s',Oa X pins σ H' s'->Q () s') :
  wpAny (Ka X.prog X.w) A (Ji (.ref a) u r) Q E s:=by
 rcases g with⟨j,k,e,Y,l,R⟩|⟨j,k,b,e,Y,eb,l,R⟩
 ·subst Y R;obtain⟨z,hd,vs,F,dd⟩:=JB I.hok e;have hz:vs.length<=db:=by rw[<- F.length];exact z
  have Z:(putK j k v).length<=db:=by have:=kz j k v;lia
  refine wpAny_setItem_pairs (hsz:=hz) (Il ry) dd λh' J hs=>h _ ?_;have he:∃q,h'.get? a=ia q:=let ⟨q,_,_,O,_⟩:=J;⟨q,O⟩
  exact gy I (by rw[e];exact zh) hs he (qC Z hd (F.put k rv) J)
 ·subst Y R;cases(show u=Ie b from ry);obtain⟨z,hd,xs,F,dd⟩:=TM I.hok e;have hz:xs.length<=db:=by rw[<- Tv F];exact z
  have Z:(putK j k v).length<=db:=by have:=kz j k v;lia
  refine wpAny_setItem_heap (hsz:=hz) (Nr hu) (Hn I.hok eb) dd λh' J hs=>h _ ?_;obtain⟨q,es,ep,O,h2,h3,h4,_,h5⟩:=J;refine gy I (by rw[e];exact zh) hs ⟨q,O⟩ ⟨Z,hd,_,(F.put k eb rv).keeps λc ys ec=>?_,q,es,ep,O,h2,h3,h4,h5⟩
  rw[Dc (kN ec e (λz=>nomatch z))];exact ec


def QM  {F: St}(I:Oa X pins F H s)(e:Rd H a (.dK kvs))(h:∀t y,Oa X pins F H y->Q (.int kvs.length t) y):wpAny (Ka X.prog X.w) A (call (.builtin "len") [.ref a]) Q E s:=by
 obtain⟨z,hd,O,j,J⟩:=Qi I.hok e;refine call_len_dict hd J (by rw[<- j.length];rw[Og]at z;lia) ?_
 rw[<- j.length];exact h _ _ (I.tok _)

def SV    {J:St}(I:Oa X pins J H s)(g:DGet H a y o):s.TypeIs (.ref a) "dict" := by
 rcases g with⟨F,k,e,_,_⟩|⟨F,k,b,e,_,_,_⟩
 ·obtain⟨_,_,R,_,j⟩:=Qi I.hok e;exact j.typeIs
 ·obtain⟨_,_,O,_,j⟩:=Hl I.hok e;exact j.typeIs


def iE     (h:Za)(j:yf<h.objs.size):Od P w H (h.push { cls:=.type "dict",data:=.dict #[] }) h.objs.size (.dK []):=
 ⟨He _,beq_eq_false_iff_ne.mpr (Ta (Xe j)),[],.nil,Za.DictOf.new h⟩
def yQ  : TE:=λ_ H Q=>∀p,H p=Aa->Q (.ref p) (upd H p (.dK []))

def bT  : PE X (.Dict [] [] pos) yQ:=λj s y H Q I h=>
 wpAny_Dict_empty ⟨.ref s.heap.objs.size,_,I.laid (a:=s.heap.objs.size) (o:=.dK []) (t':=s.toks) (λ_ _ q=>Nc _ q) (Fb _) (iE s.heap I.big),rfl,h _ (I.hok.fresh (Fb _))⟩

def uu  : List (TE×TE)->St->Hp->(List (V×V)->Hp->Prop)->Prop
 |[],_,H,Q=>Q [] H
 |(tk,tv)::r,σ,H,Q=>tk σ H λx F=>tv σ F λy I=>uu r σ I λJ j=>Q ((x,y)::J) j
abbrev VV  : List (V×V)->List (Da×Da)->Prop:=Fd λp q=>RelV p.1 q.1/\RelV p.2 q.2
def Jm  (X:Cx)(pos:Pos)(F:List (Option La))(j:List La)(I:List (TE×TE)):Prop:=
 ∀(y:List (Ba×Obj)) (s:Ja) (σ:St) (H:Hp) (Q:List (V×V)->Hp->Prop),Oa X y σ H s->uu I σ H Q->
  wpAny (Ka X.prog X.w) X.A (evalPairs (pairTrees F j X.env pos)) (λY R=>∃J O,Oa X y σ O R/\VV J Y/\Q J O) X.xe s
def fR    : Jm X pos [] [] []:=λj s y H Q I h=>pairTrees_nil_walk ⟨[],H,I,.nil,h⟩
def mT         (hk:PE X k tk)(hv:PE X v tv)(hr:Jm X pos ks vs J) :
  Jm X pos (ia k::ks) (v::vs) ((tk,tv)::J):=λj s O H Q I h=>
 pairTrees_cons_walk (Mb (hk j s O H _ I h) λu s1 ⟨x,H1,I1,rx,q1⟩=>Mb (hv j s1 O H1 _ I1 q1) λw2 s2 ⟨y,Y,Z,ry,q2⟩=>
  Mb (hr j s2 O Y _ Z q2) λws s3 ⟨ps,R,I3,F,q3⟩=>⟨(x,y)::ps,R,I3,.cons ⟨rx,ry⟩ F,q3⟩)

def Pl  (kvs j:List (Sb×V)):List (Sb×V):=j.foldl (λy F=>putK y F.1 F.2) kvs
def KV.merge  : ∀{j } {rs } {kvs } {vs },KV j rs->KV kvs vs->KV (Pl kvs j) (merged vs rs):=by
 intro j rs kvs vs r;unfold KV at r
 induction r generalizing kvs vs with
 |nil=>intro q;exact q
 |@cons p q I J h t F=>
  intro y;have e:KV (putK kvs p.1 p.2) (stored vs q.1 q.2):=by
   have:=y.put p.1 h.2;rw[<- h.1];exact this
  exact F e
theorem HG  : ∀(j kvs:List (Sb×V)),(Pl kvs j).length<=kvs.length+j.length
 |[],kvs=>by show kvs.length<=kvs.length+0;lia
 |p::r,kvs=>by
  have y:=HG r (putK kvs p.1 p.2);have F:=kz kvs p.1 p.2;show(Pl (putK kvs p.1 p.2) r).length<=_;rw[Td];lia
theorem EF    : ∀{kvs } {ws },VV (kvs.map λj=>(kV j.1,j.2)) ws->∃rs,Carries (we P w) ws rs/\KV kvs rs
 |[],_,r=>by rw[Fo]at r;cases r;exact⟨[],zh,.nil⟩
 |p::kvs,_,r=>by
  rw[Sd]at r;cases r with
  |@cons a b F bs h t=>
   obtain⟨rs,c,q⟩:=EF (P:=P) (w:=w) t;obtain⟨I,y⟩:=b;exact⟨(p.1,y)::rs,⟨Il h.1,rfl,c⟩,.cons ⟨rfl,h.2⟩ q⟩
def jO  (y:List (TE×TE)):TE:=λO H Q=>∀p,H p=Aa->uu y O (upd H p (.dK [])) λJ I=>I p=ia (.dK [])/\∃j:List (Sb×V),J=j.map (λF=>(kV F.1,F.2))/\j.length<=15/\Q (.ref p) (upd I p (.dK (Pl [] j)))
def XQ       (h:Jm X pos j y Y)(O:j.all (·.isSome)=la)(hl:j.length=y.length)(h0:j≠[])
  (Z:j.length<=15):PE X (.Dict j y pos) (jO Y):=by
 intro J s σ H Q I q;have hn:=I.hok.fresh (Fb s.heap.objs.size);have I1:=I.laid (a:=s.heap.objs.size) (o:=.dK []) (h':=s.heap.push { cls:=.type "dict",data:=.dict #[] }) (t':=s.toks) (λ_ _ q=>Nc _ q) (Fb _) (iE s.heap I.big);refine wpAny_Dict_walk (knd:=we X.prog X.w) O hl h0 Z (Mb (h J _ σ _ _ I1 (q _ hn)) λws s2 ⟨ps,H2,I2,xa,e,F,ep,lk,q2⟩=>?_);subst ep;obtain⟨rs,c,rk⟩:=EF (P:=X.prog) (w:=X.w) xa;obtain⟨z,hd,za,r0,dd⟩:=JB I2.hok e;cases r0;refine⟨rs,c,dd,λh' R hs=>⟨.ref s.heap.objs.size,_,?_,rfl,q2⟩⟩;have hz:(Pl [] F).length<=db:=by
  have h1:=HG F [];rw[ah]at h1;rw[Og];lia
 have he:∃q,h'.get? s.heap.objs.size=ia q:=let ⟨q,_,_,hq,_⟩:=R;⟨q,hq⟩
 exact gy I2 (by rw[e];exact zh) hs he (qC hz hd (rk.merge .nil) R)

structure M1 (X:Cx)(o:La)(m:Str)(apos:Pos)(e:La)(cpos:Pos):Prop where
 base:Qh o m X.env (Xa o X.env)=Xa o X.env
 few:((Xb cpos (gc [e] X.env)).all (λx=>!x.1)&&(backToKw cpos (keywordEach [] X.env)).all (λx=>x.1.isSome)
  && decide (([e]:List La).length+([]:List Hs).length+(if ([]:List Hs).isEmpty then 0 else 1)<30))=la
 line:(apos.endLine==cpos.line)=la
 trees:Xb cpos (gc [e] X.env)=[(ua,Xa e X.env)]
def UW  (H:Hp)(a:Ba):Prop:=(∃j,Rd H a (.dK j))\/∃j,Rd H a (.dT j)
def CC    {R:St}(I:Oa X pins R H s)(d:UW H a) :
  s.TypeIs (.ref a) "dict" /\ (∀b,Ie a=.ref b->∃j,s.heap.get? b=ia j/\j.dict=Aa)/\(a==yf)=ua:=by
 rcases d with⟨J,e⟩|⟨J,e⟩
 ·obtain⟨_,hd,Z,_,y⟩:=Qi I.hok e;refine⟨y.typeIs,λb q=>?_,hd⟩;cases q;obtain⟨j,_,_,O,F,_⟩:=y;exact⟨j,O,F.2.1⟩
 ·obtain⟨_,hd,Y,_,y⟩:=Hl I.hok e;refine⟨y.typeIs,λb q=>?_,hd⟩;cases q;obtain⟨j,_,_,O,F,_⟩:=y;exact⟨j,O,F.2.1⟩


def sN  {σ: St}(hu:A.units+1<bc)(I:Oa X pins σ H s)(g:DGet H a y o)(Y:RelV y u)(rd:RelV d r)(h:∀Z R,Oa X pins σ H R->RelV (o.getD d) Z->Q Z R) :
  wpAny (Ka X.prog X.w) A (call (.builtin "dict.get") [.ref a,u,r]) Q E s:=by
 rcases g with⟨O,k,e,J,l⟩|⟨O,k,b,e,J,eb,l⟩
 ·subst J;obtain⟨z,hd,vs,j,F⟩:=Qi I.hok e;refine Iv uw F.typeIs RK (TK _ _ _) (meets_dict_get_default (we X.prog X.w) a (Il Y) hd r) ⟨_,F.mapOf,h _ _ (I.tok _) ?_⟩;rw[l];exact(j.val k).getD rd
 ·subst J;cases(show u=Ie b from Y);obtain⟨z,hd,xs,j,F⟩:=Hl I.hok e;refine Iv uw F.typeIs RK (TK _ _ _) (meetsH_dict_get_default (bo (we X.prog X.w)) a b hd r) ⟨Nr hu,k,xs,Hn I.hok eb,F,h _ _ (I.tok _) ?_⟩;rw[l];exact(j.val k).getD rd






end L2

namespace Att
open PySem PySem.W PySem.Calls PyProof.Rows

def BW    : ∀(ns:List Int) vs ,WellAll P h vs (ns.map WData.int)->Ye vs ns:=by
 intro ns
 induction ns with
 |nil=>
  intro vs w;rw[Fo]at w;cases w;exact .nil
 |cons n ns j=>
  intro vs w;rw[Sd]at w;cases w with
  |cons a b=>
   cases a;exact .cons _ _ (j _ b)

def NU  {l:Ki}(hn:l.most=ia n) 
  (j:l.row.toRowW.claim.pre args=la) (R:WellAll P h y args) :
  ∃a vs ns,y=[Ie a]/\args=[WData.list (ns.map WData.int)]/\h.get? a=ia { cls:=.type "list",data:=.seq vs.toArray }/\Ye vs ns/\ns.length<=n:=by
 have Y:Uo.hasAll [] args [.list .int]=la:=(pre_splitW j).1;have Z:l.pre.holds [] { args:=args }=la:=(pre_splitW j).2;obtain⟨d,r,rfl,h1,h2⟩:=hasAllW_cons Y;obtain rfl:=hasAllW_nil h2;obtain⟨xs,rfl,h3⟩:=hasW_list h1;obtain⟨ns,rfl⟩:=items_int h3;have I:ns.length<=n:=by
  unfold Ki.pre at Z;have J:(WTm.not (.lt (.lit (.int (n:Int))) (.len (.arg 0)))).holds [] { args:=[.list (ns.map .int)] }=la:=by
   have J:=(holds_andW Z).1;rw[hn]at J;exact J
  have O:=condW_of J (w_not (w_lt w_lit (w_len_list (w_arg rfl))));rw[Hb]at O;refine Nat.le_of_not_lt λq=>?_;have q':(n:Int)<((ns.length:Nat):Int):=by lia
  first
   |(rw[decide_eq_true q']at O;exact absurd O (by decide))
   |(simp at O;lia)
 cases R with
 |cons w1 w2=>
  cases w2;cases w1 with
  |list ho F=>exact⟨_,_,ns,rfl,rfl,ho,BW ns _ F,I⟩

def KU  (l:Ki) args:l.row.toRowW.claim.post args (.bool la) args=la:=
 postW_of (r:=l.row.toRowW) (X:=(la==la))
  (show Uo.has [] (.bool la) .bool=la by first|rfl|decide|simp[Uo.has,Uo.arms,Uo.armsAll])
  (show(WTm.eq .res (.lit (.bool la))).value [] { args:=args,res:=ia (.bool la),after:=args }=ia (.bool (la==la))from w_eq_bool (w_res rfl) w_lit) rfl

def attach_call  {l:Ki} 
  (hn:l.most=ia n) (va:d.params.defaults=[])
  (call:∀(w:Db) (s₀ j:Ja) mg mb I (o:Obj) pm cd F a (vs:List Da) (ns:List Int),
   Ground q loose [] XP w s₀ mg mb j.heap->YP w j.heap->
   j.heap.get? I=ia o->o.data=.func (docDef d.name d.params d.body d.scope pm cd F)->j.heap.CodeRec cd d.name->mg d.name=ia (.ref I)->
   j.heap.get? a=ia { cls:=.type "list",data:=.seq vs.toArray }->Ye vs ns->ns.length<=n->j.gens=#[]->
   codeAny (Ka l.prog w) Fg (.call (.ref I) ⟨[.ref a],[]⟩) (λr Z=>r=.ok (.ret (.bool la))/\OldK j.heap Z.heap/\Z.os=j.os/\ve Z.gens) j) :
  WalkO q loose XP YP l.row.toRowW d [] (λf vs=>aA f vs):=by
 intro w s₀ j mg mb G Y I o pm cd F dV kV ho hd ja hD za hg ka wa as O ya ha xa xb;obtain rfl:dV=.none:=Dflts.none hD va;obtain rfl:kV=.none:=Dflts.noKw hD;obtain⟨a,vs,ns,rfl,rfl,R,y,J⟩:=NU hn O xa;refine enter_call (Jv (call w s₀ j mg mb I o pm cd F a vs ns G Y ho (fd_plain hd) ja za R y J hg) λr Z hq=>?_);obtain⟨rfl,h2,h3,h4⟩:=hq;exact⟨.inl ⟨.bool la,.bool la,[],rfl,λ_=>rfl,.bool la,KU l _,λ_=>⟨SK,λ_ hm=>(nomatch hm)⟩⟩,h2,h3,h4⟩


end Att

namespace L2
open PySem PySem.Spec PyProof.Rows

theorem WF  : ∀{vs } {ns },Ye vs ns->Vals (ns.map V.int) vs
 |_,_,.nil=>.nil
 |_,_,.cons n t h=>.cons ⟨t,rfl⟩ (WF h)



noncomputable def xg  (s:Qa)(j:Nat):Qa:=match s with
 |.ClassDef _ _ _ y _ _ _ _ _ _ _=>y.getD j (.Pass ⟨0,0,0,0⟩)
 |_=>.Pass ⟨0,0,0,0⟩
def mi  (s:Qa):qv:=match s with
 |.FunctionDef _ a _ _ _ _ _ _ _ _=>a
 |_=>{ posonlyargs:=[],args:=[],vararg:=Aa,kwonlyargs:=[],kw_defaults:=[],kwarg:=Aa,defaults:=[] }
def Se  (s:Qa):List Qa:=match s with
 |.FunctionDef _ _ b _ _ _ _ _ _ _=>b
 |_=>[]
def Ge  (s:Qa):Rc:=match s with
 |.FunctionDef _ _ _ _ _ _ j _ _ _=>j
 |_=>{ kind:=.function,names:=[],isGenerator:=ua,isCoroutine:=ua }

abbrev E0  : XK:=λ_ _ _=>False
structure Fun (K:Nb)(x qual:Str)(st:Qa)(f:Ba)(fd:Ul):Prop where
 ex:∃(oc:Da) (od:Option Ba) (kV doc pm:Da) (an:Option Ba) (cdv ct:Da) (osl:Array (Option Da)),
  fd=Ag x qual (mi st) (Se st) (Ge st) .none kV doc pm an cdv ct/\K.lookup f=ia ⟨oc,od,.func fd,osl⟩/\pj K cdv qual=la
 kp:Lh K (.ref f)=la

def Fun.binds  {K: Nb}{st:Qa}(F:Fun K x I st f fd)
  (h:∀kV j J O y ct (us:List Da),us.length=ps.length->zk (Ag x I (mi st) (Se st) (Ge st) .none kV j J O y ct) ⟨us,[]⟩=pure (ps.zip us)):Binds K fd ps []:=by
 obtain⟨Z,od,kV,j,J,O,y,ct,R,rfl,lk,Y⟩:=F.ex;exact .all (h kV j J O y ct)
def Ex  {K: Nb}{st:Qa}{kV F I y ct:Da}(l:K.lookup f=ia ⟨R,od,.func (Ag x j (mi st) (Se st) (Ge st) .none kV F I O y ct),J⟩)
  (c:pj K y j=la) (k:Lh K (.ref f)=la):Fun K x j st f (Ag x j (mi st) (Se st) (Ge st) .none kV F I O y ct):=⟨⟨R,od,kV,F,I,O,y,ct,J,rfl,l,c⟩,k⟩
def ZM    (hr:Room k A):A.units+1<bc:=Pg (kK (by decide:1<=64) _) hr.units


def iteF  {A B:Prop}(h:B):if ua=la then A else B:=by
 rw[if_neg Ld];exact h
def iteT  {A B:Prop}(h:A):if la=la then A else B:=by
 rw[if_pos rfl];exact h

def jU  : mf X (.builtin "len") (λxs H Q=>∃a kvs,xs=[V.ref a]/\H a=ia (.dK kvs)/\Q (.int kvs.length) H):=by
 intro j s Y H xs O Q I r h;obtain⟨a,kvs,rfl,J,q⟩:=h;obtain⟨u,rfl,y⟩:=nh r;cases y;exact QM I (.inl J) λt R F=>⟨.int kvs.length,H,F,⟨t,rfl⟩,q⟩
section
variable {κ:Type}[DecidableEq κ]
end
end L2

namespace L2
open PySem PySem.Spec PyProof.Rows


noncomputable def yy  (env:Env)(ifs:List La):Sem Bool:=forIn ifs la λc r=>ite (r=la) (se c env (Xa c env) >>= λb=>pure (.yield b)) (pure (.yield r))
def Pq  (y:Pos)(j:La)(ifs:List La)(it:Da)(env:Env)(em:Sem Unit)(next:Li):Sem Fin:=
 re y >>= λ_=>pyNext it >>= λr=>match r with
  |none=>pure (.done .next)
  |some v=>Sr j it v >>= λ_=>Jc j env v >>= λ_=>yy env ifs >>= λok=>ite (ok=la) (em >>= λ_=>again next) (again next)
def iS  (M:Gs)(A:Ub)(y:La)(ifs:List La)(it:Da)(env:Env)(em:Sem Unit)(j:Ja->Prop)(less:Ja->Prop):Option Da->Ja->Prop
 |none,s=>j s
 |some v,s=>wpAny M A (Sr y it v) (λ_ s=>wpAny M A (Jc y env v) (λ_ s=>wpAny M A (yy env ifs) (λok s=>if ok=la then wpAny M A em (λ_ s=>less s) (λ_ _=>False) s else less s) (λ_ _=>False) s) (λ_ _=>False) s) (λ_ _=>False) s
def jW             (I : Nat -> Ja -> Prop)
    (J : fo (.ListComp elt gens scope pos) F it acc env = Pq O j ifs it env em (.compLoop (.ListComp elt gens scope pos) F it acc env))
    (y : ∀ k t, I k t -> wpAny (Ka prog w) A (pyNext it) (iS (Ka prog w) A j ifs it env em (R (.ok .next)) λt => ∃ m, m < k /\ I m t) (λ_ _ => False) t)
     n (h : I n s) : codeAny (Ka prog w) A (.compLoop (.ListComp elt gens scope pos) F it acc env) R s := by
  have no : ∀ {Z : Da -> Ja -> Prop} (e : Da) (t : Ja), False -> Z e t := λ_ _ f => f.elim
  refine codeAny_loop rfl I (λk t hk => wpAny_noted (m := fo (.ListComp elt gens scope pos) F it acc env) (J ▸ ?_)) n h
  refine ub (Wj (ub (We (y k t hk) (λr t1 p => ?_) no)))
  match r, p with
  | none, p => exact Wb p
  | some v, p =>
    refine ub (We p (λ_ t2 p => ub (We p (λ_ t3 p => ub (We p (λok t4 p => ?_) no)) no)) no)
    match ok, p with
    | false, p => exact Wb ⟨rfl, p⟩
    | true, p => exact ub (We p (λ_ Y p => Wb ⟨rfl, p⟩) no)

theorem Zy  (env:Env):∀(names:List (Str×Rf)) acc ,(∀y∈names,y.2=.free->∃c,env.cells.lookup y.1=ia c)->
  ∃cl ,(forIn names acc (λ(y:Str×Rf) O=>(if (y.2==Vf)=la then (do let c <- cellOf env y.1;pure (ForInStep.yield ((y.1,c)::O))) else pure (ForInStep.yield O):Sem (ForInStep (List (Str×Ba))))):Sem (List (Str×Ba)))=pure cl/\
   (∀x c,(x,c)∈cl->(x,c)∈acc\/(env.cells.lookup x=ia c/\(x,Vf)∈names))/\(∀p∈acc,p∈cl)/\(∀y∈names,y.2=.free->∃c,(y.1,c)∈cl)
 |[],acc,_=>⟨acc,rfl,λ_ _ h=>.inl h,λ_ h=>h,λ_ h=>nomatch h⟩
 |(n,k)::r,acc,h=>by
  by_cases hk:k=.free
  ·subst hk;obtain⟨c,Y⟩:=h (n,.free) Cf rfl;obtain⟨cl,e,J,F,R⟩:=Zy env r ((n,c)::acc) λy j=>h y (Uc _ j);refine⟨cl,?_,λx d hd=>?_,λp Z=>F p (Uc _ Z),λy j I=>?_⟩
   ·rw[List.forIn_cons];have:(cellOf env n:Sem Ba)=pure c:=by unfold cellOf;rw[Y]
    simp_all
   ·grind
   grind
  ·obtain⟨cl,e,J,F,R⟩:=Zy env r acc λy j=>h y (Uc _ j);have hb:(k==Vf)=ua:=by simpa using hk
   refine⟨cl,?_,λx d hd=>?_,F,λy j I=>?_⟩
   ·rw[List.forIn_cons];simp only[hb,ZJ,if_false,pure_bind];exact e
   ·rcases J x d hd with z|⟨z,z'⟩
    ·exact .inl z
    ·exact .inr ⟨z,Uc _ z'⟩
   ·rcases ic.mp j with z|z
    ·subst z;exact absurd I hk
    ·exact R y z I
theorem IG  {j:Type}:∀{l:List (Str×j)} {x } {c },(x,c)∈l->∃d,l.lookup x=ia d/\(x,d)∈l
 |(n,k)::r,x,c,h=>by
  cases y:x==n with
  |true=>
   simp_all
  |false=>
   rcases ic.mp h with z|z
   ·lia
   ·obtain⟨d,e,m⟩:=IG z
    grind
def FF    (h:∀y∈scope.names,y.2=.free->∃c,env.cells.lookup y.1=ia c) :
  ∃cl ,closureFor scope env=pure cl/\(∀x c,cl.lookup x=ia c->env.cells.lookup x=ia c)/\(∀y∈scope.names,y.2=.free->∃c,cl.lookup y.1=ia c):=by
 obtain⟨cl,e,J,_,O⟩:=Zy env scope.names [] h;refine⟨cl,?_,λx c I=>?_,λy R F=>?_⟩
 ·unfold closureFor
  simp_all
 ·rcases J x c (Bg I)with z|⟨z,_⟩
  ·simp_all
  lia
 ·obtain⟨c,j⟩:=O y R F;obtain⟨d,e,_⟩:=IG j
  simp_all

noncomputable def ke  (X:Cx)(N:List Str)(scope:Rc)(cl:List (Str×Ba))(C:Ba)(s₀:Ja)(H₀:Hp)(j:List Ba):Cx where
 prog:=X.prog
 w:=X.w
 K:=X.K
 mg:=X.mg
 base:=X.base
 A:=X.A
 N:=N
 s₀:=s₀
 H₀:=H₀
 env:=compEnvC scope cl C X.env
 outer:=X.stack
 stack:=X.stack
 ex:=j
 fn:=λx=>scope.names.lookup x==ia .cell
 calm:=X.calm
 pn:=[]
 xe:=λ_ _=>False

noncomputable def bX  (I:List Str)(F:List (Str×Rf))(N:List Str)(pick:List (Option Nat))(scope:Rc):Bool:=
 decide (scope.kind=.function)&&scope.names.all (λy=>y.2 != .cell||scope.names.lookup y.1==ia .cell)&&scope.names.all (λy=>y.2 != .local||scope.names.lookup y.1==ia .local)
  && scope.names.all (λy=>y.2 != .free||(scope.names.lookup y.1==ia .free&&(F.lookup y.1==ia .cell||F.lookup y.1==ia .free)))
  && pick.length==N.length&&(N.zip pick).all (λp=>match p.2 with|none=>la|some j=>I[j]?==ia p.1&&scope.names.lookup p.1==ia .free)

structure CScope (X:Cx)(N:List Str)(pick:List (Option Nat))(scope:Rc):Prop where
 kind:scope.kind=.function
 cells:∀y∈scope.names,y.2=.cell->scope.names.lookup y.1=ia .cell
 names:∀y∈scope.names,y.2=.local->scope.names.lookup y.1=ia .local
 fre:∀y∈scope.names,y.2=.free->scope.names.lookup y.1=ia .free/\(X.env.kindOf y.1=ia .cell\/X.env.kindOf y.1=ia .free)
 len:pick.length=N.length
 caps:∀(i j:Nat) (x:Str),N[i]?=ia x->pick[i]?=ia (ia j)->X.N[j]?=ia x/\scope.names.lookup x=ia .free
theorem jH  (f:Str->Rf->Rf):∀(names:List (Str×Rf)) x ,(names.map λy=>(y.1,f y.1 y.2)).lookup x=(names.lookup x).map (f x)
 |[],_=>rfl
 |(n,k)::r,x=>by
  rw[Sd,lj,lj,jH f r x];by_cases e:x=n
  ·subst e;rw[beq_self_eq_true];rfl
  ·rw[beq_false_of_ne e]
noncomputable def FC  (env:Env)(n:Str)(k:Rf):Rf:=if (k==Vf&&env.scope.kind == .function&&env.kindOf n==ia .cell) then .cell else k
def OG (env:Env)(names:List (Str×Rf))(x:Str) :
  (names.map λ(n,k)=>if (k==Vf&&env.scope.kind == .function&&env.kindOf n==ia .cell) then (n,Hf) else (n,k)).lookup x=(names.lookup x).map (FC env x):=by
 rw[<- jH (FC env)];congr 2;funext y;show ite _ _ _=(y.1,ite _ _ _)
 lia
def zI {env:Env}{names:List (Str×Rf)}{x:Str}(h:names.lookup x=ia .free) :
  (names.map λ(n,k)=>if (k==Vf&&env.scope.kind == .function&&env.kindOf n==ia .cell) then (n,Hf) else (n,k)).lookup x=ia .cell\/
  (names.map λ(n,k)=>if (k==Vf&&env.scope.kind == .function&&env.kindOf n==ia .cell) then (n,Hf) else (n,k)).lookup x=ia .free:=by
 rw[OG,h];show ia (ite _ _ _)=_\/ia (ite _ _ _)=_
 lia
def Iz {env:Env}{q:Rf}(j:q≠.free){names:List (Str×Rf)}{x:Str}(h:names.lookup x=ia q) :
  (names.map λ(n,k)=>if (k==Vf&&env.scope.kind == .function&&env.kindOf n==ia .cell) then (n,Hf) else (n,k)).lookup x=ia q:=by
 rw[OG,h];show ia (ite _ _ _)=_
 lia
theorem DH {env:Env}:∀{names:List (Str×Rf)} {x:Str},
  ((names.map λ(n,k)=>if (k==Vf&&env.scope.kind == .function&&env.kindOf n==ia .cell) then (n,Hf) else (n,k)).lookup x=ia .cell\/
  (names.map λ(n,k)=>if (k==Vf&&env.scope.kind == .function&&env.kindOf n==ia .cell) then (n,Hf) else (n,k)).lookup x=ia .free)->(x,Vf)∈names\/(x,Hf)∈names
 |[],_,h=>by simp at h
 |(n,k)::r,x,h=>by
  have I:_->_:=@DH env r x;have j:yh x ((if (k==Vf&&env.scope.kind == .function&&env.kindOf n==ia .cell)=la then (n,Hf) else (n,k))::r.map λ(n,k)=>if (k==Vf&&env.scope.kind == .function&&env.kindOf n==ia .cell) then (n,Hf) else (n,k))=ia .cell\/yh x ((if (k==Vf&&env.scope.kind == .function&&env.kindOf n==ia .cell)=la then (n,Hf) else (n,k))::r.map λ(n,k)=>if (k==Vf&&env.scope.kind == .function&&env.kindOf n==ia .cell) then (n,Hf) else (n,k))=ia .free:=h
  by_cases hk:k=.free
  ·cases y:x==n with
   |true=>simp_all
   |false=>
    refine(I ?_).imp (Uc _) (Uc _);by_cases F:(k==Vf&&env.scope.kind == .function&&env.kindOf n==ia .cell)=la
    ·rw[if_pos F]at j;simpa only[lj,y]using j
    ·rw[if_neg F]at j;simpa only[lj,y]using j
  ·have J:(k==Vf)=ua:=by simpa using hk
   rw[if_neg (by simp[J])]at j
   cases y:x==n with
   |true=>
    simp only[lj,y]at j;rcases j with z|z
    ·rw[eq_of_beq y,Nd z];exact .inr Cf
    ·exact absurd (Nd z) hk
   |false=>exact(I (by simpa only[lj,y]using j)).imp (Uc _) (Uc _)

theorem Yq  : ∀names n acc ,Gf n names acc=Gf n names []++acc
 |[],_,_=>rfl
 |(x,k)::r,n,acc=>by
  unfold Gf;split
  ·rw[Yq r (n+1) ((x,n)::acc),Yq r (n+1) [(x,n)],Pr];rfl
  ·exact Yq r n acc
theorem gv  : ∀names n {x } {c },(x,c)∈Gf n names []->(x,Hf)∈names
 |[],_,_,_,h=>nomatch h
 |(y,k)::r,n,x,c,h=>by
  unfold Gf at h;split at h
  ·rename_i hk;rw[Yq]at h;rcases Ma.mp h with h|h
   ·exact Uc _ (gv r _ h)
   simp_all
  ·exact Uc _ (gv r _ h)
def yV  {j:Type}:∀(l m:List (Str×j)) x ,(l++m).lookup x=(l.lookup x).or (m.lookup x)
 |[],_,_=>by simp
 |(n,k)::r,m,x=>by
  grind
structure BCells (scope:Rc)(cl cs:List (Str×Ba))(lo:Nat)(h:Za):Prop where
 lk:∀x c,cs.lookup x=ia c->((x,Hf)∈scope.names/\lo<c/\h.IsCell c Aa)\/((x,Hf)∉scope.names/\cl.lookup x=ia c)
 own:∀x,scope.names.lookup x=ia .cell->∃c,cs.lookup x=ia c/\lo<c
 old:∀x c,(x,Hf)∉scope.names->cl.lookup x=ia c->cs.lookup x=ia c
 inj:∀x y c,cs.lookup x=ia c->cs.lookup y=ia c->lo<c->x=y
def dU   {cl:List (Str×Ba)}{lo:Nat}(hl:h.objs.size=lo+1)(S:∀y∈scope.names,y.2=.cell->scope.names.lookup y.1=ia .cell)(Z:∀x c,cl.lookup x=ia c->c<=lo):BCells scope cl (Gf (lo+1) scope.names cl) lo (xr h scope.names):=by
 have ok:=cellsFrom_ok scope.names h (lo+1) [] ⟨λ_ _ Y=>(nomatch Y),SK⟩ (by lia)
 rw[hl]at ok;have look:∀x,(Gf (lo+1) scope.names cl).lookup x=((Gf (lo+1) scope.names []).lookup x).or (cl.lookup x):=λx=>by rw[Yq,yV]
 have own:∀x,(x,Hf)∈scope.names->∃c,(Gf (lo+1) scope.names []).lookup x=ia c:=λx j=>Ey (S _ j rfl);refine⟨λx c e=>?_,λx j=>?_,λx c j R=>?_,λx y c O I R=>?_⟩
 ·rw[look]at e;by_cases j:(x,Hf)∈scope.names
  ·obtain⟨F,J⟩:=own x j;rw[J,Option.some_or]at e;have e:F=c:=Nd e;subst e;obtain⟨z1,z2⟩:=ok.empty x F (Bg J)
   lia
  ·cases q:(Gf (lo+1) scope.names []).lookup x with
   |some F=>exact absurd (gv _ _ (Bg q)) j
   |none=>simp_all
 ·obtain⟨c,e⟩:=own x (Bg j);exact⟨c,by simp_all,(ok.empty x c (Bg e)).2⟩
 ·rw[look];cases q:(Gf (lo+1) scope.names []).lookup x with
  |some F=>exact absurd (gv _ _ (Bg q)) j
  |none=>simp_all
 ·rw[look]at O I;have new:∀x,((Gf (lo+1) scope.names []).lookup x).or (cl.lookup x)=ia c->(Gf (lo+1) scope.names []).lookup x=ia c:=λx e=>by
   cases q:(Gf (lo+1) scope.names []).lookup x with
   |some F=>simp_all
   |none=>
    grind
  exact name_of_addr ok.apart (Bg (new x O)) (Bg (new y I))
def FW           
  (y:Q (newEnv scope s.heap.objs.size globals (Gf (s.heap.objs.size+1) scope.names cl) j Aa .none (ia env) oo) { s with heap:=xr (s.heap.push { cls:=.type "dict",data:=.dict #[] }) scope.names }) :
  wpAny M A (Uz scope globals cl [] j Aa .none (ia env)) Q E s:=by
 have sz:(s.heap.push { cls:=.type "dict",data:=.dict #[] }).objs.size=s.heap.objs.size+1:=zA ..;unfold Uz;rw[if_pos (by rfl)]
 refine ub (wpAny_alloc (ub (wpAny_layCells _ (λx k c=>by lia) _ _ _ _ ?_)))
 rw[show Za.objs (Ja.heap _)=(s.heap.push { cls:=.type "dict",data:=.dict #[] }).objs from rfl,sz];exact ub (Wb (Wb y))


def LW   (h:scope.names.lookup x=ia .globalImplicit):Gl (ke X N scope cl C s₀ H₀ j) x:=Iz (by decide) h

def PIfs  (X:Cx)(ifs:List La)(t:TT):Prop:=
 ∀(j:List (Ba×Obj)) (s:Ja) (σ:St) (H:Hp) (Q:Bool->Hp->Prop),Oa X j σ H s->t σ H Q->
  wpAny (Ka X.prog X.w) X.A (yy X.env ifs) (TP X j σ Q) X.xe s
def pO  : TT:=λ_ H Q=>Q la H
def bR   : PIfs X [] pO:=λ_ _ _ H _ I h=>wpAny_tests_nil ⟨H,I,h⟩
def cR     (h:PT X c t):PIfs X [c] t:=λj s y H Q I q=>wpAny_tests_one (h j s y H Q I q)

abbrev gk:=St->List V->Hp->(St->List V->Hp->Prop)->Prop
def Gx  (J:It)(g:TG)(tt:TT)(R:gk)(QQ:St->List V->Hp->Prop)(O:St)(xa:List V)(H1:Hp):Prop:=∃W:Nat->Nat->St->List V->Hp->Prop,
 (∃m,W 0 m O xa H1)/\∀i m I F H,W i m I F H->
  (J.stop i H/\QQ I F H)\/(J.go i H/\∀x H',J.yld i H x H'->g x I H' λj H2=>tt j H2 λb H3=>if b=la then R j F H3 λY Z H4=>∃y,y<m/\W (i+1) y Y Z H4
   else ∃y,y<m/\W (i+1) y j F H3)
def Kz  (I:TE)(D:Ba):gk:=λF j H Q=>I F H λv y=>y D=ia (.lst j)/\j.length<db/\Q F (j++[v]) (upd y D (.lst (j++[v])))
def LcGG  (J:It)(g:TG)(F:TT)(y:Ba->gk)(D:Ba)(j:St)(Q:VK)(I:Hp):Prop:=Gx J g F (y D) (λ_ _ H=>Q (.ref D) H) j [] (upd I D (.lst []))
def Mo  (Y:Cx)(em:Sem Unit)(F:gk):Prop:=∀(j:List (Ba×Obj)) (s:Ja) (τ:St) (ys:List V) (H:Hp) (Q:St->List V->Hp->Prop),Oa Y j τ H s->F τ ys H Q->
 wpAny (Ka Y.prog Y.w) Y.A em (λ_ O=>∃y I J,Oa Y j y J O/\Q y I J) Y.xe s
def tLcG  (pick:List (Option Nat))(R:TI)(g:TG)(O:TT)(y:Ba->gk):TE:=λI H Q=>R I H λJ F=>∀D,F D=Aa->LcGG J g O y D (pick.map λo=>o.bind λj=>(I[j]?).join) Q F
abbrev Jw  (pick:List (Option Nat))(y:TI)(g:TG)(F:TT)(j:TE):TE:=tLcG pick y g F (Kz j)
section
variable {X:Cx}{N:List Str}{pick:List (Option Nat)}{scope:Rc}{pins:List (Ba×Obj)}{σ:St}{s s3:Ja}{H H3:Hp}

def vV  {cl cs:List (Str×Ba)}{fp:List Ba}(S:CScope X N pick scope)(F:Oa X pins σ H3 s3)(hf:∀b∈fp,FpOk X pins H3 b)(ja:∀b∈fp,b<s3.heap.objs.size)
  (c1:∀x c,cl.lookup x=ia c->X.env.cells.lookup x=ia c) (c2:∀y∈scope.names,y.2=.free->∃c,cl.lookup y.1=ia c) (B:BCells scope cl cs s3.heap.objs.size I)
  (ya:I.Ns s3.heap.objs.size mB) (hk:∀b o,s3.heap.get? b=ia o->I.get? b=ia o) :
  Oa (ke X N scope cs s3.heap.objs.size s3 H3 fp) [] (pick.map λo=>o.bind λj=>(σ[j]?).join) H3 { s3 with heap:=I,toks:=tk }:=by
 have xa:∀b∈Bf X.stack,b∈X.env.locals::X.fs:=F.stkSub;have oc:∀x c,cs.lookup x=ia c->X.env.cells.lookup x=ia c\/s3.heap.objs.size<c:=λx c e=>by
  rcases B.lk x c e with⟨_,z,_⟩|⟨_,z⟩
  ·lia
  simp_all
 have wa:∀x,((x,Vf)∈scope.names\/(x,Hf)∈scope.names)->∃c,cs.lookup x=ia c:=λx Z=>by
  by_cases J:(x,Hf)∈scope.names
  ·obtain⟨c,e,_⟩:=B.own x (S.cells _ J rfl)
   simp_all
  ·rcases Z with Z|Z
   ·obtain⟨c,e⟩:=c2 _ Z rfl;exact⟨c,B.old x c J e⟩
   lia
 refine⟨⟨F.ok.mod,S.kind,F.ok.glob,F.ok.blt,Fb _,λx y c e1 e2=>?_,λx Z=>wa x (DH Z),λx c z e=>?_,F.ok.hd,F.ok.frames,.inl rfl,λb R=>⟨Xe (ja b R),λx c e=>?_⟩,
   F.bs,Lb F.ok.bsz F.sz,λb o e R=>?_,λb R hm=>?_,F.stack,F.stkFree⟩,
  rfl,F.bare,Un.kept hk,⟨_,ya,λi x v e1 e2 e3=>?_⟩,λx c e=>?_,F.hok.fresh (Fb _),λx c e=>?_,λp hp=>absurd (show p∈([]:List (Ba×Obj))from hp) (by simp),F.hok.kept hk,?_⟩
 ·by_cases J:s3.heap.objs.size<c
  ·exact B.inj x y c e1 e2 J
  ·exact F.ok.inj x y c ((oc x c e1).resolve_right J) ((oc y c e2).resolve_right J)
 ·have z':scope.names.lookup x=ia .cell:=eq_of_beq z;rcases B.lk x c e with⟨_,y,_⟩|⟨y,_⟩
  ·exact Ei y
  ·exact absurd (Bg z') y
 ·rcases oc x c e with z|z
  ·exact(hf b R).2.2.2.2.1 x c z
  ·intro q;rw[q]at z;exact absurd (Rz z (ja b R)) (Rh _)
 ·rcases(hf b R).2.2.2.1 with z|z
  ·exact F.ok.noex b o e z
  ·exact absurd (Wf (Lc e) (Lb F.ok.bsz z)) (Rh _)
 ·rcases ic.mp (xa b hm)with z|z
  ·exact(hf b R).2.1 z
  ·exact(hf b R).2.2.1 z
 ·-- a captured name
  have ka:∃j,pick[i]?=ia (ia j)/\σ[j]?=ia (ia v):=by
   rw[Dd]at e2;cases q:pick[i]? with
   |none=>simp_all
   |some o=>
    rw[q]at e2;cases o with
    |none=>simp at e2
    |some j=>
     grind
  obtain⟨j,ej,ev⟩:=ka;obtain⟨hN,za⟩:=S.caps i j x e1 ej;have O:(x,Vf)∈scope.names:=Bg za;have va:(x,Hf)∉scope.names:=λz=>by
   have:=S.cells _ z rfl
   lia
  obtain⟨_,Y⟩:=S.fre _ O rfl;obtain⟨m,hn,hl⟩:=F.loc;obtain⟨u,r,l⟩:=hl j x v hN ev (Y.elim (λz=>.inr (.inl z)) λz=>.inr (.inr z));refine⟨u,r,.inr ⟨?_,?_⟩⟩
  ·exact zI (env:=X.env) za
  ·obtain⟨c,J⟩:=c2 _ O rfl;have ha:=c1 _ _ J;rcases l with⟨z,_⟩|⟨_,c',e,o,ho,hd⟩
   ·lia
   ·have:c'=c:=by lia
    subst this;exact⟨c',B.old x c' va J,o,hk _ _ ho,hd⟩
 ·rcases B.lk x c e with⟨_,_,z⟩|⟨_,z⟩
  ·grind
  ·obtain⟨v,o,ho,hd⟩:=F.cell x c (c1 x c z);exact⟨v,o,hk _ _ ho,hd⟩
 ·rcases oc x c e with z|z
  ·exact F.freeC x c z
  ·exact F.hok.fresh (Ei z)
 ·rw[Hb];exact S.len

def zT     {O:St}(R:Oa X pins σ H3 s3)(j:∀b∈Y,FpOk X pins H3 b)(J:Oa (ke X N scope cl C s3 H3 Y) F O H' I) :
  Oa X pins σ H' I:=R.call' J.os J.base J.hok J.bare λb y=>⟨(j b y).2.2.2.1,(j b y).2.1,(j b y).2.2.2.2.1,(j b y).2.2.2.2.2⟩

def yR                  {ja:St} 
  (yc:Y.calm=la) (Z:Y.xe=λ_ _=>False)
  (ha:fo (.ListComp elt gens scope pos) dp (.ref it) acc Y.env=Pq ip tg ifs (.ref it) Y.env em (.compLoop (.ListComp elt gens scope pos) dp (.ref it) acc Y.env))
  (yg:PG Y tg g) (yi:PIfs Y ifs tt) (ym:Mo Y em zb) (J0:Oa Y pins ja H s) (T:Turn Y.prog Y.w Y.K tg J fp it tn) (t0:tn 0 s.heap) (f0:∀b∈fp,FpOk Y pins H b) (hW:Gx J g tt zb QQ ja ka H) :
  codeAny (Ka Y.prog Y.w) Y.A (.compLoop (.ListComp elt gens scope pos) dp (.ref it) acc Y.env) (λr s'=>r=.ok .next/\∃ya xb j,Oa Y pins ya j s'/\QQ ya xb j) s:=by
 obtain⟨W,⟨m0,w0⟩,xa⟩:=hW;have F:∀{j:Hp},(∀b∈fp,j b=Aa)->∀b∈fp,FpOk Y pins j b:=λhn b R=>⟨hn b R,(f0 b R).2⟩;refine jW (λn s'=>∃i I ys j,Oa Y pins I j s'/\tn i s'.heap/\(∀b∈fp,j b=Aa)/\W i n I ys j) ha ?_ m0 ⟨0,_,ka,_,J0,t0,λb R=>(f0 b R).1,w0⟩;rintro n s4 ⟨i,I,ys,H4,J4,t4,fr4,w4⟩;rcases xa i n I ys H4 w4 with⟨za,q⟩|⟨go,step⟩
 ·refine We (T.done Y rfl rfl rfl yc i pins s4 I H4 (λ_ _=>False) J4 (F fr4) t4 za) (λr s5 ⟨hr,J5⟩=>?_) λ_ _ f=>f;subst hr;exact⟨rfl,I,ys,H4,J5,q⟩
 ·refine We (T.item Y rfl rfl rfl yc i pins s4 I H4 (λ_ _=>False) J4 (F fr4) t4 go) (λr s5 ⟨u,hr,h5⟩=>?_) λ_ _ f=>f;subst hr;refine We h5 (λ_ s6 ⟨x,H6,J6,r6,y6,t6,wa⟩=>?_) λ_ _ f=>f;have jb:=J6.pinned (F wa) (T.obj _ _ t6);have ag:=yg _ s6 I H6 x u _ jb r6 (step x H6 y6);rw[Z]at ag;refine We ag (λ_ s7 ⟨va,H7,J7,q7⟩=>?_) λ_ _ f=>f;have ai:=yi _ s7 va H7 _ J7 q7;rw[Z]at ai;refine We ai (λok s8 ⟨H8,J8,q8⟩=>?_) λ_ _ f=>f;have O:∀{y:St} {H9:Hp} {s9:Ja} {zs:List V},Oa Y (pins++Jq fp s6.heap) y H9 s9->(∃m',m'<n/\W (i+1) m' y zs H9)->∃m,m<n/\∃i I ys j,Oa Y pins I j s9/\tn i s9.heap/\(∀b∈fp,j b=Aa)/\W i m I ys j:=λ{y H9 s9 zs} J9 ⟨m',hm,w9⟩=>by
   refine⟨m',hm,i+1,y,zs,H9,J9.unpinned,T.keep _ _ _ t6 λb R o e=>(J9.pin (b,o) (Uf _ (Uf _ (bv R e)))).1,λb R=>?_,w9⟩;obtain⟨o,e,d⟩:=T.obj _ _ t6 b R;exact(J9.pin (b,o) (Uf _ (Uf _ (bv R e)))).2.1
  cases ok with
  |false=>exact O J8 q8
  |true=>
   have am:=ym _ s8 va ys H8 _ J8 q8;rw[Z]at am;exact We am (λ_ s9 ⟨y,zs,H9,J9,q9⟩=>O J9 q9) λ_ _ f=>f
def rC      (xa:Y.xe=λ_ _=>False)(he:PE Y elt te):Mo Y (do let _ <- call (.builtin "list.append") [.ref D,<- Xa elt Y.env]) (Kz te D):=by
 intro R s j ys H Q J q;have ae:=he _ s j H _ J q;refine ub (We ae (λv s9 ⟨z,Z,J9,r9,O,I,q9⟩=>?_) λ_ _ f=>f);have aa:=oF (X:=Y) _ s9 j Z (.ref D) [z] (.ref D) [v] (λx H'=>H'=upd Z D (.lst (ys++[z]))) J9 rfl (.cons r9 .nil) ⟨_,ys,z,rfl,rfl,O,I,rfl⟩;refine ub (We aa (λ_ ja ⟨_,za,y,_,F⟩=>?_) λ_ _ f=>f);subst F;exact Wb ⟨j,_,_,y,q9⟩
section
variable {tg iter elt:La}{ifs:List La}
def ZE {rest:List Dv}{pos:Pos}{g:TG}{tt:TT}{va:Ba->gk}{em:Ba->Env->Sem Unit}{J:It}{O:List Ba}{it:Ba}{tn:Nat->Za->Prop}{cl:List (Str×Ba)}{Q:VK}{E:Da->Ja->Prop}{RR:Da->Ba->Result->Ja->Prop}
  (hc:X.calm=la) (S:CScope X N pick scope) (c1:∀x c,cl.lookup x=ia c->X.env.cells.lookup x=ia c) (c2:∀y∈scope.names,y.2=.free->∃c,cl.lookup y.1=ia c)
  (hg:∀cl C s₀ H₀ O,PG (ke X N scope cl C s₀ H₀ O) tg g) (hi:∀cl C s₀ H₀ O,PIfs (ke X N scope cl C s₀ H₀ O) ifs tt) (he:∀D cl C s₀ H₀ O,Mo (ke X N scope cl C s₀ H₀ O) (em D (ke X N scope cl C s₀ H₀ O).env) (va D))
  (kb:∀(it:Da) (D:Ba) (env:Env),fo (.ListComp elt (⟨tg,iter,ifs,0⟩::rest) scope pos) 0 it (.ref D) env=Pq iter.pos tg ifs it env (em D env) (.compLoop (.ListComp elt (⟨tg,iter,ifs,0⟩::rest) scope pos) 0 it (.ref D) env))
  (I2:Oa X pins σ H s) (T:Turn X.prog X.w X.K tg J O it tn) (st:tn 0 s.heap) (hf:∀b∈O,FpOk X pins H b)
  (hW:∀D,H D=Aa->LcGG J g tt va D (pick.map λo=>o.bind λj=>(σ[j]?).join) Q H)
  (qc:∀D C H' s',Oa X pins σ H' s'->(∃m,s'.heap.Ns C m)->FpOk X pins H' C->Q (.ref D) H'->RR (.ref D) C (.ok .next) s') :
  wpAny (Ka X.prog X.w) X.A (newList []) (λacc ya=>wpAny (Ka X.prog X.w) X.A (Uz scope X.env.globals cl [] X.env.qual Aa .none (ia X.env)) (λxa zb=>
   codeAny (Ka X.prog X.w) X.A (.compStart (.ListComp elt (⟨tg,iter,ifs,0⟩::rest) scope pos) 0 (.ref it) acc { xa with scope:=relabel scope X.env }) (RR acc xa.locals) zb) E ya) E s:=by
 have hD:H s.heap.objs.size=Aa:=I2.hok.fresh (Fb _);have ha:∀b∈O,b<s.heap.objs.size:=λb F=>let ⟨o,e,_⟩:=T.obj _ _ st b F;Lc e
 refine Ph (FW ?_);have I3:Oa X pins σ (upd H s.heap.objs.size (.lst [])) { s with heap:=s.heap.push { cls:=.type "list",dict:=Aa,data:=.seq ([]:List Da).toArray } }:=
  I2.laid (t':=s.toks) (λb u e=>Nc _ e) (Fb _) ⟨He _,[],0,.nil,Df _ rfl⟩
 generalize ka:({ s with heap:=s.heap.push { cls:=.type "list",dict:=Aa,data:=.seq ([]:List Da).toArray } }:Ja)=s3 at I3 ⊢
 have jc:s3.heap.objs.size=s.heap.objs.size+1:=by rw[<- ka];simp_all
 have za:∀b∈O,FpOk X pins (upd H s.heap.objs.size (.lst [])) b:=λb F=>⟨by rw[Dc (Xe (ha b F))];exact(hf b F).1,(hf b F).2⟩
 have xb:(s3.heap.push { cls:=.type "dict",data:=.dict #[] }).objs.size=s3.heap.objs.size+1:=zA ..;have hk:∀b o,s3.heap.get? b=ia o->(xr (s3.heap.push { cls:=.type "dict",data:=.dict #[] }) scope.names).get? b=ia o:=λb o e=>pushCells_keeps _ _ b o (Nc _ e);have R:(xr (s3.heap.push { cls:=.type "dict",data:=.dict #[] }) scope.names).Ns s3.heap.objs.size λ_=>Aa:=(Za.Ns.new s3.heap (.type "dict")).keeps (pushCells_keeps _ _);have B:=dU (cl:=cl) xb S.cells λx c e=>by
  obtain⟨v,z⟩:=I3.cell x c (c1 x c e);exact Ei z.lt
 generalize xr (s3.heap.push { cls:=.type "dict",data:=.dict #[] }) scope.names=h₁ at hk R B ⊢;generalize Gf (s3.heap.objs.size+1) scope.names cl=cs at B ⊢;have yb:∀x c,cs.lookup x=ia c->X.env.cells.lookup x=ia c\/s3.heap.objs.size<c:=λx c e=>by
  rcases B.lk x c e with⟨_,z,_⟩|⟨_,z⟩
  ·lia
  simp_all
 have st1:tn 0 h₁:=T.keep _ _ _ st λb _ o e=>hk b o (by rw[<- ka];exact Nc _ e)
 have IY:Oa (ke X N scope cs s3.heap.objs.size s3 (upd H s.heap.objs.size (.lst [])) O) [] (pick.map λo=>o.bind λj=>(σ[j]?).join) (upd H s.heap.objs.size (.lst [])) { s3 with heap:=h₁ }:=
  vV (tk:=s3.toks) S I3 za (λb F=>Wf (ha b F) (by lia)) c1 c2 B R hk
 generalize Z:ke X N scope cs s3.heap.objs.size s3 (upd H s.heap.objs.size (.lst [])) O=Y at IY;have yg:PG Y tg g:=Z ▸ hg _ _ _ _ _;have yi:PIfs Y ifs tt:=Z ▸ hi _ _ _ _ _;have ye:Mo Y (em s.heap.objs.size Y.env) (va s.heap.objs.size):=Z ▸ he _ _ _ _ _ _;have ja:Y.prog=X.prog:=by rw[<- Z];rfl
 have yw:Y.w=X.w:=by rw[<- Z];rfl
 have yK:Y.K=X.K:=by rw[<- Z];rfl
 have yA:Y.A=X.A:=by rw[<- Z];rfl
 have yc:Y.calm=la:=by rw[<- Z];exact hc
 have I:Y.env=compEnvC scope cs s3.heap.objs.size X.env:=by rw[<- Z];rfl
 have wb:∀b,b∈Y.ex↔b∈O:=λb=>by rw[<- Z];rfl
 have jb:Y.xe=λ_ _=>False:=by rw[<- Z];rfl
 have xc:Y.pn=[]:=by rw[<- Z];rfl
 have vb:∀b,b∈Y.fs->b∈X.env.locals::X.fs:=λb F=>I3.stkSub b (by rw[<- Z]at F;exact F)
 have wa:∀{H':Hp},(∀b∈O,H' b=Aa)->∀b∈O,FpOk Y [] H' b:=λhn b F=>by
  refine⟨hn b F,?_,λhm=>?_,.inl ((wb b).mpr F),λx c e=>?_,λp hp=>?_⟩
  ·rw[I];show b≠s3.heap.objs.size
   grind
  ·rcases ic.mp (vb b hm)with z|z
   ·exact(hf b F).2.1 z
   ·exact(hf b F).2.2.1 z
  ·rw[I]at e;rcases yb x c e with z|z
   ·exact(hf b F).2.2.2.2.1 x c z
   grind
  simp_all
 have zc:∀{τ:St} {H':Hp} {s':Ja},Oa Y [] τ H' s'->Q (.ref s.heap.objs.size) H'->RR (.ref s.heap.objs.size) s3.heap.objs.size (.ok .next) s':=λ{τ H' s'} J q=>by
  have fr:H' s3.heap.objs.size=Aa:=by have:=J.free;rw[I]at this;exact this
  obtain⟨m,hn,_⟩:=J.loc;rw[I]at hn;exact qc _ _ H' s' (zT I3 za (Z ▸ J)) ⟨m,hn⟩ (I3.fpOk (Fb _) fr) q
 have hn:∀b∈O,upd H s.heap.objs.size (.lst []) b=Aa:=λb F=>(za b F).1;have lp:=yR (pins:=[]) (s:={ s3 with heap:=h₁ }) (acc:=.ref s.heap.objs.size) (ifs:=ifs) (em:=em s.heap.objs.size Y.env) yc jb (kb (.ref it) s.heap.objs.size Y.env) yg yi ye IY (by lia) st1 (wa hn) (hW _ hD)
 rw[ja,yw,yA,I]at lp;have lp:=Jv lp (R':=RR (.ref s.heap.objs.size) s3.heap.objs.size) λr s' ⟨hr,wc,vc,H',I',q'⟩=>by grind
 show codeAny (Ka X.prog X.w) X.A (.compStart (.ListComp elt (⟨tg,iter,ifs,0⟩::rest) scope pos) 0 (.ref it) (.ref s.heap.objs.size) (compEnvC scope cs s3.heap.objs.size X.env)) (RR (.ref s.heap.objs.size) s3.heap.objs.size) _;exact codeAny_compStart_list lp (T.self _ 0 _ _ _ st1 lp)

def VO {pos:Pos}{wi:TI}{g:TG}{tt:TT}{rest:List Dv}{Y:Ba->gk}{em:Ba->Env->Sem Unit}(hc:X.calm=la)(S:CScope X N pick scope)(hw:PI X tg iter wi)
  (hg:∀cl C s₀ H₀ O,PG (ke X N scope cl C s₀ H₀ O) tg g) (hi:∀cl C s₀ H₀ O,PIfs (ke X N scope cl C s₀ H₀ O) ifs tt) (he:∀D cl C s₀ H₀ O,Mo (ke X N scope cl C s₀ H₀ O) (em D (ke X N scope cl C s₀ H₀ O).env) (Y D))
  (za:∀(it:Da) (D:Ba) (env:Env),fo (.ListComp elt (⟨tg,iter,ifs,0⟩::rest) scope pos) 0 it (.ref D) env=Pq iter.pos tg ifs it env (em D env) (.compLoop (.ListComp elt (⟨tg,iter,ifs,0⟩::rest) scope pos) 0 it (.ref D) env))
  (hs:∀x,Oh iter X.env x=pure x:=by intro _;rfl):PE X (.ListComp elt (⟨tg,iter,ifs,0⟩::rest) scope pos) (tLcG pick wi g tt Y):=by
 intro j s σ H Q I h;obtain⟨cl,F,c1,c2⟩:=FF (scope:=scope) (env:=X.env) λy hy hf=>I.ok.has _ (S.fre y hy hf).2;rw[eval_ListComp];refine PJ (use:=Aa) rfl hs F S.kind S.names (Mb (hw j s σ H _ I h) λv s1 h1=>Mb h1 λja s2 h2=>?_);obtain⟨it,O,tn,J,H2,e,I2,T,st2,f2,hW⟩:=h2;subst e;refine ZE (RR:=λZ C=>compPost (Ka X.prog X.w) X.A X.xe Aa (EP X j σ Q) Z C) hc S c1 c2 hg hi he za I2 T st2 f2 hW λD C H' s' J' ⟨m,hn⟩ R q=>?_;refine⟨m,hn,λh' xa=>⟨.ref D,H',?_,rfl,q⟩⟩;exact J'.turned (t':=s'.toks) (it:=C) (λb o hb e=>xa.extBut b o hb e) R.1 R.2.1 R.2.2.2.1 R.2.2.2.2.1 R.2.2.2.2.2

def FQ {pos Z F:Pos}{wi:TI}{g:TG}{tt:TT}{rest:List Dv}{xa:Ba->gk}{em:Ba->Env->Sem Unit}{i:Nat}{y:Str}(hN:X.N.Nodup)(ya:X.N[i]?=ia y)(hy:X.env.scope.names.lookup y=ia .local)(hc:X.calm=la)(S:CScope X N pick scope)(hw:PI X tg iter wi)
  (hg:∀cl C s₀ H₀ Y,PG (ke X N scope cl C s₀ H₀ Y) tg g) (hi:∀cl C s₀ H₀ Y,PIfs (ke X N scope cl C s₀ H₀ Y) ifs tt) (he:∀D cl C s₀ H₀ Y,Mo (ke X N scope cl C s₀ H₀ Y) (em D (ke X N scope cl C s₀ H₀ Y).env) (xa D))
  (ka:∀(it:Da) (D:Ba) (env:Env),fo (.ListComp elt (⟨tg,iter,ifs,0⟩::rest) scope pos) 0 it (.ref D) env=Pq iter.pos tg ifs it env (em D env) (.compLoop (.ListComp elt (⟨tg,iter,ifs,0⟩::rest) scope pos) 0 it (.ref D) env))
  (xb:rh (.ListComp elt (⟨tg,iter,ifs,0⟩::rest) scope pos) (ia (.Name y Z)) F.line X.env=pure la) (hs:∀x,Oh iter X.env x=pure x:=by intro _;rfl) :
  PS X (.Assign [.Name y Z] (.ListComp elt (⟨tg,iter,ifs,0⟩::rest) scope pos) F) (tAsg (tLcG pick wi g tt xa) (Fq i)):=by
 intro j s σ H D0 I h;obtain⟨cl,O,c1,c2⟩:=FF (scope:=scope) (env:=X.env) λy hy hf=>I.ok.has _ (S.fre y hy hf).2;rw[exec_Assign_Name_used _ _ _ _ xb];refine ub (Wj (ub ?_));show wpAny _ _ (do let _ <- comprehension (.ListComp elt (⟨tg,iter,ifs,0⟩::rest) scope pos) scope X.env _ (newList []) ua (Xa iter X.env) (ia (Jc (.Name y Z) X.env))) _ _ s
 refine ub (Mb (PJ (use:=ia (Jc (.Name y Z) X.env)) (Q:=λ_ s'=>SP X j D0 .next s') rfl hs O S.kind S.names
  (Mb (hw j s σ H _ I h) λv s1 h1=>Mb h1 λjb s2 h2=>?_)) λ_ s' hq=>Wb (Wb hq))
 obtain⟨it,Y,tn,J,H2,e,I2,T,st2,f2,hW⟩:=h2;subst e;refine ZE (Q:=λx H1=>Fq i x σ H1 D0.nx) (RR:=λza C=>compPost (Ka X.prog X.w) X.A X.xe (ia (Jc (.Name y Z) X.env)) (λ_ s'=>SP X j D0 .next s') za C) hc S c1 c2 hg hi he ka I2 T st2 f2 hW λD C H' s' J' ⟨m,hn⟩ R q=>?_
 show wpAny _ _ (Jc (.Name y Z) X.env (.ref D)) _ _ _;refine wpAny_assign_Name (VF (v:=.ref D) J' hN ya (.inl hy) rfl (λja zb ⟨a,sb,ha⟩=>?_) (.inr hy));have wa:C≠a:=by
  rcases ha with z|z
  ·rw[z];exact R.2.1
  ·exact λe=>R.2.2.2.2.1 y a z e.symm
 refine⟨m,hn.sameBut sb wa,λh' va=>?_⟩;refine⟨_,H',zb.turned (t':=ja.toks) (it:=C) (λb o hb e=>va.extBut b o hb e) R.1 R.2.1 R.2.2.2.1 R.2.2.2.2.1 R.2.2.2.2.2,q⟩
def rM {pos:Pos}{J:TI}{g:TG}{F:TT}{I:TE}(R:X.calm=la)(S:CScope X N pick scope)(Z:PI X tg iter J)
  (Y:∀cl C s₀ H₀ j,PG (ke X N scope cl C s₀ H₀ j) tg g) (O:∀cl C s₀ H₀ j,PIfs (ke X N scope cl C s₀ H₀ j) ifs F) (he:∀cl C s₀ H₀ j,PE (ke X N scope cl C s₀ H₀ j) elt I)
  (hs:∀x,Oh iter X.env x=pure x:=by intro _;rfl):PE X (.ListComp elt [⟨tg,iter,ifs,0⟩] scope pos) (Jw pick J g F I):=
 VO (em:=λD y=>do let _ <- call (.builtin "list.append") [.ref D,<- Xa elt y]) (rest:=[]) R S Z Y O (λD cl C s₀ H₀ j=>rC rfl (he cl C s₀ H₀ j)) (λ_ _ _=>rfl) hs
def zM {pos:Pos}{wi:TI}{g:TG}{R:TT}{Z:TE}{Y j:Pos}{i:Nat}{y:Str}(hN:X.N.Nodup)(I:X.N[i]?=ia y)(hy:X.env.scope.names.lookup y=ia .local)(hc:X.calm=la)(S:CScope X N pick scope)(hw:PI X tg iter wi)
  (hg:∀cl C s₀ H₀ F,PG (ke X N scope cl C s₀ H₀ F) tg g) (hi:∀cl C s₀ H₀ F,PIfs (ke X N scope cl C s₀ H₀ F) ifs R) (he:∀cl C s₀ H₀ F,PE (ke X N scope cl C s₀ H₀ F) elt Z)
  (J:rh (.ListComp elt [⟨tg,iter,ifs,0⟩] scope pos) (ia (.Name y Y)) j.line X.env=pure la) (hs:∀x,Oh iter X.env x=pure x:=by intro _;rfl):PS X (.Assign [.Name y Y] (.ListComp elt [⟨tg,iter,ifs,0⟩] scope pos) j) (tAsg (Jw pick wi g R Z) (Fq i)):=
 FQ (em:=λD O=>do let _ <- call (.builtin "list.append") [.ref D,<- Xa elt O]) (rest:=[]) hN I hy hc S hw hg hi (λD cl C s₀ H₀ F=>rC rfl (he cl C s₀ H₀ F)) (λ_ _ _=>rfl) J hs
end
end

mutual
inductive DV (K:Nb)(H:Hp):V->Wa->Prop
 |non:DV K H .non .none
 |bl (b:Bool):DV K H (.bl b) (.bool b)
 |int (i:Int):DV K H (.int i) (.int i)
 |str (x:Str):DV K H (.str x) (.str x)
 |tup {a:Ba} {xs:List V} {ds:List Wa}:Bd K H a xs->kg K H xs ds->DV K H (.ref a) (.tuple ds)
 |lst {a:Ba} {xs:List V} {ds:List Wa}:Rd H a (.lst xs)->kg K H xs ds->DV K H (.ref a) (.list ds)
 |dic {a:Ba}:H a=ia (.dK [])->DV K H (.ref a) (.dict [])
inductive kg (K:Nb)(H:Hp):List V->List Wa->Prop
 |nil:kg K H [] []
 |cons {x:V} {d:Wa} {xs:List V} {ds:List Wa}:DV K H x d->kg K H xs ds->kg K H (x::xs) (d::ds)
end

mutual
noncomputable def lM:Wa->Bool
 |.list _=>ua
 |.tuple j=>noLs j
 |.dict _=>ua
 |.none|.bool _|.int _|.str _=>la
noncomputable def noLs:List Wa->Bool
 |[]=>la
 |x::r=>lM x&&noLs r
end


def Oa.noSys    {j:St}(I:Oa X pins j H s)(h:s.heap.get? a=ia o)(c:o.cls=.type "list"):yf≠a:=λe=>by
 obtain⟨y,l,F⟩:=I.mod.sys;have:=I.kIn _ _ l
 lia
mutual
theorem DV.reads2 {X:Cx}{pins:List (Ba×Obj)}{σ:St}{H:Hp}{s:Ja}(I:Oa X pins σ H s):∀{x:V} {d:Wa} {u:Da},DV X.K H x d->RelV x u->∃as,Reads s.heap u d as/\yf∉as
 |_,_,_,.non,r=>by cases r;exact⟨_,.none,by simp⟩
 |_,_,_,.bl b,r=>by cases r;exact⟨_,.bool b,by simp⟩
 |_,_,_,.int i,r=>by obtain⟨t,rfl⟩:=r;exact⟨_,.int i t,by simp⟩
 |_,_,_,.str x,r=>by obtain⟨t,rfl⟩:=r;exact⟨_,.str x t,by simp⟩
 |_,_,_,.tup e h,r=>by
  cases r
  obtain⟨Y,J,⟨o,j,F,n,hd⟩,_⟩:=I.tuple e
  obtain⟨as,q,z⟩:=kg.reads2 I h J
  exact⟨_,.tuple j F hd q,z⟩
 |_,_,_,@DV.lst _ _ a _ _ e h,r=>by
  cases r
  obtain⟨Y,J,⟨o,n,j,F,_,hd⟩,_⟩:=I.list (.inl e)
  obtain⟨as,q,z⟩:=kg.reads2 I h J
  refine⟨_,.list j F hd q,λy=>?_⟩
  rcases ic.mp y with y|y
  ·exact I.noSys j F y
  lia
 |_,_,_,@DV.dic _ _ a e,r=>by
  cases r
  obtain⟨_,hS,R,kv,o,Z,ep,j,hx,hd,_,O,_⟩:([]:List (Sb×V)).length<=db/\(a==yf)=ua/\∃R,KV [] R/\s.heap.DictOf (we X.prog X.w) a R:=I.hok a _ e
  have e0:Z.toList=[]:=by
   cases kv
   revert O
   cases Z.toList with
   |nil=>lia
   |cons x r=>exact λO=>(nomatch O)
  refine⟨_,.dict (kvs:=[]) (as:=[]) (bs:=[]) j hx.1 hd (by rw[e0];exact .nil) (by rw[e0];exact .nil),λy=>?_⟩
  simp_all
theorem kg.reads2 {X:Cx}{pins:List (Ba×Obj)}{F:St}{H:Hp}{s:Ja}(I:Oa X pins F H s):∀{xs:List V} {j:List Wa} {us:List Da},kg X.K H xs j->Vals xs us->∃as,ReadsAll s.heap us j as/\yf∉as
 |_,_,_,.nil,r=>by cases r;exact⟨_,.nil,by simp⟩
 |_,_,_,.cons a b,r=>by
  cases r with
  |cons r rr=>
   obtain⟨as,q,z⟩:=DV.reads2 I a r
   obtain⟨bs,y,J⟩:=kg.reads2 I b rr
   exact⟨_,.cons q y,by simp_all⟩
end
def DV.reads {X:Cx}{pins:List (Ba×Obj)}{j:St}{H:Hp}{s:Ja}(I:Oa X pins j H s){x:V}{d:Wa}{u:Da}(h:DV X.K H x d)(r:RelV x u):∃as,Reads s.heap u d as:=let ⟨as,q,_⟩:=DV.reads2 I h r;⟨as,q⟩
def kg.reads    {j:St}(I:Oa X pins j H s)(h:kg X.K H xs ds)(r:Vals xs us):∃as,ReadsAll s.heap us ds as:=let ⟨as,q,_⟩:=kg.reads2 I h r;⟨as,q⟩

structure Fits (n k:Nat)(d:Wa):Prop where
 sh:d.showable=la
 ln:d.shown.length<=n
 dp:d.depth<=k
def Fits.mono    (h:Fits n k d)(y:n<=F)(j:k<=k'):Fits F k' d:=⟨h.sh,Lb h.ln y,Lb h.dp j⟩
def Fits.int   (h:i.natAbs<2 ^ 1000):Fits 1921 0 (.int i):=by
 have j:i.natAbs.log2<1920:=by
  by_cases z:i.natAbs=0
  ·simp_all
  ·exact Wf ((Nat.log2_lt z).mpr h) (by decide)
 refine⟨by simp[bB,j],?_,Fb _⟩
 simp only[km];exact int_text_len_1921 j
def Fits.str    (h:x.length<=m)(j:∀c∈x.cps.toList,c<16 ^ 8):Fits (10*m+2) 0 (.str x):=by
 refine⟨rfl,?_,Fb _⟩;simp only[km];exact Lb (StrLaws.reprText_len x j) (by lia)
def kT    (h:∀t∈ts,t.length<=n):piled ts<=ts.length*(n+2):=by
 induction ts with
 |nil=>simp[piled]
 |cons t r j=>
  have I:=h t Cf;have F:=j λq y=>h q (Uc _ y);rw[piled_cons,Td,Zz]
  lia
theorem sH  : ∀{ds } {t },t∈vo ds->∃d∈ds,t=d.shown
 |[],_,h=>by simp[vo]at h
 |d::r,t,h=>by
  simp only[vo,ic]at h;rcases h with h|h
  ·simp_all
  ·obtain⟨e,j,q⟩:=sH h
   grind
theorem EH  : ∀j ,(vo j).length=j.length
 |[]=>rfl
 |_::r=>by simp[vo,EH r]
def qR   ts:(Str.join ", " ts).length<=piled ts:=by
 rcases Classical.em (ts=[])with rfl|hz
 ·exact He _
 ·exact Nat.le_of_add_right_le (Wv (join_length_add ts hz))
def yW    (h:∀t∈ts,t.length<=n):(tupleText ts).length<=ts.length*(n+2)+3:=by
 have j:=Lb (qR ts) (kT h);have two:∀b:Bool,((((if b=la then ",)" else ")"):String):Str)).length<=2:=by decide
 have z:=two (ts.length==1);have one:(("(" : String):Str).length=1:=rfl
 simp only[tupleText,strLen_append]at z ⊢
 lia
theorem RH  : ∀{ds },(∀d∈ds,d.showable=la)->TJ ds=la
 |[],_=>rfl
 |d::r,h=>by simp[TJ,h d Cf,RH λq j=>h q (Uc _ j)]
theorem pG  : ∀{ds } {k },(∀d∈ds,d.depth<=k)->rj ds<=k
 |[],_,_=>He _
 |d::r,k,h=>by
  simp only[rj];exact Nat.max_le.mpr ⟨h d Cf,pG λq j=>h q (Uc _ j)⟩
def Fits.tup    (h:∀d∈ds,Fits n k d):Fits (ds.length*(n+2)+3) (k+1) (.tuple ds):=by
 refine⟨?_,?_,?_⟩
 ·simp only[bB];exact RH λd hd=>(h d hd).sh
 ·simp only[km];have:=yW (ts:=vo ds) (n:=n) λt j=>by obtain⟨d,hd,e⟩:=sH j;rw[e];exact(h d hd).ln
  rw[EH]at this
  lia
 ·simp only[Wa.depth];exact oA (pG λd hd=>(h d hd).dp)
def Fits.tupLe    (y:ds.length<=m)(h:∀d∈ds,Fits n k d)(j:m*(n+2)+3<=N):Fits N (k+1) (.tuple ds):=
 (Fits.tup h).mono (Lb (Nat.add_le_add_right (Nat.mul_le_mul_right _ y) _) j) (Fb _)
def BM  (K:Nb):List V->Hp->VK->Prop:=λj H Q=>∃x d,j=[x]/\DV K H x d/\Fits 16000000 60 d/\Q (.str d.shown) H
def tV    (hr:Room k X.A):mf X (.builtin "repr") (BM X.K):=by
 intro Z s σ H xs us Q I r h;obtain⟨x,d,rfl,dv,ft,q⟩:=h;obtain⟨u,rfl,F⟩:=nh r;have hu:=hr.un;have j:∀(R:Za) (J:Tok) (O:Nat),(∀b o,s.heap.get? b=ia o->R.get? b=ia o)->EP X Z σ Q (.str d.shown J) { s with heap:=R,toks:=O }:=λR J O hk=>
  ⟨.str d.shown,H,I.kept (t':=O) hk,⟨J,rfl⟩,q⟩
 have Y:d.shown.length<=db:=Lb ft.ln (by decide)
 cases dv with
 |non=>cases F;exact P.repr_of_none (j _ _ _ λ_ _ e=>e)
 |bl b=>cases F;exact P.repr_of_bool (by have:=j s.heap s.toks (s.toks+1) λ_ _ e=>e;simp only[km]at this;lia)
 |int i=>
  obtain⟨t,rfl⟩:=F;refine P.repr_of_int (by simpa[bB]using ft.sh) ?_
  have:=j s.heap s.toks (s.toks+1) λ_ _ e=>e;simp only[km]at this
  lia
 |str x=>
  obtain⟨t,rfl⟩:=F;simp only[km]at Y;refine P.repr_of_str ?_ Y;have:=j s.heap s.toks (s.toks+1) λ_ _ e=>e;simp only[km]at this
  lia
 |@tup a xs ds e hd=>
  obtain⟨as,rd,y⟩:=DV.reads2 I (DV.tup e hd) F;cases F;exact Vz rd ft.sh (λ_=>y) hr.gd (by have:=ft.dp;lia) (λ_ _ e=>e) (λR J O hk=>j R J O hk) Y
 |@lst a xs ds e hd=>
  obtain⟨as,rd,y⟩:=DV.reads2 I (DV.lst e hd) F;cases F;exact Vz rd ft.sh (λ_=>y) hr.gd (by have:=ft.dp;lia) (λ_ _ e=>e) (λR J O hk=>j R J O hk) Y
 |@dic a e=>
  obtain⟨as,rd,y⟩:=DV.reads2 I (DV.dic e) F;cases F;exact Vz rd ft.sh (λ_=>y) hr.gd (by have:=ft.dp;lia) (λ_ _ e=>e) (λR J O hk=>j R J O hk) Y

def Sm  (f:Ba)(H j:Hp):Prop:=∀b o,b≠f->H b=ia o->j b=ia o




theorem jI  : ∀{ns } {us },Vals (ns.map V.int) us->∃j:List (Int×Tok),us=(j.map λp=>ur p.1 p.2)/\j.map (·.1)=ns
 |[],us,r=>by cases r;simp_all
 |n::ns,us,r=>by
  cases r with
  |cons h r=>
   obtain⟨t,rfl⟩:=h;obtain⟨j,rfl,e⟩:=jI r;exact⟨(n,t)::j,rfl,by simp[e]⟩

def wT  (F:X.calm=la):mf X (.builtin "sum") (λxs H Q=>∃(p:Ba) (ns:List Int),xs=[.ref p]/\Ae X.K H p (ns.map V.int)/\Q (.int ns.sum) H):=by
 intro j s σ H xs us Q I r h;obtain⟨p,ns,rfl,Y,q⟩:=h;obtain⟨u,rfl,rx⟩:=nh r;cases rx;obtain⟨O,y,pl,hz⟩:=I.list Y;obtain⟨J,rfl,e⟩:=jI y;have R:s.heap.IsList p (intItems J.toArray):=by
  have:=pl.isList;simpa[intItems]using this
 refine sum_intListG (I.ok.hd F) R λh' tk Z k=>⟨.int ns.sum,H,I.kept k,⟨Z,?_⟩,q⟩;rw[preSum_eq,IA (by simp),<- e]

theorem fm_rev  (xs:List Da):∀n,n<=xs.length->(md n).filterMap (λk=>xs[xs.length-1-k]?)=(xs.drop (xs.length-n)).reverse
 |0,_=>by simp
 |n+1,h=>by
  rw[uo,List.filterMap_append,fm_rev xs n (by lia)]
  have hk:xs.length-1-n<xs.length:=by lia
  have:xs.drop (xs.length-(n+1))=xs[xs.length-1-n]::xs.drop (xs.length-n):=by
   rw[show xs.length-(n+1)=xs.length-1-n by lia,jB hk,show xs.length-1-n+1=xs.length-n by lia]
  simp_all
def vU  (xs:List Da):ao xs.toArray Aa Aa (ia (-1))=xs.reverse.toArray:=by
 have e:sliceRange ((xs.length:Int)-1) (-1) (-1)=(md xs.length).map λk=>xs.length-1-k:=by
  unfold sliceRange;have j:(if (-1:Int)>0 then (if (xs.length:Int)-1 < -1 then (-1-((xs.length:Int)-1) + -1-1) / -1 else 0) else (if (xs.length:Int)-1 > -1 then ((xs.length:Int)-1 - -1 - -1-1)/(- -1) else 0)).toNat=xs.length:=by
   rw[if_neg (by lia),show(- -1:Int)=1 from rfl,Pz]
   split<;>lia
  simp only[j];refine fw λk hk=>?_;have:=Va.mp hk
  lia
 have b:gj Aa Aa (ia (-1)) xs.toArray.size=((xs.length:Int)-1,-1,-1):=by
  simp[gj]
 unfold ao;rw[b];simp only;rw[e,eK];have:=fm_rev xs xs.length (Fb _);rw[Er,AA]at this;rw[<- this];congr 1;refine congrArg (λf=>List.filterMap f (md xs.length)) (funext λk=>?_);simp
def tT  (xs:List Da):ao xs.toArray Aa Aa (ia 1)=xs.toArray:=by
 have:=slicePick_all xs.toArray;unfold ao at this ⊢;exact this
def Vals.rev    (r:Vals xs us):Vals xs.reverse us.reverse:=by
 induction r with
 |nil=>exact .nil
 |cons h r j=>rw[Rr,Rr];exact j.append (.cons h .nil)

end L2
namespace HT
open PySem PySem.Spec PyProof.Rows

def getItem_tuple_all     {lo F:Option Int}(y:Vh s.heap t items)(hs:s.heap.IsSliceOf R Z vu .none)(pl:Oe Z lo)(Y:Oe vu F)
  (hw:sIx items.size 0 lo=0/\sIx items.size items.size F=items.size) (h:Q (.ref t) s):wpAny (Ka prog w) A (td (.ref t) (.ref R)) Q E s:=by
 obtain⟨os,O,I,xa⟩:=id hs;have J:s.TypeIs (.ref R) "slice" := ⟨os,O,I⟩;unfold td
 try with_reducible refine cj ?_
 first|refine ub (Wb ?_)|skip
 refine ub (kA y.typeIs (by decide) ?_)
 refine ub (ow (name:=bj "__getitem__") y.typeIs vj
  (Kr vj y.typeIs eB ?_ (qA _ _)))
 show wpAny _ _ (iB (.ref t) >>= _) _ _ s;refine ub (fA y ?_);refine ub (Dr J ?_);rw[if_pos (by decide)]
 refine ub (FI hs pl Y ?_);have j:((((sIx items.size 0 lo:Nat):Int)==0&&(1:Int)==1&&(sIx items.size items.size F-sIx items.size 0 lo)==items.size)=la):=by
  simp_all
 show wpAny _ _ (if (((sIx items.size 0 lo:Nat):Int)==0&&(1:Int)==1&&(sIx items.size items.size F-sIx items.size 0 lo)==items.size)=la then _ else _) _ _ s
 rw[if_pos j];refine ub (m:=lL (.ref t)) ?_;unfold lL;refine ub (Dr y.typeIs (Wb ?_));rw[if_pos (by decide)]
 exact ub (No (Wb ⟨_,rfl,Wb h⟩))
end HT
namespace L2
open PySem PySem.Spec PyProof.Rows

def rSlW  (K:Nb):V->Option Int->Option Int->Hp->VK->Prop:=λx F y H Q=>∃a j,x=.ref a/\Bd K H a j/\
 (HT.sIx j.length 0 F=0/\HT.sIx j.length j.length y=j.length)/\Q (.ref a) H
def ZR  : dh X (rSlW X.K):=by
 intro y s σ H x v vl vu lo hi sl Q I rx O pl R h;obtain⟨a,Y,rfl,Z,hw,q⟩:=h;cases rx;obtain⟨j,r,F,hz⟩:=I.tuple Z;have J:j.toArray.size=Y.length:=by rw[Zc];exact r.length.symm
 refine⟨"tuple",_,vj.lookup,F.typeIs,?_⟩;exact HT.getItem_tuple_all F O pl R (by lia) ⟨.ref a,H,I,rfl,q⟩
def YR  : dh X (λx lo j H Q=>rSlT X.K x lo j H Q\/rSlW X.K x lo j H Q):=dh.or vQ ZR
theorem XF  : ∀(xs:List V) (us:List Da),xs.length=us.length->(∀(i:Nat) x u ,xs[i]?=ia x->us[i]?=ia u->RelV x u)->Vals xs us
 |[],[],_,_=>.nil
 |x::xs,u::us,h,g=>.cons (g 0 x u rfl rfl) (XF xs us (by simpa using h) λi y z F j=>g (i+1) y z (by simp_all) (by simp_all))
 |[],_::_,h,_=>by simp at h
 |_::_,[],h,_=>by simp at h
def bU  (J:TA):TE:=λI H Q=>J I H λF y=>∃j:Int,F=[.int j]/\0<=j/\j<=1000000/\∀l,y l=Aa->Q (.ref l) (upd y l (.lst ((md j.toNat).map λk:Nat=>V.int (k:Int))))
section
variable {X:Cx}
def eW {a:La}{ta:TA}{p Z pos y:Pos}(hc:X.calm=la)(ya:Gl X "list")(wa:X.mg "list" = Aa)(xa:Gl X "range")(ja:X.mg "range" = Aa)(ha:PA X [a] ta)(hs:gc [a] X.env=[(ua,Xa a X.env)]:=by rfl)
  (R:gc [.Call (.Name "range" Z) [a] [] y] X.env=[(ua,Xa (.Call (.Name "range" Z) [a] [] y) X.env)]:=by rfl):PE X (.Call (.Name "list" p) [.Call (.Name "range" Z) [a] [] y] [] pos) (bU ta):=by
 intro J s σ H Q I h;refine yo (Pj I ya wa boot_list ?_ (by decide) (by decide))
 refine Io ?_ R rfl;rw[R];refine pK (rest:=[]) ?_;refine Call_ (Pj I xa ja To (Io (Mb (ha y J s σ H _ I h) λus s1 ⟨vs,H1,I1,r1,q1⟩=>?_) hs rfl));obtain⟨j,e,h0,h1,q⟩:=q1;subst e;cases r1 with
 |cons r rr=>
  cases rr;obtain⟨t,rfl⟩:=r;refine call_range_1 ?_;refine Wb ?_;have Y:Oa X J σ H1 { s1 with heap:=s1.heap.push { cls:=.type "range",data:=.fields #[.int 0 s1.toks,.int j t,.int 1 (s1.toks+1)] },toks:=s1.toks+1+1 }:=I1.kept λb o e=>Nc _ e
  have hn:iL 0 j 1=(j.toNat:Nat):=by rw[rangeSize_one];lia
  refine call_list_range (Y.ok.hd hc) (IsRange.new ..) (small_one (by lia) (by lia) (by lia) (by lia)) hn (by lia) λh' tk O c' hk va F=>?_
  have hv:Vals ((md j.toNat).map λk:Nat=>V.int (k:Int)) O.toList:=XF _ _ (by simp[F.1]) λi x u hx hu=>by
   have hi:i<j.toNat:=by
    grind
   rw[Dd,dw hi]at hx;obtain⟨za,e⟩:=F.2 i u (by simp_all)
   cases hx;exact⟨za,by lia⟩
  have hz:((md j.toNat).map λk:Nat=>V.int (k:Int)).length<=db:=by
   rw[Hb,Qr];exact Lb (show j.toNat<=1000000 by lia) (by decide)
  refine⟨.ref _,_,Y.laid (t':=tk) (o:=.lst ((md j.toNat).map λk:Nat=>V.int (k:Int))) hk (Fb _) ?_,rfl,q _ (Y.hok.fresh (Fb _))⟩;exact⟨hz,_,c',hv,va⟩
end
end L2
namespace HT
open PySem PySem.Spec PyProof.Rows

def AW    {n:Nat}(hs:s.heap.IsSliceOf J .none .none (.int (-1) t))(h:Q ((n:Int)-1,-1,n) s):wpAny (Ka prog w) A (Bw (.ref J) (pure (n:Int))) Q E s:=by
 obtain⟨R,j,F,y⟩:=id hs;unfold Bw kL;refine ub (ub (Kh j y (x:=.none) rfl (ub (Kh j y (x:=.none) rfl (ub (Kh j y (x:=.int (-1) t) rfl (Wb ?_)))))));refine ub (Wq (.int (-1) t) ?_);show wpAny _ _ (if ((-1:Int)==0)=la then _ else _) _ _ s
 rw[if_neg (by decide)]
 refine ub (Wq .none (ub (Wq .none (ub (Wb ?_)))));have O:Wr Aa Aa (-1) (n:Int)=((n:Int)-1,-1):=rfl;have I:ck ((n:Int)-1) (-1) (-1)=n:=by
  unfold ck;rw[if_neg (by lia),show(- -1:Int)=1 from rfl,Pz]
  split<;>lia
 show wpAny _ _ (match Wr Aa Aa (-1) (n:Int)with|(lo,hi)=>pure (lo,(-1:Int),ck lo hi (-1))) _ _ s
 rw[O];show wpAny _ _ (pure ((n:Int)-1,(-1:Int),ck ((n:Int)-1) (-1) (-1))) _ _ s;rw[I];exact Wb h
def jT  (xs:List Da):((md xs.length).filterMap λ(k:Nat)=>xs.toArray[((xs.length:Int)-1+(k:Int)*(-1)).toNat]?).toArray=xs.reverse.toArray:=by
 have:=L2.fm_rev xs xs.length (Fb _);rw[Er,AA]at this;rw[<- this];congr 1;refine congrArg (λf=>List.filterMap f (md xs.length)) (funext λk=>?_);rw[show((xs.length:Int)-1+(k:Int)*(-1)).toNat=xs.length-1-k by lia]
 simp
def getItem_tuple_rev   {j:List Da}(F:Vh s.heap t j.toArray)(hs:s.heap.IsSliceOf Y .none .none (.int (-1) tk))
  (h:Q (.ref s.heap.objs.size) { s with heap:=s.heap.push { cls:=.type "tuple",data:=.seq j.reverse.toArray } }) (hsz:j.length<=db):wpAny (Ka prog w) A (td (.ref t) (.ref Y)) Q E s:=by
 have y:sizeOk (.seq j.reverse.toArray):=by
  show j.reverse.toArray.size<=db
  simp_all
 obtain⟨os,J,I,Z⟩:=id hs;have O:s.TypeIs (.ref Y) "slice" := ⟨os,J,I⟩;unfold td
 try with_reducible refine cj ?_
 first|refine ub (Wb ?_)|skip
 refine ub (kA F.typeIs (by decide) ?_)
 refine ub (ow (name:=bj "__getitem__") F.typeIs vj
  (Kr vj F.typeIs eB ?_ (qA _ _)))
 show wpAny _ _ (iB (.ref t) >>= _) _ _ s;refine ub (fA F ?_);refine ub (Dr O ?_);rw[if_pos (by decide)]
 refine ub (AW (n:=j.length) hs ?_);have R:¬((((j.length:Int)-1)==0&&(-1:Int)==1&&j.length==j.toArray.size)=la):=by simp
 show wpAny _ _ (if (((j.length:Int)-1)==0&&(-1:Int)==1&&j.length==j.toArray.size)=la then _ else _) _ _ s
 rw[if_neg R,jT]
 first
  |exact ub (m:=ak _) (Ph (Wb ⟨_,rfl,Wb h⟩) y)
  |exact ub (m:=ak _) (Ph (ub (Wb (Wb ⟨_,rfl,Wb h⟩))) y)
  |exact ub (ub (m:=ak _) (Ph (Wb (Wb ⟨_,rfl,Wb h⟩)) y))
  |exact ub (ub (m:=ak _) (Ph (Wb ⟨_,rfl,Wb h⟩) y))
end HT
namespace L2
open PySem PySem.Spec PyProof.Rows


end L2

namespace L2
open PySem PySem.Spec PyProof.Rows

def kC  (K:Nb):R2:=λx y H Q=>∃a b j F,x=.ref a/\y=.ref b/\Bd K H a j/\Bd K H b F/\j.length+F.length<=db/\
 (j=[]->Q (.ref b) H)/\(j≠[]->F=[]->Q (.ref a) H)/\(j≠[]->F≠[]->∀p,H p=Aa->Q (.ref p) (upd H p (.tup (j++F))))
def PQ  : Cc X (tf .Add) (kC X.K):=by
 intro O s σ H x y v u Q I rx ry h;obtain⟨a,b,xs,ys,rfl,rfl,ha,hb,hz,q0,q1,q2⟩:=h;by_cases F:xs=[]
 ·cases rx;cases ry;obtain⟨Z,r1,p1,_⟩:=I.tuple ha;obtain⟨j,r2,p2,_⟩:=I.tuple hb;have hv:Z=[]:=r1.nil_iff.mpr F;subst hv;obtain⟨⟨wa,dd,ya,sl⟩,ho,hc,n,hd⟩:=id p1;obtain⟨⟨va,za,ja,xa⟩,Y,R,n2,J⟩:=id p2;simp only at hc hd R J;subst hc hd R J;exact Mz ⟨_,ho,rfl⟩ ⟨_,Y,rfl⟩ Vv Fv Jo Ko (Go _ _)
   (tuple_addW0 a b _ j.toArray n n2 dd za sl xa rfl) ⟨ho,Y,⟨.ref b,H,I,rfl,q0 F⟩⟩
 ·exact RQ O s σ H _ _ _ _ Q I rx ry ⟨a,b,xs,ys,rfl,rfl,ha,hb,F,hz,q1 F,q2 F⟩
def NV   (hr:Room k X.A):Cc X (ce .Eq) (λx y H Q=>∃a b xs,x=.ref a/\y=.ref b/\Bd X.K H a xs/\Bd X.K H b []/\Q (.bl xs.isEmpty) H):=by
 intro R s σ H x y v u Q I rx ry h;obtain⟨a,b,xs,rfl,rfl,ha,hb,q⟩:=h;cases rx;cases ry;obtain⟨F,Z,pa,_⟩:=I.tuple ha;obtain⟨O,J,pb,_⟩:=I.tuple hb;cases J;have hu:X.A.units<bc:=hr.units0;have e:((md (min F.toArray.size ([]:List Da).toArray.size)).all (λ_=>la)&&F.toArray.size==([]:List Da).toArray.size)=xs.isEmpty:=by
  cases Z<;>simp
 refine EqBoolInt.of_rc (Eh.tuples (e:=λ_=>la) (show s.heap.IsTuple a F.toArray from pa) (show s.heap.IsTuple b ([]:List Da).toArray from pb) hu λj _ Y=>?_) ?_
 ·simp at Y
 ·rw[e];exact⟨.bl xs.isEmpty,H,I,rfl,q⟩




def lC  (K:Nb)(j:Bool):R2:=λx y H Q=>∃d e,DV K H x d/\DV K H y e/\d.canLay0=la/\e.canLay0=la/\d.depth<=100/\Q (.bl (if j then !PyData.eqv d e else ie d e)) H
def DO   (hr:Room k X.A):Cc X (ce .NotEq) (lC X.K la):=by
 intro j s σ H x y v u Q I Y J h;obtain⟨d,e,hd,R,c1,c2,hk,q⟩:=h;obtain⟨Z,F⟩:=hd.reads I Y;obtain⟨bs,O⟩:=R.reads I J;exact SeqAt.compareNe_reads F O c1 c2 (by have:=hr.un;lia) ⟨.bl _,H,I,rfl,q⟩
def yP   (hr:Room k X.A):Cc X (ce .Eq) (lC X.K ua):=by
 intro j s σ H x y v u Q I Y J h;obtain⟨d,e,hd,R,c1,c2,hk,q⟩:=h;obtain⟨Z,F⟩:=hd.reads I Y;obtain⟨bs,O⟩:=R.reads I J;exact SeqAt.compareEq_reads F O c1 c2 (by have:=hr.un;lia) ⟨.bl _,H,I,rfl,q⟩

mutual
noncomputable def Zh:Wa->Bool
 |.none=>la
 |.bool _=>ua
 |.int _=>la
 |.str _=>la
 |.list j=>noBs j
 |.tuple j=>noBs j
 |.dict _=>ua
noncomputable def noBs:List Wa->Bool
 |[]=>la
 |d::r=>Zh d&&noBs r
end
mutual
theorem xC:∀{d e:Wa},Zh d=la->Zh e=la->ie d e=la->d=e
 |.none,.none,_,_,_=>rfl
 |.int i,.int j,_,_,h=>by rw[ie]at h;rw[eq_of_beq h]
 |.str i,.str j,_,_,h=>by rw[ie]at h;rw[eq_of_beq h]
 |.list xs,.list ys,h1,h2,h=>by rw[ie]at h;rw[Zh]at h1 h2;rw[jy h1 h2 h]
 |.tuple xs,.tuple ys,h1,h2,h=>by rw[ie]at h;rw[Zh]at h1 h2;rw[jy h1 h2 h]
 |.bool _,_,h,_,_=>by rw[Zh]at h;cases h
 |.dict _,_,h,_,_=>by rw[Zh]at h;cases h
 |.none,.bool _,_,h,_|.int _,.bool _,_,h,_|.str _,.bool _,_,h,_|.list _,.bool _,_,h,_|.tuple _,.bool _,_,h,_=>by rw[Zh]at h;cases h
 |.none,.dict _,_,h,_|.int _,.dict _,_,h,_|.str _,.dict _,_,h,_|.list _,.dict _,_,h,_|.tuple _,.dict _,_,h,_=>by rw[Zh]at h;cases h
 |.none,.int _,_,_,h|.none,.str _,_,_,h|.none,.list _,_,_,h|.none,.tuple _,_,_,h=>by rw[ie]at h;cases h
 |.int _,.none,_,_,h|.int _,.str _,_,_,h|.int _,.list _,_,_,h|.int _,.tuple _,_,_,h=>by rw[ie]at h;cases h
 |.str _,.none,_,_,h|.str _,.int _,_,_,h|.str _,.list _,_,_,h|.str _,.tuple _,_,_,h=>by rw[ie]at h;cases h
 |.list _,.none,_,_,h|.list _,.int _,_,_,h|.list _,.str _,_,_,h|.list _,.tuple _,_,_,h=>by rw[ie]at h;cases h
 |.tuple _,.none,_,_,h|.tuple _,.int _,_,_,h|.tuple _,.str _,_,_,h|.tuple _,.list _,_,_,h=>by rw[ie]at h;cases h
theorem jy:∀{y j:List Wa},noBs y=la->noBs j=la->Bo y j=la->y=j
 |[],[],_,_,_=>rfl
 |d::r,e::q,h1,h2,h=>by
  rw[noBs,Be]at h1 h2
  rw[Bo,Be]at h
  rw[xC h1.1 h2.1 h.1,jy h1.2 h2.2 h.2]
 |[],_::_,_,_,h=>by rw[Bo]at h;cases h
 |_::_,[],_,_,h=>by rw[Bo]at h;cases h
end




def kW        
  (h:wpAny (Ka prog w) A.in1 (collect v) (λvs s1=>wpAny (Ka prog w) A.in1 (newList vs) (λl s2=>wpAny (Ka prog w) A.in1 (call (.builtin "list.sort") [l]) (λ_ j=>Q l j) E s2) E s1) E s) :
  wpAny (Ka prog w) A (call (.builtin "sorted") [v]) Q E s:=by
 have one:∀Z:Unit->Ja->Prop,Z () s->wpAny (Ka prog w) A.in1 (checkCount "sorted" 1 1 [v].length) Z E s:=λZ z=>Wb z;refine Calls.call_function_entry kind_sorted plain_sorted entry_sorted (args_sorted1 v) (ub (one _ (ub (Mb h λvs s1 F=>ub (Mb F λl s2 y=>?_)))));exact ub (cj (Mb y λ_ j q=>Wb ⟨_,rfl,q⟩))
theorem dH  : ∀{us } {ns },Ye us ns->Vals (ns.map V.int) us
 |_,_,.nil=>.nil
 |_,_,.cons n t r=>.cons ⟨t,rfl⟩ (dH r)
theorem WD  : ∀{kvs:List (Sb×V)} {vs },KV kvs vs->vs.map (·.1)=kvs.map (·.1)
 |_,_,.nil=>rfl
 |_,_,.cons a r=>by
  rw[Sd,Sd,WD r,a.1]
theorem zD    : ∀{ns:List Int} {acc } {vs:List (Sb×Da)},vs.map (·.1)=ns.map (λz=>(.inl z:Sb))->acc.length=ns.length->(∀(j:Nat) v ,acc[j]?=ia v->∃k x,vs[j]?=ia (k,x)/\(we P w).is k v=la)->Ye acc ns
 |[],[],_,_,_,_=>.nil
 |z::ns,v::acc,(k,x)::vs,e,hl,h=>by
  obtain⟨Z,R,Y,F⟩:=h 0 v rfl;have I:(k,x)=(Z,R):=Nd Y;injection I with I e2
  subst I;rw[Sd,Sd]at e;injection e with J er
  have J:k=.inl z:=J;subst J;obtain⟨t,rfl⟩:∃t,v=.int z t:=by
   have F:Jl (.inl z) v=la:=F;rcases Hh F with⟨i,t,e,rfl⟩|⟨y,t,e,_⟩
   ·simp_all
   lia
  exact .cons z t (zD er (by simp_all) λj v O=>h (j+1) v O)
 |z::ns,v::acc,[],e,_,_=>by cases e
 |z::ns,[],_,_,hl,_=>by cases hl
 |[],v::acc,_,_,hl,_=>by cases hl
end L2

namespace L2
open PySem PySem.Spec PyProof.Rows
open Sem (wp)
open AutoSeq1 (wpAny_loadPart')

def WE      (hh:A.handled=Aa)(I:s.heap.IsTupleIter it t i)(ht:s.heap.IsTuple t items)
  (y:∀x h',items[i]?=ia x->h'.IsTupleIter it t (i+1)->lm it s.heap h'->Q x { s with heap:=h' })
  (j:items[i]?=Aa->∀h' e,Za.ExtBut it s.heap h'->(∃o,h'.get? e=ia o/\o.cls=.type "StopIteration")->E (.ref e) { s with heap:=h' }) :
  wpAny (Ka prog w) A (MW (.ref it)) Q E s:=by
 have ty:=I.typeIs;rcases I with⟨⟨c,dc,dt,sl⟩,J,e1,Z⟩;rcases ht with⟨⟨c',za,ja,xa⟩,hl,-,n,e4⟩;dsimp only at e1 Z e4;subst e1 Z e4;have R:∀f:Array Da->Array Da,lm it s.heap (s.heap.update it (sj f)):=λf=>lm.update ..;have O:∀f:Array Da->Array Da,(s.heap.update it (sj f)).get? it=ia ⟨.type "tuple_iterator",dc,.fields (f #[.ref t,.int i 0]),sl⟩:=λf=>Ir _ J rfl;refine ub (ow (name:=bj "__next__") ty GK (Kr GK ty F.entry_tuple_iterator_next ?_ (F.args_tuple_iterator_next_1 _)))
 wp_walk using FK J,FK hl
 rw[wo];cases Y:items[i]? with
 |some x=>exact ub (zr J rfl (Nat.lt_succ_self 1) (Wb ⟨x,rfl,Wb (y x _ Y ⟨_,O _,rfl,rfl⟩ (R _))⟩))
 |none=>
  refine ub (No (ub (zr J rfl (Nat.zero_lt_succ 1) ?_)));unfold NW
  wp_walk
  exact wpAny_raiseNew_none hh (j Y _ _ (((R _).extBut.push _).push _) ⟨_,Df _ rfl,rfl⟩)
def DF     (J:A.handled=Aa) it t (F:t≠it)(items:Array Da) :
  Draws prog w A it [it,t] items.size (λi v=>items[i]?=ia v) (λi h=>h.IsTupleIter it t i/\h.IsTuple t items):=by
 refine⟨λi h st=>?_,λi h y st hk=>?_,λi s Q E Z st Y=>?_,λs Q E st R=>?_⟩
 ·rcases st.1 with⟨o,j,-⟩;exact⟨o,j⟩
 ·rcases st with⟨⟨o,j,r⟩,⟨u,hu,q⟩⟩;exact⟨⟨o,hk it (by simp) o j,r⟩,⟨u,hk t (by simp) u hu,q⟩⟩
 ·refine WE J st.1 st.2 (λx y e I O=>Y x y s.toks e ⟨I,st.2.extBut O.extBut F⟩ O) λz=>?_;exact absurd (Array.getElem?_eq_none_iff.mp z) (by lia)
 ·refine WE J st.1 st.2 (λx y e=>?_) λ_=>R;exact absurd (Ob.mp e).1 (Rh _)
def sU    {x:α}(h:∀y,Q y s):wpAny M A (pure x) Q E s:=Wb (h x)
def uW   v ob :
  Meets (Tb.«enumerate.__new__» ⟨[.type "enumerate",v],[]⟩) (λ_ R s=>(∀prog w A Q E ,Q (.ref s.heap.objs.size) { s with heap:=s.heap.push ob }->wpAny (Ka prog w) A (pyIter v) Q E s)/\
   R (.ok (.ret (.ref (s.heap.push ob).objs.size))) { s with heap:=(s.heap.push ob).push ⟨.type "enumerate",Aa,.fields #[.none,.bool ua,.ref s.heap.objs.size,Me 0,.none,.none],#[]⟩ }):=
 .of_wp λprog w A R s h=>by
  rcases s with⟨J,g,d,I,F⟩;rcases h with⟨y,h⟩;have j:=sub_enumerate
  wp_walk
  refine wpAny_stack_any λst=>sU λb=>?_;cases b<;>(wp_walk using y prog w;exact⟨_,rfl,h⟩)
def rW  {s: Ja}(J:s.heap.IsTuple l items)
  (h:∀h',IsEnum h' (s.heap.objs.size+1) s.heap.objs.size 0 .none->h'.IsTupleIter s.heap.objs.size l 0->(∀b o,s.heap.get? b=ia o->h'.get? b=ia o)->Q (.ref (s.heap.objs.size+1)) { s with heap:=h' }) :
  wpAny (Ka prog w) A (call (.type "enumerate") [.ref l]) Q E s:=by
 have j:∀(p:Za) (n:Nat) (o:Obj),p.objs.size=n->o.isFreed=ua->(p.push o).get? n=ia o:=λp n o e f=>by
  subst e;exact Df p f
 have sz:=λo=>zA s.heap o;refine callType_new F.called_enumerate (by decide) (F.typeCall_enumerate_1 _) (F.newCall_enumerate_1 _) (λy=>F.args_object_init_2 y _) F.entry_enumerate_new (uW (.ref l) _) ⟨λ_ _ _ _ _ q=>wpAny_pyIter_tuple J q,?_⟩
 rw[sz];have I:=j _ _ ⟨.type "enumerate",Aa,.fields #[.none,.bool ua,.ref s.heap.objs.size,Me 0,.none,.none],#[]⟩ (sz ⟨.type "tuple_iterator",Aa,.fields #[.ref l,.int 0 0],#[]⟩) rfl;exact⟨⟨_,I,rfl⟩,h _ I ⟨_,Nc _ (j _ _ _ rfl rfl),rfl,rfl⟩ λb o x=>Nc _ (Nc _ x)⟩

def nS  {O: St}(I:Oa X pins O H s)(k:∀b o,b≠e->b≠it->s.heap.get? b=ia o->h'.get? b=ia o)(fe:FpOk X pins H e)(fi:FpOk X pins H it):Oa X pins O H { s with heap:=h',toks:=t' }:=by
 obtain⟨e0,Z,_,e3,e4,e5⟩:=fe;obtain⟨i0,F,_,i3,i4,i5⟩:=fi;have Y:∀b u,H b=ia u->b≠e:=λb u q z=>by rw[z,e0]at q;cases q
 have J:∀b u,H b=ia u->b≠it:=λb u q z=>by rw[z,i0]at q;cases q
 have kk:∀b o,b∉[e,it]->s.heap.get? b=ia o->h'.get? b=ia o:=λb o j q=>k b o (λz=>j (by simp[z])) (λz=>j (by simp[z])) q
 refine I.step (g':=s.gens) (d':=s.drawn) (ch:=[e,it]) (λb R=>?_) (λb o _ _ j q _=>kk b o j q) (λb o _ _ j q _=>⟨o.slots,kk b o j q⟩) (λ_ _ _ _ n=>n)
  (λb o j q=>⟨o,kk b o j q⟩) (λ_ _ q=>q) (λ_ _ _ q=>q) (λb ps q=>⟨#[],by rw[q];simp⟩) (λm hm=>?_) (λb u q=>?_) I.bare
 ·simp only[ic,Ve,or_false]at R;rcases R with rfl|rfl
  ·exact⟨e3,Z,e4,e5⟩
  ·exact⟨i3,F,i4,i5⟩
 ·obtain⟨o,es,ep,ho,r⟩:=hm;exact⟨o,es,ep,k _ o (Ta Z) (Ta F) ho,r⟩
 ·refine(I.hok b u q).stay (λc v j y=>k c v ?_ ?_ y) (λ_ y=>y) λ_ _ y=>y
  ·rcases j with z|z
   ·rw[z];exact Y b u q
   ·exact Y c _ z
  ·rcases j with z|z
   ·rw[z];exact J b u q
   ·exact J c _ z
def wL  (I:Nb)(a:Ba):It:=
 ⟨λi H=>∃j x,H a=ia (.tup j)/\j[i]?=ia x,λi H y F=>∃j x p,H a=ia (.tup j)/\j[i]?=ia x/\y=.ref p/\H p=Aa/\F=upd H p (.tup [.int (i:Int),x]),λi H=>∃j,H a=ia (.tup j)/\j.length=i⟩
def PV    {K:Nb} a e it (za:e≠it)(jb:a≠e)(va:a≠it) :
  Turn P w K (.Tuple vb x1 pos) (wL K a) [e,it] e (λi h=>(∃F,IsEnum h e it (i:Int) F)/\h.IsTupleIter it a i) where
 mem:=by simp
 obj:=λi h st b O=>by
  obtain⟨⟨F,Y⟩,o,ho,c,d⟩:=st;simp only[ic,Ve,or_false]at O;rcases O with rfl|rfl
  ·exact⟨_,Y,λv z=>nomatch z⟩
  ·exact⟨o,ho,λv z=>by rw[d]at z;cases z⟩
 keep:=λi h h' st k=>by
  obtain⟨⟨F,Y⟩,o,ho,r⟩:=st;exact⟨⟨F,k e (by simp) _ Y⟩,o,k it (by simp) _ ho,r⟩
 item:=by
  intro X hP hw hK hc i j s σ H E I hf st hg;subst hP hw hK;obtain⟨xs,x,hq,hx⟩:=hg;obtain⟨J,rv,p,hz⟩:=I.tuple (Bd.of hq);obtain⟨u,hu,ru⟩:=rv.get hx;obtain⟨⟨F,Y⟩,Z⟩:=st;have zb:i<J.toArray.size:=by
   have:=(Ea.mp hu).1;simpa using this
  refine wpAny_pyNext_enum_itemD (DF (A:=X.A.in1) (I.ok.hd hc) it a va J.toArray) Y ⟨Z,p⟩ zb za (by simp;exact⟨za,Ta jb⟩) λx' h' R hP ho ha hT yb hk=>?_
  refine⟨_,rfl,wpAny_letOwnedTupleGo_enum ho λh2 ka wa=>?_⟩;have ex:x'=u:=by
   have:J.toArray[i]?=ia u:=by simpa using hu
   exact Nd (hP.symm.trans this)
  subst ex;have xb:H s.heap.objs.size=Aa:=I.hok.fresh (Fb _);have ya:e≠s.heap.objs.size:=Xe (Lc Y);have ja:it≠s.heap.objs.size:=by obtain⟨o,xa,_⟩:=Z;exact Xe (Lc xa)
  have I1:Oa X j σ (upd H s.heap.objs.size (.tup [.int (i:Int),x])) { s with heap:=s.heap.push { cls:=.type "tuple",data:=.seq #[.int i R,x'] },toks:=R+1 }:=by
   refine I.laid (λb o y=>Nc _ y) (Fb _) ⟨by show 2<=db;decide,[.int i R,x'],.cons ⟨R,rfl⟩ (.cons ru .nil),TupD.new _ _⟩
  have fpU:∀b,b≠s.heap.objs.size->FpOk X j H b->FpOk X j (upd H s.heap.objs.size (.tup [.int (i:Int),x])) b:=λb O f=>⟨by rw[Dc O];exact f.1,f.2⟩
  have kk:∀b o,b≠e->b≠it->(s.heap.push { cls:=.type "tuple",data:=.seq #[.int i R,x'] }).get? b=ia o->h2.get? b=ia o:=λb o be bi y=>by
   have step:h'.get? b=ia o:=by
    by_cases O:b=s.heap.objs.size
    ·subst O;rw[hT];exact(Df s.heap (o:={ cls:=.type "tuple",data:=.seq #[.int i R,x'] }) rfl).symm.trans y
    ·rw[qK _ _ _ O]at y;exact hk b o be bi y
   exact(wa.2 b be).trans step
  have I2:Oa X j σ (upd H s.heap.objs.size (.tup [.int (i:Int),x])) { s with heap:=h2,toks:=R+1 }:=
   nS (s:={ s with heap:=s.heap.push { cls:=.type "tuple",data:=.seq #[.int i R,x'] },toks:=R+1 }) (h':=h2) (t':=R+1) (e:=e) (it:=it) I1 kk (fpU e ya (hf e (by simp))) (fpU it ja (hf it (by simp)))
  refine⟨.ref s.heap.objs.size,_,I2,rfl,⟨xs,x,_,hq,hx,rfl,xb,rfl⟩,⟨⟨_,by simpa using ka⟩,?_⟩,λb O=>?_⟩
  ·obtain⟨o,xa,r⟩:=ha.1;exact⟨o,(wa.2 it (Ta za)).trans xa,r⟩
  ·simp only[ic,Ve,or_false]at O;rcases O with rfl|rfl
   ·rw[Dc ya];exact(hf _ (by simp)).1
   ·rw[Dc ja];exact(hf _ (by simp)).1
 done:=by
  intro X hP hw hK hc i j s σ H E I hf st hg;subst hP hw hK;obtain⟨xs,hq,hx⟩:=hg;obtain⟨J,rv,p,hz⟩:=I.tuple (Bd.of hq);obtain⟨⟨F,Y⟩,Z⟩:=st;have hl:J.toArray.size=i:=by rw[Zc,<- rv.length];exact hx
  refine wpAny_pyNext_enum_endD (DF (A:=X.A.in1) (I.ok.hd hc) it a va J.toArray) Y ⟨by rw[hl];exact Z,p⟩ λh' eb=>⟨rfl,?_⟩
  obtain⟨f0,f1,f2,f3,f4,f5⟩:=hf it (by simp)
  exact I.turned (t':=s.toks) (λb o O y=>eb b o O y) f0 f1 f3 f4 f5
 self:=λA i s Q E st h=>by
  obtain⟨⟨F,Y⟩,_⟩:=st;exact wpAny_pyIter_enum Y h

end L2

namespace L2
open PySem PySem.Spec PyProof.Rows

def RV  : mf X (.builtin "isinstance") (λxs H Q=>∃(x:V) (c:String) (t:Da) (b:Bool),xs=[x,.ty c]/\TyOf X.K H x t/\Nv X.K t (.type c)=ia b/\Q (.bl b) H):=by
 intro j s Y H xs R Q I r h;obtain⟨x,c,t,b,rfl,F,e,q⟩:=h;obtain⟨u,v,rfl,O,y⟩:=Vals.two r;cases y;exact iV I O F e λJ=>⟨.bl b,H,I.tok J,rfl,q⟩



def KeyI  (H:Hp)(v:V)(k:List Int):Prop:=∃n,v=.int n/\k=[n]

def YE    (r:Vals vs us){i:Nat}(h:us[i]?=ia u):∃v,vs[i]?=ia v/\RelV v u:=by
 induction r generalizing i with
 |nil=>cases h
 |cons a r j=>
  cases i with
  |zero=>exact⟨_,rfl,by cases h;exact a⟩
  |succ i=>exact j h
end L2

namespace L2
open PySem PySem.Spec PyProof.Rows PySem.W
section
variable {n:Nat}{lt:Nat->Nat->Bool}{cmp:Nat->Nat->(Bool->Ja->Prop)->Ja->Prop}{s:Ja}
structure Asks (n:Nat)(lt:Nat->Nat->Bool)(cmp:Nat->Nat->(Bool->Ja->Prop)->Ja->Prop)(s:Ja):Prop where
 ask:∀i j C,i<n->j<n->C (lt i j) s->cmp i j C s
 tr:∀i j k,i<n->j<n->k<n->lt i j=la->lt j k=la->lt i k=la
 tot:∀i j,i<n->j<n->i≠j->lt i j=la\/lt j i=la
 ir:∀i,i<n->lt i i=ua
noncomputable def gD  (p:Array Nat)(k:Nat):Nat:=p.getD k 0
structure ug (n:Nat)(p:Array Nat):Prop where
 z:p.size=n
 b:∀i,i<n->gD p i<n
 inj:∀i j,i<n->j<n->gD p i=gD p j->i=j
 pm:p.toList.Perm (md n)
def Eg  (lt:Nat->Nat->Bool)(p:Array Nat)(m:Nat):Prop:=∀i,i+1<m->lt (gD p i) (gD p (i+1))=la
def Asks.no  (a:Asks n lt cmp s)(r:ug n p)(F:i<n)(I:j<n)(y:i≠j)(h:lt (gD p i) (gD p j)=ua):lt (gD p j) (gD p i)=la:=by
 rcases a.tot _ _ (r.b i F) (r.b j I) (λz=>y (r.inj i j F I z))with z|z
 ·lia
 lia
theorem Eg.less  (a:Asks n lt cmp s)(r:ug n p)(j:m<=n)(h:Eg lt p m):∀d i,i+d+1<m->lt (gD p i) (gD p (i+d+1))=la
 |0,i,hi=>h i hi
 |d+1,i,hi=>a.tr _ _ _ (r.b _ (by lia)) (r.b _ (by lia)) (r.b _ (by lia)) (Eg.less a r j h d i (by lia)) (h (i+d+1) hi)
theorem Hx  (a:Asks n lt cmp s)(r:ug n p)(y:m<=n):∀f k ,1<=k->k+f=m->Eg lt p k->(∀k',k<=k'->k'<=m->Eg lt p k'->(k'<m->lt (gD p k') (gD p (k'-1))=la)->Q k' s)->(kas_asc p f k).kasWp cmp Q s
 |0,k,_,e,h,q=>q k (Fb _) (by lia) h λz=>by lia
 |f+1,k,h1,e,h,q=>by
  refine a.ask _ _ _ (r.b k (by lia)) (r.b (k-1) (by lia)) ?_
  show(if lt (gD p k) (gD p (k-1))=la then Cv k else kas_asc p f (k+1)).kasWp cmp Q s
  by_cases c:lt (gD p k) (gD p (k-1))=la
  ·rw[if_pos c];exact q k (Fb _) (by lia) h λ_=>c
  ·rw[if_neg c];have c:lt (gD p (k-1)) (gD p k)=la:=a.no r (by lia) (by lia) (by lia) (by lia)
   refine Hx a r y f (k+1) (by lia) (by lia) (λi J=>?_) λk' O I j F=>q k' (by lia) I j F
   by_cases z:i+1=k
   ·have:i=k-1:=by lia
    rw[z,this];exact c
   ·exact h i (by lia)
theorem kD  (a:Asks n lt cmp s)(r:ug n p)(y:m<=n):∀f k ,1<=k->k+f=m->(∀i,i+1<k->lt (gD p (i+1)) (gD p i)=la)->(∀k',k<=k'->k'<=m->(∀i,i+1<k'->lt (gD p (i+1)) (gD p i)=la)->Q (p,k',0) s)->(yk f p k 0).kasWp cmp Q s
 |0,k,_,e,h,q=>q k (Fb _) (by lia) h
 |f+1,k,h1,e,h,q=>by
  refine a.ask _ _ _ (r.b k (by lia)) (r.b (k-1) (by lia)) ?_
  show(if lt (gD p k) (gD p (k-1))=la then (if 0>0 then yk f (kas_rev p (k-(0+1)) k) (k+1) 0 else yk f p (k+1) 0)
   else KasT.ask (gD p (k-1)) (gD p k) λd=>if d=la then Cv (p,k,0) else yk f p (k+1) (0+1)).kasWp cmp Q s
  by_cases c:lt (gD p k) (gD p (k-1))=la
  ·rw[if_pos c,if_neg (by decide)]
   refine kD a r y f (k+1) (by lia) (by lia) (λi I=>?_) λk' J F j=>q k' (by lia) F j
   by_cases z:i+1=k
   ·have:i=k-1:=by lia
    rw[z,this];exact c
   ·exact h i (by lia)
  ·rw[if_neg c];have c:lt (gD p (k-1)) (gD p k)=la:=a.no r (by lia) (by lia) (by lia) (by lia)
   refine a.ask _ _ _ (r.b (k-1) (by lia)) (r.b k (by lia)) ?_
   dsimp only;rw[if_pos c];exact q k (Fb _) (by lia) h
def Dq    (h:p[i]?=q[j]?):gD p i=gD q j:=by
 unfold gD
 simp_all
def By    (j:m<=p.size) k:gD (kas_rev p 0 m) k=if k<m then gD p (m-1-k) else gD p k:=by
 have:=getElem?_mirror_all (xs:=p) (i:=0) j k;split
 ·rename_i h;refine Dq ?_;show(mirror p 0 m ((m-0)/2))[k]?=_
  lia
 ·rename_i h;refine Dq ?_;show(mirror p 0 m ((m-0)/2))[k]?=_
  lia
def ug.rev   (r:ug n p)(F:m<=n):ug n (kas_rev p 0 m):=by
 have g:=λk=>By (p:=p) (m:=m) (by rw[r.z];exact F) k
 refine⟨by rw[kas_rev_size,r.z],λi y=>?_,λi j y I e=>?_,(Array.perm_iff_toList_perm.mp (mirror_perm p 0 m ((m-0)/2))).trans r.pm⟩
 ·rw[g];split
  ·exact r.b _ (by lia)
  ·exact r.b _ y
 ·rw[g,g]at e;split at e<;>split at e
  ·have:=r.inj _ _ (by lia) (by lia) e;lia
  ·have:=r.inj _ _ (by lia) (by lia) e;lia
  ·have:=r.inj _ _ (by lia) (by lia) e;lia
  ·exact r.inj _ _ y I e
def AT  (a:Asks n lt cmp s)(r:ug n p)(h2:2<=n)(q:∀k J,1<=k->k<=n->ug n J->Eg lt J k->Q (k,J) s):(kas_count n p).kasWp cmp Q s:=by
 unfold kas_count;rw[Mr];refine Hx a r (m:=n) (Fb _) (n-1) 1 (Fb _) (by lia) (λi y=>by lia) λk R O F h5=>?_
 by_cases e:k=n
 ·rw[if_pos (by lia)]
  exact q k p R O r F
 ·rw[if_neg (by lia)]
  by_cases hk:k>1
  ·rw[if_pos hk];refine a.ask _ _ _ (r.b 0 (by lia)) (r.b (k-1) (by lia)) ?_
   have c:lt (p.getD 0 0) (p.getD (k-1) 0)=la:=by
    have:=Eg.less a r O F (k-2) 0 (by lia)
    rw[show 0+(k-2)+1=k-1 by lia]at this
    exact this
   dsimp only;rw[if_pos c];exact q k p R O r F
  ·rw[if_neg hk];have Y:k=1:=by lia
   subst Y;unfold kas_descPart;rw[Mr];refine kD a r (m:=n) (Fb _) (n-(1+1)) (1+1) (by lia) (by lia) (λi y=>?_) λj h6 I h8=>?_
   ·grind
   ·rw[if_neg (by lia)]
    show(kas_tail3 j n p).kasWp cmp Q s;unfold kas_tail3;rw[Mr];have rr:=r.rev I;refine Hx a rr (m:=n) (Fb _) (n-j) j (by lia) (by lia) (λi y=>?_) λZ h9 ha hb hc=>?_
    ·rw[By (by rw[r.z];exact I),By (by rw[r.z];exact I),if_pos (by lia),if_pos y]
     have:=h8 (j-1-(i+1)) (by lia)
     rw[show j-1-(i+1)+1=j-1-i by lia]at this
     exact this
    ·exact q Z _ (by lia) ha rr hb
theorem Ky  (a:Asks n lt cmp s)(r:ug n p)(hk:k<n)(hs:Eg lt p k):∀f l u ,l<=u->u<=k->u-l<=f->(∀i,i<l->lt (gD p i) (gD p k)=la)->(∀i,u<=i->i<k->lt (gD p k) (gD p i)=la)->
  (∀j,j<=k->(∀i,i<j->lt (gD p i) (gD p k)=la)->(∀i,j<=i->i<k->lt (gD p k) (gD p i)=la)->Q j s)->(sv p k f l u).kasWp cmp Q s
 |0,l,u,h1,h2,h3,h4,h5,q=>q l (by lia) h4 λi y=>h5 i (by lia)
 |f+1,l,u,h1,h2,h3,h4,h5,q=>by
  show(if l ≥ u then Cv l else KasT.ask (gD p k) (gD p ((l+u)/2)) λc=>if c=la then sv p k f l ((l+u)/2) else sv p k f ((l+u)/2+1) u).kasWp cmp Q s
  by_cases e:l ≥ u
  ·rw[if_pos e];exact q l (by lia) h4 λi y=>h5 i (by lia)
  ·rw[if_neg e];obtain⟨m,F⟩:∃m,m=(l+u)/2:=⟨_,rfl⟩;rw[<- F];have O:l<=m:=by lia
   have R:m<u:=by lia
   refine a.ask _ _ _ (r.b k hk) (r.b m (by lia)) ?_
   dsimp only;by_cases c:lt (gD p k) (gD p m)=la
   ·rw[if_pos c];refine Ky a r hk hs f l m O (by lia) (by lia) h4 (λi I J=>?_) q
    by_cases z:i=m
    ·lia
    ·have:=Eg.less a r (Ei hk) hs (i-m-1) m (by lia)
     rw[show m+(i-m-1)+1=i by lia]at this
     exact a.tr _ _ _ (r.b _ hk) (r.b _ (by lia)) (r.b _ (by lia)) c this
   ·rw[if_neg c];have c:lt (gD p m) (gD p k)=la:=a.no r hk (by lia) (by lia) (by lia)
    refine Ky a r hk hs f (m+1) u (by lia) h2 (by lia) (λi y=>?_) h5 q
    by_cases z:i=m
    ·lia
    ·have:=Eg.less a r (Ei hk) hs (m-i-1) i (by lia)
     rw[show i+(m-i-1)+1=m by lia]at this
     exact a.tr _ _ _ (r.b _ (by lia)) (r.b _ (by lia)) (r.b _ hk) this c
def aQ    (hk:k<p.size)(y:l<=k) i:gD (bubble p k (k-l)) i=if i=l then gD p k else if l<i/\i<=k then gD p (i-1) else gD p i:=by
 have:=getElem?_bubble (xs:=p) hk (k-l) (by lia) i
 rw[show k-(k-l)=l by lia]at this
 split
 ·rename_i h;refine Dq ?_;lia
 ·rename_i h;rw[if_neg h]at this;split
  ·rename_i j;refine Dq ?_;lia
  ·rename_i j;refine Dq ?_;lia
theorem nC  (a:Asks n lt cmp s)(q:∀p,ug n p->Eg lt p n->Q p s):∀f p k ,ug n p->k+f=n->Eg lt p k->(kas_bin f p k).kasWp cmp Q s
 |0,p,k,r,e,h=>by
  have:k=n:=by lia
  subst this;exact q p r h
 |f+1,p,k,r,e,h=>by
  show((sv p k k 0 k).bind λl=>kas_bin f (bubble p k (k-l)) (k+1)).kasWp cmp Q s;rw[Mr];refine Ky a r (by lia) h k 0 k (He _) (Fb _) (by lia) (λi I=>by lia) (λi h1 Y=>by lia) λl hl h1 Y=>?_
  have g:=λi=>aQ (p:=p) (k:=k) (l:=l) (by rw[r.z];lia) hl i
  refine nC a q f _ (k+1) ⟨by rw[bubble_size,r.z],λi I=>?_,λi j I hj e'=>?_,(Array.perm_iff_toList_perm.mp (bubble_perm p k (k-l))).trans r.pm⟩ (by lia) λi I=>?_
  ·rw[g];split
   ·exact r.b _ (by lia)
   ·split
    ·exact r.b _ (by lia)
    ·exact r.b _ I
  ·have R:∀i,gD (bubble p k (k-l)) i=gD p (if i=l then k else if l<i/\i<=k then i-1 else i):=λi=>by
    rw[g];split
    ·rfl
    ·split<;>rfl
   rw[R,R]at e';have bd:∀i,i<n->(if i=l then k else if l<i/\i<=k then i-1 else i)<n:=λi I=>by
    split
    ·lia
    ·split<;>lia
   have y:=r.inj _ _ (bd i I) (bd j hj) e';by_cases x1:i=l
   ·rw[if_pos x1]at y;by_cases O:j=l
    ·lia
    ·rw[if_neg O]at y;by_cases F:l<j/\j<=k
     ·rw[if_pos F]at y;lia
     ·rw[if_neg F]at y;lia
   ·rw[if_neg x1]at y;by_cases O:j=l
    ·rw[if_pos O]at y;by_cases J:l<i/\i<=k
     ·rw[if_pos J]at y;lia
     ·rw[if_neg J]at y;lia
    ·rw[if_neg O]at y;by_cases J:l<i/\i<=k
     ·rw[if_pos J]at y;by_cases F:l<j/\j<=k
      ·rw[if_pos F]at y;lia
      ·rw[if_neg F]at y;lia
     ·rw[if_neg J]at y;by_cases F:l<j/\j<=k
      ·rw[if_pos F]at y;lia
      ·rw[if_neg F]at y;lia
  ·rw[g,g];by_cases c1:i+1<l
   ·rw[if_neg (by lia),if_neg (by lia),if_neg (by lia),if_neg (by lia)]
    exact h i (by lia)
   ·by_cases c2:i+1=l
    ·rw[if_neg (by lia),if_neg (by lia),if_pos c2]
     exact h1 i (by lia)
    ·by_cases Z:i=l
     ·rw[if_pos Z,if_neg (by lia),if_pos (by lia)]
      rw[show i+1-1=l by lia]
      exact Y l (Fb _) (by lia)
     ·rw[if_neg Z,if_pos (by lia),if_neg (by lia),if_pos (by lia)]
      have:=h (i-1) (by lia)
      rw[show i-1+1=i+1-1 by lia]at this
      exact this
def bS  (a:Asks n lt cmp s)(J:2<=n)(q:∀p,ug n p->Eg lt p n->Q p s):(kas_sort n).kasWp cmp Q s:=by
 unfold kas_sort;rw[Mr];have O:ug n (yr (md n)):=by
  have g:∀i,i<n->gD (yr (md n)) i=i:=λi F=>by unfold gD;simp_all
  exact⟨by simp,λi F=>by simp_all,λi j F Y e=>by simp_all,by simp⟩
 refine AT a O J λk y R Z r I=>?_;show(if k<n then kas_bin (n-max k 1) y (max k 1) else Cv y).kasWp cmp Q s
 by_cases c:k<n
 ·rw[if_pos c,Nat.max_eq_left R];exact nC a q (n-k) y k r (by lia) I
 ·rw[if_neg c];have:k=n:=by lia
  subst this;exact q y r I
end
end L2

namespace L2
open PySem PySem.Spec PyProof.Rows PySem.W
open PySem.AutoSeq1 (wpAny_loadPart')
open PySem.MeetsSeq PySem.MeetsSeq2 PySem.MeetsSeq3
end L2

namespace L2
open PySem PySem.Spec PyProof.Rows PySem.W
noncomputable def Qn  : Nat:=64

def YN     [Decidable c]{g:α->Sem R}{Q:O->Ja->Prop} mid (I:c->wpAny M A m (λa s1=>wpAny M A (g a) mid E s1) E s)(F:¬c->wpAny M A n (λa s1=>wpAny M A (g a) mid E s1) E s)(J:∀b s2,mid b s2->wpAny M A (f b) Q E s2) :
  wpAny M A (if c then m >>= λa=>g a >>= f else n >>= λa=>g a >>= f) Q E s:=by
 have y:∀{m:Sem α},wpAny M A m (λa s1=>wpAny M A (g a) mid E s1) E s->wpAny M A (m >>= λa=>g a >>= f) Q E s:=λh=>ub (Mb h λa s1 h=>ub (Mb h J));by_cases j:c
 ·rw[if_pos j];exact y (I j)
 ·rw[if_neg j];exact y (F j)
def fW       (ho:s.heap.get? a=ia (Af "list" vs.toArray n))(ja:vs.length<Qn)(nd:vs.Nodup) lt 
  (hk:∀h' ,(∀b o,b≠a->s.heap.get? b=ia o->h'.get? b=ia o)->2<=vs.length->∀R ,R κ { s with heap:=h' }->wpAny (Ka prog w) A (keyKind' vs.toArray) R E { s with heap:=h' })
  (as:∀h' ,(∀b o,b≠a->s.heap.get? b=ia o->h'.get? b=ia o)->Asks vs.length lt (kas_ask prog w A κ vs) { s with heap:=h' })
  (q:∀y:List Nat,y.Perm (md vs.length)->(∀i,i+1<vs.length->lt (y.getD i 0) (y.getD (i+1) 0)=la)->P (.done (.ret .none)) { s with heap:=sortedHeap s.heap a vs (yr (y.map λi=>vs.getD i cf)) }) :
  wpAny (Ka prog w) A (Tb.«list.sort» ⟨[.ref a],[]⟩) P E s:=by
 rw[list_sort_plain];have hz:vs.toArray.size=vs.length:=by simp
 have big:vs.length<=db:=by rw[Og];unfold Qn at ja;lia
 have va:=get?_update_seq ho λ_=>(#[]:Array Da);generalize Y:s.heap.update a (fj λ_=>(#[]:Array Da))=h1 at va;obtain⟨e1,za⟩:∃e1,h1.get? a=ia (Af "list" #[] e1):=⟨_,va⟩;refine ub (listItems_at ho rfl (ub (listUpdate_at ho rfl ?_ (hz ▸ big) (He _))));rw[Y];refine ub (seqEpoch_at za rfl (ub (wpAny_newTuple (ub (wpAny_newList (cj ?_) (He _))) big)));obtain⟨j,F⟩:∃j,j=(h1.push (Af "tuple" vs.toArray 0)).push (Af "list" #[] 0):=⟨_,rfl⟩;refine(?_:wpAny (Ka prog w) A _ P E { s with heap:=(h1.push (Af "tuple" vs.toArray 0)).push (Af "list" #[] 0) })
 have kp:∀b o,b≠a->s.heap.get? b=ia o->j.get? b=ia o:=λb o hb e=>by
  rw[F];exact Nc _ (Nc _ (by rw[<- Y,bw _ _ _ _ hb];exact e))
 have xa:j.get? a=ia (Af "list" #[] e1):=by rw[F];exact Nc _ (Nc _ za)
 have ya:∀O:Array Da,sortedHeap s.heap a vs O=j.update a (fj λ_=>O):=λO=>by rw[F,<- Y];rfl
 rw[<- F];dsimp only;refine YN (λ(r:PUnit×SortSt) J=>J={ s with heap:=j }/\∃y:List Nat,y.Perm (md vs.length)/\(∀i,i+1<vs.length->lt (y.getD i 0) (y.getD (i+1) 0)=la)/\(arrOf r.2).map (·.2)=yr (y.map λi=>vs.getD i cf)/\failedOf r.2=Aa) (λh2=>?_) (λh2=>?_) ?_
 rotate_right
 ·rintro⟨⟨⟩,st⟩ J ⟨rfl,y,hp,hs,I,hf⟩;refine ub (seqEpoch_at xa rfl (ub (listUpdate_at xa rfl ?_ (He _) (by rw[I,Zc,Hb,hp.length_eq,Qr];exact GJ big))))
  dsimp only;rw[hf,bne_self_eq_false];refine Wb ?_;rw[I,<- ya];exact q y hp hs
 ·rw[if_pos h2];refine Wb (Wb ⟨rfl,md vs.length,.refl _,λi hi=>by rw[hz]at h2;lia,?_,rfl⟩)
  refine(?_:(vs.toArray.zip vs.toArray).map (·.2)=_);apply Array.toList_inj.mp;refine AJ (by simp) λi g1 g2=>?_
  have hi:i<vs.length:=by simpa using g1
  simp[ee,hi]
 ·rw[if_neg h2];rw[hz]at h2;refine hk j kp (ac.mp h2) _ ?_;refine We (kat_run (s:={ s with heap:=j }) (κ:=κ) (Q:=λZ J=>J={ s with heap:=j }/\∃p:Array Nat,ug vs.length p/\Eg lt p vs.length/\arrOf Z=p.map (kas_item (vs.toArray.zip vs.toArray))/\failedOf Z=Aa)
   (G:=λp J=>J={ s with heap:=j }/\ug vs.length p/\Eg lt p vs.length) (ks:=vs) (vs:=vs) rfl (by lia) ja (λp Z J a1 a2 a3 a4=>⟨a4.1,p,a4.2.1,a4.2.2,a2,a3⟩) (bS (as j kp) (by lia) λp r1 r2=>⟨rfl,r1,r2⟩)) ?_ λ_ _ e=>e
  rintro⟨⟨⟩,st⟩ J ⟨rfl,p,r1,r2,ar,hf⟩;refine⟨rfl,p.toList,r1.pm,λi hi=>?_,kat_snds rfl ar,hf⟩;have:=r2 i hi;unfold gD at this;rw[EK,EK]at this;rw[uj,uj,jw,jw];exact this

theorem mx  : ∀a ,HT.lexLt a a=ua
 |[]=>rfl
 |x::a=>by rw[HT.lexLt_cons,if_pos rfl];exact mx a
theorem sx  : ∀a b c ,HT.lexLt a b=la->HT.lexLt b c=la->HT.lexLt a c=la
 |[],[],_,h,_=>by cases h
 |[],_::_,[],_,h=>by rw[HT.lexLt_cons_nil]at h;cases h
 |[],_::_,_::_,_,_=>rfl
 |_::_,[],_,h,_=>by rw[HT.lexLt_cons_nil]at h;cases h
 |_::_,_::_,[],_,h=>by rw[HT.lexLt_cons_nil]at h;cases h
 |x::a,y::b,z::c,h1,h2=>by
  rw[HT.lexLt_cons]at h1 h2 ⊢;by_cases F:x=y
  ·rw[if_pos F]at h1;by_cases j:y=z
   ·rw[if_pos j]at h2;rw[if_pos (F.trans j)];exact sx a b c h1 h2
   ·rw[if_neg j]at h2;rw[if_neg (λq=>j (F.symm.trans q)),F];exact h2
  ·rw[if_neg F]at h1;by_cases j:y=z
   ·rw[if_pos j]at h2;rw[if_neg (λq=>F (q.trans j.symm)),<- j];exact h1
   ·rw[if_neg j]at h2;have I:=of_decide_eq_true h1;have J:=of_decide_eq_true h2;rw[if_neg (by lia)];exact decide_eq_true (by lia)
theorem LC  : ∀a b ,a≠b->HT.lexLt a b=la\/HT.lexLt b a=la
 |[],[],h=>absurd rfl h
 |[],_::_,_=>.inl rfl
 |_::_,[],_=>.inr rfl
 |x::a,y::b,h=>by
  rw[HT.lexLt_cons,HT.lexLt_cons];by_cases e:x=y
  ·rw[if_pos e,if_pos e.symm];exact LC a b λz=>h (by rw[e,z])
  ·rw[if_neg e,if_neg (Ta e)];by_cases z:x<y
   ·exact .inl (decide_eq_true z)
   ·exact .inr (decide_eq_true (by lia))

def KM  (X:Cx)(xs:List V)(H:Hp)(Q:VK):Prop:=∃(p:Ba) (vs:List V) (ks:List (List Int)),xs=[.ref p]/\Ae X.K H p vs/\vs.length=ks.length/\ks.Nodup/\vs.length<Qn/\
 (∀(i:Nat) v k,vs[i]?=ia v->ks[i]?=ia k->KeyI H v k)/\
 ∀(l:Ba) (π:List Nat),H l=Aa->π.Perm (md vs.length)->(∀i,i+1<vs.length->HT.lexLt (ks.getD (π.getD i 0) []) (ks.getD (π.getD (i+1) 0) [])=la)->Q (.ref l) (upd H l (.lst (π.map λi=>vs.getD i .non)))
def VB  {I:Type}{l:List I}(h:l.Nodup) hi (F:j<l.length)(y:i≠j):l[i]≠l[j]:=by
 have h:=Xc.mp h;rcases Nat.lt_or_gt_of_ne y with z|z
 ·exact h i j hi F z
 ·exact λe=>h j i F hi z e.symm
def iW  (hc:X.calm=la)(hu:X.A.units+2<bc):mf X (.builtin "sorted") (KM X):=by
 intro zc s σ H xs us Q I r h;obtain⟨p,vs,O,rfl,hq,hl,zb,jb,hk,q⟩:=h;obtain⟨u,rfl,rx⟩:=nh r;cases rx;obtain⟨F,rv,pl,hz⟩:=I.list hq;have il:=rv.length;have hL:=pl.isList;have xa:∀{i:Nat} {u:Da},F[i]?=ia u->∃v k,vs[i]?=ia v/\O[i]?=ia k/\RelV v u:=λ{i u} e=>by
  obtain⟨v,ev,r1⟩:=YE rv e;have:i<O.length:=by rw[<- hl];exact(Ea.mp ev).1
  exact⟨v,O[i],ev,Ic this,r1⟩
 have nd:F.Nodup:=by
  refine Xc.mpr λi j Y hj jc e=>?_;obtain⟨x,k,ex,ek,r1⟩:=xa (Ic Y);obtain⟨y,k',ey,Z,r2⟩:=xa (Ic hj);have wb:k≠k':=λz=>by
   obtain⟨h1,q1⟩:=Ea.mp ek;obtain⟨h2,q2⟩:=Ea.mp Z;exact VB zb h1 h2 (by lia) (by rw[q1,q2];exact z)
  ·obtain⟨z,rfl,e1⟩:=hk i x k ex ek;obtain⟨z',rfl,e2⟩:=hk j y k' ey Z;obtain⟨t1,g1⟩:=r1;obtain⟨t2,g2⟩:=r2;rw[g1,g2]at e;injection e with e3 _
   exact wb (by rw[e1,e2,e3])
 have big:F.length<=db:=by rw[Og];unfold Qn at jb;lia
 refine kW (collect_list hL (wpAny_newList ?_ big) big);obtain⟨h1,za⟩:∃h1,h1=(s.heap.push (Af "list" #[] 0)).update s.heap.objs.size (fj (·++F.toArray)):=⟨_,rfl⟩;rw[<- za];have k1:∀b o,s.heap.get? b=ia o->h1.get? b=ia o:=λb o e=>by
  rw[za,bw _ _ _ _ (Xe (Lc e))];exact Nc _ e
 have ka:s.heap.objs.size<=h1.objs.size:=by rw[za,Za.size_update,size_push'];exact io _
 have va:(h1.push { cls:=.type "list",data:=.seq F.toArray }).get? h1.objs.size=ia (Af "list" F.toArray 0):=Df _ rfl;have up:∀(J:Za),(∀b o,b≠h1.objs.size->(h1.push { cls:=.type "list",data:=.seq F.toArray }).get? b=ia o->J.get? b=ia o)->∀b o,s.heap.get? b=ia o->J.get? b=ia o:=λJ k b o e=>
  k b o (Xe (Lc (k1 b o e))) (Nc _ (k1 b o e))
 obtain⟨κ,ja,yb⟩:∃κ:SortKind,(∀J:Za,(∀b o,s.heap.get? b=ia o->J.get? b=ia o)->2<=F.length->∀(R:SortKind->Ja->Prop) (E:Da->Ja->Prop),R κ { s with heap:=J }->wpAny (Ka X.prog X.w) X.A.in1.in1 (keyKind' F.toArray) R E { s with heap:=J })/\
   ∀(J:Za),(∀b o,s.heap.get? b=ia o->J.get? b=ia o)->∀(i j:Nat) (C:Bool->Ja->Prop),i<F.length->j<F.length->C (HT.lexLt (O.getD i []) (O.getD j [])) { s with heap:=J }->kas_ask X.prog X.w X.A.in1.in1 κ F i j C { s with heap:=J }:=by
  have kb:∀{i j:Nat} {C:Bool->Ja->Prop} {J:Za},∀(Y:i<F.length) (hj:j<F.length),C (HT.lexLt (O.getD i []) (O.getD j [])) { s with heap:=J }->∃x k y k',vs[i]?=ia x/\O[i]?=ia k/\RelV x (F.getD i cf)/\vs[j]?=ia y/\O[j]?=ia k'/\RelV y (F.getD j cf)/\C (HT.lexLt k k') { s with heap:=J }:=λ{i j C J} Y hj hC=>by
   have ei:F.getD i cf=F[i]:=by simp[ee,Y]
   have ej:F.getD j cf=F[j]:=by simp[ee,hj]
   obtain⟨x,k,ex,ek,rx⟩:=xa (Ic Y);obtain⟨y,k',ey,Z,ry⟩:=xa (Ic hj);have di:O.getD i []=k:=by rw[uj,ek];rfl
   have dj:O.getD j []=k':=by rw[uj,Z];rfl
   rw[di,dj]at hC;exact⟨x,k,y,k',ex,ek,by rw[ei];exact rx,ey,Z,by rw[ej];exact ry,hC⟩
  ·refine⟨oneType',λJ up h2 R E hR=>kas_kind (M:=Ka X.prog X.w) (s:={ s with heap:=J }) (T:=.type "int") (by lia) (λv hv=>?_) (by decide) (by decide) hR,λJ up i j C Y hj hC=>?_⟩
   ·obtain⟨i,Y,rfl⟩:=Zg hv;obtain⟨x,k,ex,ek,r1⟩:=xa (Ic Y);obtain⟨z,rfl,_⟩:=hk i x k ex ek;obtain⟨t,e⟩:=r1;rw[e];exact Looks.of_pure rfl
   ·obtain⟨x,k,y,k',ex,ek,rx,ey,Z,ry,hC⟩:=kb Y hj hC;unfold kas_ask;rw[keyLt'_oneType];obtain⟨z,rfl,e1⟩:=hk i x k ex ek;obtain⟨z',rfl,e2⟩:=hk j y k' ey Z;obtain⟨t1,g1⟩:=rx;obtain⟨t2,g2⟩:=ry;rw[g1,g2];rw[e1,e2]at hC;refine oneLt_int ?_;have e:HT.lexLt [z] [z']=decide (z<z'):=by
     rw[HT.lexLt_cons];split
     ·rename_i q;rw[q,HT.lexLt_nil_nil];simp
     ·rfl
    rw[e]at hC;exact hC
 refine Kr slot_list_sort ⟨_,va,rfl⟩ entry_list_sort (fW (κ:=κ) (s:={ s with heap:=h1.push { cls:=.type "list",data:=.seq F.toArray } }) va (by lia) nd (λi j=>HT.lexLt (O.getD i []) (O.getD j [])) (λJ kp h2 R hR=>ja J (up J kp) h2 R _ hR) (λJ kp=>⟨λi j C Y hj hC=>yb J (up J kp) i j C Y hj hC,λi j k Y hj vc h1 h2=>sx _ _ _ h1 h2,λi j Y hj xc=>LC _ _ ?_,λi _=>mx _⟩) λπ hp hs=>⟨_,rfl,?_⟩) (args_list_sort _)
 ·have ha:i<O.length:=by lia
  have xb:j<O.length:=by lia
  have di:O.getD i []=O[i]:=by simp[ee,ha]
  have dj:O.getD j []=O[j]:=by simp[ee,xb]
  rw[di,dj];exact VB zb ha xb xc
 ·obtain⟨e,he⟩:=sortedHeap_at (out:=yr (π.map λi=>F.getD i cf)) va;rw[<- il]at hp hs;have qc:∀i∈π,i<vs.length:=λi Y=>Va.mp (hp.mem_iff.mp Y);refine⟨.ref h1.objs.size,_,I.laid (o:=.lst (π.map λi=>vs.getD i .non)) (λb ob y=>?_) ka ?_,rfl,q _ π (I.hok.fresh ka) hp hs⟩
  ·have hb:=k1 b ob y;have vb:=Lc hb;rw[sortedHeap_old (Xe vb) (by rw[size_push'];exact HJ vb)]
   exact Nc _ hb
  ·refine⟨by rw[Hb,hp.length_eq,Qr,Og];unfold Qn at jb;lia,π.map λi=>F.getD i cf,e,?_,?_⟩
   ·have:∀l:List Nat,(∀i∈l,i<vs.length)->Vals (l.map λi=>vs.getD i .non) (l.map λi=>F.getD i cf):=λl=>by
     induction l with
     |nil=>intro _;exact .nil
     |cons i l ih=>
      intro wa;have Y:=wa i (by simp)
      have ya:i<F.length:=by lia
      obtain⟨v,ev,r1⟩:=YE rv (Ic ya);refine .cons ?_ (ih λj hj=>wa j (Uc _ hj));refine(?_:RelV (vs.getD i .non) (F.getD i cf));rw[uj,ev,uj,Ic ya];exact r1
    exact this π qc
   ·rw[he]
section
variable {X:Cx}
def sV  (hc:X.calm=la):mf X (.type "list") (λxs H Q=>∃(a:Ba) (kvs:List (Sb×V)) (ns:List Int),xs=[.ref a]/\H a=ia (.dK kvs)/\kvs.map (·.1)=ns.map (λz=>(.inl z:Sb))/\∀l,H l=Aa->Q (.ref l) (upd H l (.lst (ns.map V.int)))):=by
 intro xa s σ H xs us Q I r h;obtain⟨a,kvs,ns,rfl,ha,hk,q⟩:=h;obtain⟨u,rfl,rx⟩:=nh r;cases rx;obtain⟨hz,hS,J,rv,m⟩:kvs.length<=db/\(a==yf)=ua/\∃J,KV kvs J/\s.heap.DictOf (we X.prog X.w) a J:=I.hok a _ ha;obtain⟨ep,R⟩:=m.dictAt;have O:J.map (·.1)=kvs.map (·.1):=WD rv;have Z:J.length=ns.length:=by simpa using congrArg iA (O.trans hk)
 have ja:kvs.length=ns.length:=by simpa using congrArg iA hk
 refine kdl_call (A:=X.A) (kdl_dict (knd:=we X.prog X.w) (kvs:=J) (ep:=ep) hS) (I.ok.hd hc) R (by lia) λh' tk F c' Y za y=>?_
 have hl:F.toList.length=ns.length:=by rw[Lo,y.1,Z]
 have hI:Ye F.toList ns:=zD (O.trans hk) hl λj v e=>y.2 j v (by simp_all)
 refine⟨.ref s.heap.objs.size,_,I.laid (t':=tk) (o:=.lst (ns.map V.int)) (λb o e=>Y b o e) (Fb _) ⟨by simp_all,F.toList,c',dH hI,by simp_all⟩,rfl,q _ (I.hok.fresh (Fb _))⟩
theorem Qj  : ∀r:List Int,xw (r.map .int)=la/\rj (r.map .int)=0/\noBs (r.map .int)=la
 |[]=>⟨rfl,rfl,rfl⟩
 |i::r=>by
  obtain⟨F,y,j⟩:=Qj r;refine⟨?_,?_,?_⟩
  ·show((wr i).canLay0&&xw (r.map .int))=la;rw[F];rfl
  ·show max (wr i).depth (rj (r.map .int))=0;rw[y];rfl
  ·show(Zh (.int i)&&noBs (r.map .int))=la;rw[j];rfl
theorem kE  : ∀{l j:List Int},l.map wr=j.map wr->l=j
 |[],[],_=>rfl
 |[],_::_,h=>by cases h
 |_::_,[],h=>by cases h
 |a::l,b::j,h=>by
  have h:=cK h;rw[wr.inj h.1,kE h.2]
def qD  (k k':List Int):ie (.list (k.map .int)) (.list (k'.map .int))=decide (k=k'):=by
 by_cases h:k=k'
 ·rw[h,DK (.list (k'.map .int)) (Qj k').1];simp
 ·cases e:ie (.list (k.map .int)) (.list (k'.map .int))with
  |false=>simp[h]
  |true=>
   have e:=Wa.list.inj (xC (d:=.list (k.map .int)) (e:=.list (k'.map .int)) (Qj k).2.2 (Qj k').2.2 e);exact absurd (kE e) h

def rInD  (X:Cx)(j:Bool):R2:=λx y H Q=>∃(p:Ba) (vs:List V) (d:Wa) (ds:List Wa),y=.ref p/\(Ae X.K H p vs\/Bd X.K H p vs)/\DV X.K H x d/\kg X.K H vs ds/\d.canLay0=la/\d.depth<=100/\(∀e∈ds,e.canLay0=la)/\Q (.bl (if j then !(ds.any λe=>ie e d) else ds.any λe=>ie e d)) H
open Classical in
noncomputable def eD (h:Za)(d:Wa)(w:Da):Bool:=decide (∃e j,e.canLay0=la/\Reads h w e j/\ie e d=la)
open Classical in
def KB {h:Za}{d e:Wa}{w:Da}{as:List Ba}(r:Reads h w e as)(c:e.canLay0=la):eD h d w=ie e d:=by
 unfold eD;cases q:ie e d with
 |true=>grind
 |false=>
  refine decide_eq_false λ⟨I,j,J,F,y⟩=>?_;rw[SeqAt.Reads.unique I e w j as J F r,q]at y;cases y
theorem yD {h:Za}{d:Wa}:∀{us:List Da} {y:List Wa} {as:List Ba},ReadsAll h us y as->(∀e∈y,e.canLay0=la)->us.any (eD h d)=(y.any λe=>ie e d)/\∀w∈us,∃e as,e.canLay0=la/\Reads h w e as
 |_,_,_,.nil,_=>⟨rfl,λw j=>by simp at j⟩
 |_,_,_,.cons r rs,c=>by
  obtain⟨I,F⟩:=yD (d:=d) rs λe J=>c e (Uc _ J);refine⟨by rw[tj,tj,I,KB r (c _ Cf)],λw j=>?_⟩
  rcases ic.mp j with rfl|j
  ·exact⟨_,_,c _ Cf,r⟩
  ·exact F w j
def ju   {σ:St}(hu:A.units+100<bc)(I:Oa X pins σ H s)(rx:RelV x u)(hd:DV X.K H x d)(c:d.canLay0=la)(Y:d.depth<=100)(r:Vals vs j)(hv:kg X.K H vs ds)(cs:∀e∈ds,e.canLay0=la) :
  (∀w,w∈j->lg A s w u (eD s.heap d w))/\j.any (eD s.heap d)=ds.any λe=>ie e d:=by
 obtain⟨as,J⟩:=kg.reads I hv r;obtain⟨bs,Z⟩:=DV.reads I hd rx;obtain⟨h1,R⟩:=yD (d:=d) J cs;refine⟨λw hw=>?_,h1⟩;obtain⟨e,O,F,y⟩:=R w hw;rw[KB y F];exact SeqAt.eqAt_reads _ _ A s _ _ _ _ y Z F c (Pg (kK (Lb (nA _ _) Y) _) hu)
def zO   (hr:Room k X.A):Cc X (ce .In) (rInD X ua):=by
 intro xa s σ H x y v u Q I rx ry h;obtain⟨p,vs,d,ds,rfl,F,hd,hv,c,Z,Y,q⟩:=h;cases ry;rcases F with F|F
 ·obtain⟨j,r,R,hz⟩:=I.list F;obtain⟨O,J⟩:=ju (A:=X.A.in1) (by have:=hr.un;lia) I rx hd c Z r hv Y
  refine JJ (eD s.heap d) R.isList (λw hw=>O w (by simp_all)) ⟨.bl _,H,I,rfl,?_⟩
  rw[show j.toArray.any (eD s.heap d)=j.any (eD s.heap d) by simp,J]
  exact q
 ·obtain⟨j,r,R,hz⟩:=I.tuple F;obtain⟨O,J⟩:=ju (A:=X.A.in1) (by have:=hr.un;lia) I rx hd c Z r hv Y
  refine wK (eD s.heap d) R (λw hw=>O w (by simp_all)) ⟨.bl _,H,I,rfl,?_⟩
  rw[show j.toArray.any (eD s.heap d)=j.any (eD s.heap d) by simp,J]
  exact q
def FU   (hr:Room k X.A):Cc X (ce .NotIn) (rInD X la):=by
 intro xa s σ H x y v u Q I rx ry h;obtain⟨p,vs,d,ds,rfl,F,hd,hv,c,Z,Y,q⟩:=h;cases ry;rcases F with F|F
 ·obtain⟨j,r,R,hz⟩:=I.list F;obtain⟨O,J⟩:=ju (A:=X.A.in1) (by have:=hr.un;lia) I rx hd c Z r hv Y
  refine OJ (eD s.heap d) R.isList (λw hw=>O w (by simp_all)) ⟨.bl _,H,I,rfl,?_⟩
  rw[show j.toArray.any (eD s.heap d)=j.any (eD s.heap d) by simp,J]
  exact q
 ·obtain⟨j,r,R,hz⟩:=I.tuple F;obtain⟨O,J⟩:=ju (A:=X.A.in1) (by have:=hr.un;lia) I rx hd c Z r hv Y
  refine XJ (eD s.heap d) R (λw hw=>O w (by simp_all)) ⟨.bl _,H,I,rfl,?_⟩
  rw[show j.toArray.any (eD s.heap d)=j.any (eD s.heap d) by simp,J]
  exact q
end

end L2

namespace L2
open PySem PySem.Spec PyProof.Rows




end L2

namespace L2
open PySem PySem.Spec PyProof.Rows PySem.SeqAt PySem.MeetsSeq
def DW   l es (n:Nat) dd sl b u :
  Meets (Tb.«dict.__eq__» ⟨[.ref l,.str b u],[]⟩) (λ_ R s=>s.heap.get? l=ia { cls:=.type "dict",dict:=dd,data:=.dict es n,slots:=sl }/\R (.ok (.ret .notImplemented)) s):=
 .of_wp λj w A R s h=>by obtain⟨J,g,d,I,Y⟩:=s;obtain⟨y,h⟩:=h;have O:=F.sub_str_dict;wp_walk using Eb y;exact⟨_,rfl,h⟩
def EW   b u l es (n:Nat) dd sl :
  Meets (Tb.«str.__eq__» ⟨[.str b u,.ref l],[]⟩) (λ_ R s=>s.heap.get? l=ia { cls:=.type "dict",dict:=dd,data:=.dict es n,slots:=sl }/\R (.ok (.ret .notImplemented)) s):=
 .of_wp λj w A R s h=>by obtain⟨I,g,d,F,J⟩:=s;obtain⟨y,h⟩:=h;wp_walk using Eb y,wpAny_load y;exact⟨_,rfl,h⟩

def pW         b u (y:s.heap.get? l=ia o)(J:o.cls=.type "dict")(hd:o.data=.dict es n)(hu:A.units<bc):RcAt A s (.ref l) (.str b u) ua:=λY w E Q h=>by
 obtain⟨Z,I,O,R⟩:=o;simp only at J hd;subst J hd;exact rc_eq_decline_or (k:=ua) ⟨_,y,rfl⟩ (lr s b u) (by decide) F.sub_str_dict F.slot_dict_eq F.slot_str_eq_refl
  (λ_ j=>uh F.slot_dict_eq ⟨_,y,rfl⟩ F.entry_dict_eq (F.args_dict_eq_2 _ _) (DW l es n I R b u) ⟨y,j⟩)
  (λ_ j=>uh F.slot_str_eq_refl (lr s b u) F.entry_str_eq (F.args_str_eq_2 _ _) (EW b u l es n I R) ⟨y,j⟩)
  (λ_ j=>wpAny_of_eq (rfl:isSame (.ref l) (.str b u)=pure ua) j) (.inr hu) h
def tU  : R2:=λx y H Q=>∃a z j,x=.ref a/\y=.str z/\H a=ia (.dK j)/\Q (.bl ua) H
def wW   (hr:Room k X.A):Cc X (ce .Eq) tU:=by
 intro J s σ H x y v u Q I rx R h;obtain⟨a,z,j,rfl,rfl,Z,q⟩:=h;cases rx;obtain⟨t,rfl⟩:=R;obtain⟨_,_,F,_,o,es,ep,O,Y,hd,_⟩:j.length<=db/\(a==yf)=ua/\∃F,KV j F/\s.heap.DictOf (we X.prog X.w) a F:=I.hok a _ Z;exact pW z t O Y.1 hd (by have:=hr.un;lia) X.prog X.w X.xe _ ⟨.bl ua,H,I,rfl,q⟩
def rSlS  : V->Option Int->Option Int->Hp->VK->Prop:=λx y j H Q=>∃z,x=.str z/\z.length<=db/\Q (.str (Bv z y j)) H

def uQ  : dh X rSlS:=by
 intro J s σ H x v vl vu lo hi sl Q I rx hs pl pu h;obtain⟨z,rfl,Y,q⟩:=h;obtain⟨t,rfl⟩:=rx;refine⟨"str",_,F.slot_str_getitem.lookup,lr _ _ _,?_⟩;obtain⟨o,R,O,hd⟩:=hs;have y:∀t' k,EP X J σ Q (.str (Bv z lo hi) t') { s with toks:=k }:=λt' k=>⟨.str _,H,I.tok _,⟨_,rfl⟩,q⟩
 cases pl with
 |none=>
  cases pu with
  |none=>exact tw (l:=Aa) (u:=Aa) (st:=Aa) ⟨o,R,O,hd⟩ rfl (Sv ⟨Lb (Xv z _ _) Y,y⟩)
  |int j Z=>exact tw (l:=Aa) (u:=ia (j,Z)) (st:=Aa) ⟨o,R,O,hd⟩ rfl (Sv ⟨Lb (Xv z _ _) Y,y⟩)
 |int i ui=>
  cases pu with
  |none=>exact tw (l:=ia (i,ui)) (u:=Aa) (st:=Aa) ⟨o,R,O,hd⟩ rfl (Sv ⟨Lb (Xv z _ _) Y,y⟩)
  |int j Z=>exact tw (l:=ia (i,ui)) (u:=ia (j,Z)) (st:=Aa) ⟨o,R,O,hd⟩ rfl (Sv ⟨Lb (Xv z _ _) Y,y⟩)
def OQ  : Cc X (tf .Add) (λx y H Q=>∃b j,x=.bl b/\y=.int j/\Q (.int ((if b=la then (1:Int) else 0)+j)) H):=by
 intro F s R H x y v u Q I O J h;obtain⟨b,j,rfl,rfl,q⟩:=h;cases O;obtain⟨t,rfl⟩:=J;exact PySem.IntBool.add_bool_int ⟨.int _,H,I.tok _,⟨_,rfl⟩,q⟩
def TQ  : Cc X (tf .Sub) (λx y H Q=>(∃b j,x=.bl b/\y=.int j/\Q (.int ((if b=la then (1:Int) else 0)-j)) H)\/∃i b,x=.int i/\y=.bl b/\Q (.int (i-if b=la then (1:Int) else 0)) H):=by
 intro J s R H x y v u Q I O F h;rcases h with⟨b,j,rfl,rfl,q⟩|⟨i,b,rfl,rfl,q⟩
 ·cases O;obtain⟨t,rfl⟩:=F;exact PySem.IntBool.sub_bool_int ⟨.int _,H,I.tok _,⟨_,rfl⟩,q⟩
 ·cases F;obtain⟨t,rfl⟩:=O;exact PySem.IntBool.sub_int_bool ⟨.int _,H,I.tok _,⟨_,rfl⟩,q⟩
def CS  (K:Nb):R2:=λx y H Q=>∃a z j,x=.ref a/\y=.str z/\(Bd K H a j\/Ae K H a j)/\Q (.bl ua) H
def bW   (hr:Room k X.A):Cc X (ce .Eq) (CS X.K):=by
 intro O s σ H x y v u Q I Z Y h;obtain⟨a,z,xs,rfl,rfl,F,q⟩:=h;cases Z;obtain⟨t,rfl⟩:=Y;have hu:X.A.units<bc:=hr.units0;rcases F with F|F
 ·obtain⟨j,R,J,_⟩:=I.tuple F;exact Eh.tuple_str z t (show s.heap.IsTuple a j.toArray from J) hu X.prog X.w X.xe _ ⟨.bl ua,H,I,rfl,q⟩
 ·obtain⟨j,R,J,_⟩:=I.list F;exact Eh.list_str z t J.isList hu X.prog X.w X.xe _ ⟨.bl ua,H,I,rfl,q⟩
end L2

namespace L2
open PySem PySem.Spec PyProof.Rows
open AutoSeq1 (wpAny_loadPart')


end L2

namespace L2
open PySem PySem.Spec PyProof.Rows PySem.W
structure Lies (lo:Nat)(pn:List (Ba×Obj))(H:Hp)(h:Za)(e:Ba)(cls:Da)(dx:Option Ba):Prop where
 ob:∃oe vs,h.get? e=ia oe/\oe.cls=cls/\oe.dict=dx/\oe.data=.fields vs/\
  (vs[1]?=ia .none\/∃T oT ts,vs[1]?=ia (.ref T)/\T≠e/\h.get? T=ia oT/\oT.data=.fields ts/\ts[3]?=ia .none/\H T=Aa/\lo<=T/\∀p∈pn,p.1≠T)
 hn:H e=Aa
 le:lo<=e
 pn:∀p∈pn,p.1≠e

def av  {h:Za} i x (y:h.get? a=ia o)(hd:o.data=.fields vs) :
  (∃j,(h.update a (sj (·.setIfInBounds i x))).get? a=ia j/\j.cls=o.cls/\j.dict=o.dict/\j.data=.fields (vs.setIfInBounds i x))/\∀b,b≠a->(h.update a (sj (·.setIfInBounds i x))).get? b=h.get? b:=by
 have z:=uK hd (·.setIfInBounds i x);refine⟨⟨_,Ir _ y (YA z),Obj.cls_mapFields _ _,?_,z⟩,λb F=>EA _ _ (Ta F)⟩;unfold sj
 lia
def jE  {s: Ja} 
  (Z:A.frames=ia (env::outer)) (hl:s.heap.FunFrames base (env::outer)) (hf:env.frame=ia L) (he:s.heap.get? e=ia oe) (hd:oe.data=.fields vs) (hsz:1<vs.size)
  (h:∀(h':Za) (T:Ba) (y oT:Obj) vs' ts ,(∀b o,b∉Bf (env::outer)->b≠e->s.heap.get? b=ia o->h'.get? b=ia o)->(∀b o,b∈Bf (env::outer)->b≠e->s.heap.get? b=ia o->∃sl,h'.get? b=ia { o with slots:=sl })->
   s.heap.objs.size<=T->h'.get? e=ia y->y.cls=oe.cls->y.dict=oe.dict->y.data=.fields vs'->vs'[1]?=ia (.ref T)->h'.get? T=ia oT->oT.data=.fields ts->ts[3]?=ia .none->Q () { s with heap:=h' }) :
  wpAny M A (do let a <- frameOf env;let F <- entryPlaceOf L za;let b <- EntryCells.newEntry j a .none (Me L) .none F;setField (.ref e) 1 b) (λ_ s'=>wpAny M A (Zn (.ref e) Aa) Q E s') E s:=by
 have R:e∉Bf (env::outer):=λm=>by
  rcases hl.mem m with⟨-,o,ho,no⟩
  simp_all
 refine ub (wpAny_frameOf_fun Z hl hf λI fs=>ub (wpAny_entryPlaceOf λF xa=>ub (Ph ?_ (xa.sizeOk5 _ _ _ _ _))));have n3:3<([j,.ref L,.none,Me L,.none]++(if F.isEmpty then Qb 6 cf else F)).toArray.size:=by
  simp_all
 generalize ja:(⟨.type "traceback",Aa,.fields ([j,.ref L,.none,Me L,.none]++(if F.isEmpty then Qb 6 cf else F)).toArray,#[]⟩:Obj)=ot
 have dt:ot.data=.fields ([j,.ref L,.none,Me L,.none]++(if F.isEmpty then Qb 6 cf else F)).toArray:=by lia
 have g1:I.get? e=ia oe:=by rw[fs.2.1 e R,he]
 have new:=Df I (YA dt);have ne:I.objs.size≠e:=λz=>Rh _ (z ▸ Lc g1);obtain⟨⟨o2,g2,c2,d2,v2⟩,r2⟩:=av 1 (.ref I.objs.size) (Nc ot g1) hd;have O:=(r2 _ ne).trans new;obtain⟨⟨o3,g3,c3,d3,v3⟩,r3⟩:=av 3 .none O dt;refine zr (Nc ot g1) hd hsz (ub (Kh g2 v2 (fB hsz) ?_));rw[if_pos (by rfl)]
 refine zr O dt n3 ?_;have keep:∀b o,b≠e->I.get? b=ia o->_:=λb o Y g=>(r3 b (Xe (Lc g))).trans ((r2 b Y).trans (Nc ot g));refine h _ I.objs.size o2 o3 _ _ (λb o Y J g=>keep b o J (by rw[fs.2.1 b Y,g])) (λb o _ J g=>?_) (Wv fs.1.symm) ((r3 e (Ta ne)).trans g2) c2 d2 v2 (fB hsz) g3 v3 (fB n3)
 rcases fs.2.2 b o g with⟨sl,q⟩
 simp_all

def Oa.left  {O: St}{ch:List Ba}(I:Oa X pins O H s)(hH:∀b∈ch,H b=Aa)(F:∀b∈ch,X.s₀.heap.objs.size<=b)(hd:∀b∈ch,∃o vs,s.heap.get? b=ia o/\o.data=.fields vs)(Z:∀b∈ch,∀p∈X.pn++pins,p.1≠b)
  (k:∀b o,b∉Bf X.stack->b∉ch->s.heap.get? b=ia o->h'.get? b=ia o) (sl:∀b o,b∈Bf X.stack->b∉ch->s.heap.get? b=ia o->∃t,h'.get? b=ia { o with slots:=t }):Oa X pins O H { s with heap:=h' }:=by
 have u:Un (Bf X.stack) ch H H s.heap h':=by
  refine⟨λb o e _ j y=>k b o j y e,λb o e _ j y=>sl b o j y e,λ_ _ _ n _=>n,λb o e y=>?_,λ_ _ e=>e,λ_ _ _ e=>e,λb ps e=>⟨#[],by rw[e];simp⟩⟩
  grind
 have tr:∀b u,H b=ia u->b∉Bf X.stack/\b∉ch:=λb u e=>⟨λz=>(by rw[I.stkFree b z]at e;cases e),λz=>(by simp_all)⟩
 have J:Vd X.prog X.w H h':=λa o e=>(I.hok a o e).stay (λb v j q=>by
  grind) (λ_ q=>q) λ_ _ q=>q
 refine I.call (g':=s.gens) (d':=s.drawn) (t':=s.toks) u J I.bare λb j=>⟨.inr (F b j),λz=>?_,λx c e z=>?_,Z b j⟩
 ·obtain⟨o,vs,g,d⟩:=hd b j;obtain⟨m,⟨R,_,_,Y,r⟩,_⟩:=I.loc
  lia
 ·obtain⟨o,vs,g,d⟩:=hd b j;obtain⟨v,R,Y,y⟩:=I.cell x c e
  lia
def JC  {σ: St}(I:Oa X [] σ H s)(O:X.stack=X.env::X.outer)(hf:X.env.frame=ia X.env.locals)
  (l:Lies X.s₀.heap.objs.size X.pn H s.heap ea cls dx) (q:∀h',Oa X [] σ H { s with heap:=h' }->Lies X.s₀.heap.objs.size X.pn H h' ea cls dx->Q () { s with heap:=h' }):wpAny M X.A (vv (.ref ea) X.env) (λ_ s'=>wpAny M X.A (Zn (.ref ea) Aa) Q E s') E s:=by
 obtain⟨oe,vs,he,F,ja,hd,ht⟩:=l.ob;have ya:X.A.frames=ia (X.env::X.outer):=by rw[<- O];exact I.ok.frames
 have hl:s.heap.FunFrames X.base (X.env::X.outer):=by rw[<- O];exact I.stack
 have pe:∀p∈X.pn++[],p.1≠ea:=λp hp=>l.pn p (by simp_all)
 unfold vv;simp only[hf];rcases ht with h1|⟨T,oT,ts,h1,hTe,hT,hdT,h3,nT,lT,pT⟩
 ·refine ub (Kh he hd h1 ?_);rw[if_neg (by decide)]
  refine jE ya hl hf he hd (Ob.mp h1).1 λh' T' Y Z xa za k sl R g1 c1 c2 c3 c4 g2 c5 c6=>?_;rw[<- O]at k sl;have J:Oa X [] σ H { s with heap:=h' }:=I.left (ch:=[ea]) (λb j=>by rw[Fa.mp j];exact l.hn) (λb j=>by rw[Fa.mp j];exact l.le) (λb j=>by simp_all) (λb j=>by grind)
   (λb o j F e=>k b o j (λz=>F (by simp[z])) e) λb o j F e=>sl b o j (λz=>F (by simp[z])) e
  refine q h' J ⟨⟨Y,xa,g1,c1.trans F,c2.trans ja,c3,.inr ⟨T',Z,za,c4,?_,g2,c5,c6,I.hok.fresh R,Lb I.sz R,λp hp z=>?_⟩⟩,l.hn,l.le,l.pn⟩
  ·exact λz=>absurd (Lc he) (ac.mpr (z ▸ R))
  ·exact absurd (Lc (I.pin p (by simp_all)).1) (ac.mpr (z ▸ R))
 ·have wa:(cf==Me X.env.locals)=ua:=rfl;refine ub (Kh he hd h1 ?_);rw[if_pos (by rfl)]
  refine ub (Kh hT hdT h3 ?_);rw[wa,if_neg Ld];refine ub (zr hT hdT (Ob.mp h3).1 ?_);have y:=(av 3 .none hT hdT).2;have I1:Oa X [] σ H { s with heap:=s.heap.update T (sj (·.setIfInBounds 3 cf)) }:=I.left (ch:=[T]) (λb j=>by simp_all) (λb j=>by simp_all) (λb j=>by simp_all) (λb j p hp=>by grind)
   (λb o _ F e=>(y b (by simp_all)).trans e) λb o _ F e=>⟨o.slots,(y b (by simp_all)).trans e⟩
  have va:=(y ea (Ta hTe)).trans he;have ka:(s.heap.update T (sj (·.setIfInBounds 3 cf))).FunFrames X.base (X.env::X.outer):=by rw[<- O];exact I1.stack
  refine jE (s:={ s with heap:=s.heap.update T (sj (·.setIfInBounds 3 cf)) }) ya ka hf va hd (Ob.mp h1).1 λh' T' Y Z xa za k sl R g1 c1 c2 c3 c4 g2 c5 c6=>?_
  rw[<- O]at k sl;have J:Oa X [] σ H { s with heap:=h' }:=Oa.left (s:={ s with heap:=s.heap.update T (sj (·.setIfInBounds 3 cf)) }) (ch:=[ea]) I1 (λb j=>by rw[Fa.mp j];exact l.hn) (λb j=>by rw[Fa.mp j];exact l.le) (λb j=>by simp_all) (λb j=>by grind)
   (λb o j F e=>k b o j (λz=>F (by simp[z])) e) λb o j F e=>sl b o j (λz=>F (by simp[z])) e
  refine q h' J ⟨⟨Y,xa,g1,c1.trans F,c2.trans ja,c3,.inr ⟨T',Z,za,c4,?_,g2,c5,c6,I1.hok.fresh R,Lb I1.sz R,λp hp z=>?_⟩⟩,l.hn,l.le,l.pn⟩
  ·exact λz=>absurd (Lc va) (ac.mpr (z ▸ R))
  ·exact absurd (Lc (I1.pin p (by simp_all)).1) (ac.mpr (z ▸ R))
def zf  (P:Rb)(w:Db):qk:=λj H s E e y=>∃(F:Ba) (H':Hp) (cls:Da) (dx:Option Ba),e=.ref F/\y.os=s.os/\ve y.gens/\Un (Bf j) [] H H' s.heap y.heap/\Vd P w H' y.heap/\Lies s.heap.objs.size [] H' y.heap F cls dx/\E cls dx H'

def zf.back  {R: St}(I:Oa X pins R H s)(h:zf X.prog X.w X.stack H s E e Y):∃(y:Ba) (j:Hp) (cls:Da) (F:Option Ba),e=.ref y/\Oa X pins R j Y/\Lies X.s₀.heap.objs.size X.pn j Y.heap y cls F/\E cls F j:=by
 obtain⟨y,j,cls,F,rfl,os,bare,un,J,l,q⟩:=h;have pn:∀b,s.heap.objs.size<=b->∀p∈X.pn,p.1≠b:=λb hb p hp z=>absurd (Lc (I.pin p (Sf _ hp)).1) (ac.mpr (z ▸ hb));refine⟨y,j,cls,F,rfl,I.call' (ch:=[]) os un J bare (λb z=>absurd z (by simp)),⟨?_,l.hn,Lb I.sz l.le,pn y l.le⟩,q⟩
 obtain⟨oe,vs,he,hc,O,hd,ht⟩:=l.ob;refine⟨oe,vs,he,hc,O,hd,ht.imp id ?_⟩;rintro⟨T,oT,ts,h1,h2,h3,h4,h5,h6,Z,_⟩;exact⟨T,oT,ts,h1,h2,h3,h4,h5,h6,Lb I.sz Z,pn T Z⟩
end L2

namespace L2
open PySem PySem.Spec PyProof.Rows PySem.W
open Builtin Builtin.ObjectAttr
section
variable {M:Gs}{A:Ub}{E:Da->Ja->Prop}{h:Za}{g:Array GenState}{d:Drawn}{t:Nat}{os:ue}
variable {nm q:Str}{C N D:Ba}{bs bmB:List Da}{hdct:Bool}{sn:List Str}{sub:List Da}{ab:Bool}{col:Option Bool}{dd:Option Ba}{k0 k1 k2 k3 k5:Option Da}{B newId:String}{mN mD:Str->Option Da}{name:Str}
structure Vc (h:Za)(C N D:Ba)(mN mD:Str->Option Da)(bmB:List Da)(newId:String):Prop where
 cls:∃nm q bs sn sub ab col dd k0 k1 k2 k3 k5,h.get? C=ia (Yl nm q C N bs (.ref D::bmB) la sn sub ab col dd k0 k1 k2 k3 k5 newId)
 ns:h.Ns N mN
 low:∃c0 dd cd sl,h.get? D=ia { cls:=c0,dict:=dd,data:=.cls cd,slots:=sl }/\h.Ns cd.ns mD
def Vc.keeps  {h':Za}(T:Vc h C N D mN mD bmB newId)(k:∀b o,h.get? b=ia o->h'.get? b=ia o):Vc h' C N D mN mD bmB newId:=by
 obtain⟨⟨nm,q,bs,R,j,Z,y,I,k0,J,k2,k3,k5,e⟩,n,c0,F,Y,sl,O,n2⟩:=T;exact⟨⟨nm,q,bs,R,j,Z,y,I,k0,J,k2,k3,k5,k _ _ e⟩,n.keeps k,c0,F,Y,sl,k _ _ O,n2.keeps k⟩
def Vc.look    (T:Vc h C N D mN mD bmB newId)(hB:uf (.type B) name=pure y)(R:mroOf (.type B)=pure bmB)(j:mN name=Aa)(hD:mD name=Aa)(Y:Q y ⟨h,g,d,t,os⟩) :
  wpAny M A (uf (.ref C) name) Q E ⟨h,g,d,t,os⟩:=by
 obtain⟨⟨nm,q,bs,sn,J,ab,O,dd,k0,k1,k2,k3,k5,e⟩,n,c0,xa,cd,sl,I,Z⟩:=T;have F:xk bmB name=pure y:=by rw[gA,R]at hB;exact hB
 rw[gA];refine ub (CA e ?_);rw[xA];refine ub (wpAny_classOwn_exc e n ?_);rw[j];show wpAny M A (xk (.ref D::bmB) name) Q E _;rw[xA];refine ub (wpAny_classOwn_cls I Z ?_);rw[hD];show wpAny M A (xk bmB name) Q E _;rw[F];exact Wb Y
def Vc.own    (T:Vc h C N D mN mD bmB newId)(j:mN name=ia v)(I:Q (ia v) ⟨h,g,d,t,os⟩):wpAny M A (uf (.ref C) name) Q E ⟨h,g,d,t,os⟩:=by
 obtain⟨⟨nm,q,bs,R,y,Y,F,J,k0,O,k2,k3,Z,e⟩,n,_⟩:=T;rw[gA];refine ub (CA e ?_);rw[xA];refine ub (wpAny_classOwn_exc e n ?_);rw[j];exact Wb I
end
section
variable {prog:Rb}{w:Db}{A:Ub}{E:Da->Ja->Prop}{h:Za}{g:Array GenState}{d:Drawn}{t:Nat}{os:ue}
variable {C N D x:Ba}{bmB:List Da}{B newId sa owner:String}{mN mD mA:Str->Option Da}{name:Str}{v:Da}
def Vc.check      (T:Vc h C N D mN mD bmB newId)(F:Wl B bmB sa owner)(Z:h.get? x=ia o)(R:o.cls=.ref C)(J:Q () ⟨h,g,d,t,os⟩) :
  wpAny M A (Uv sa ⟨[.ref x,j,v],[]⟩) Q E ⟨h,g,d,t,os⟩:=by
 obtain⟨⟨nm,q,bs,sn,O,ab,Y,dd,k0,k1,k2,k3,k5,e⟩,_⟩:=T;have hb:(Ie C::.ref D::bmB).contains (.type owner)=la:=by rw[Cm,Cm,F.hasOwner,jm,jm]
 have I:wpAny M A (match JK sa with|some y=>Bind.checkArgs sa y ⟨[.ref x,j,v],[]⟩|_=>pure ()) Q E ⟨h,g,d,t,os⟩:=by
  have ok:=F.args (.ref x) j v;unfold argsOk at ok;generalize JK sa=z at ok ⊢;cases z with
  |some y=>exact wpAny_of_eq ok J
  |none=>exact Wb J
 unfold Uv;rw[F.kind,F.split];refine ub (m:=yv _ _) ?_;unfold yv
 repeat (first|(with_reducible refine xf Z ?_;rw[R])|(with_reducible refine Ao e ?_;rw[hb])|wp_step)
 exact I
def Vc.tail  (T:Vc h C N D mN mD bmB newId)(j:mD "__init__" = Aa):OwnTail h bmB (.ref D::bmB):=by
 obtain⟨_,_,c0,F,O,J,y,I⟩:=T;exact .own y I j .base
def Vc.made   {rest:List Da}{Q:Fin->Ja->Prop}(T:Vc h C N D mN mD bmB newId)(F:Hv B newId j bmB)(hD:mD "__init__" = Aa)(hi:mN "__init__" = ia (.ref Z))(y:h.get? Z=ia oI)(J:oI.cls=.type "function")(hr:rest.length<=db)
  (hq:∀h' e,Za.MadeExcOf h h' e (.ref C) rest->h.objs.size<=e->wpAny (Ka prog w) A (call (.ref Z) (.ref e::rest)) (λr O=>r=.none/\Q (.done (.ret (.ref e))) O) E ⟨h',g,d,t,os⟩) :
  wpAny (Ka prog w) A (Tb.«type.__call__» ⟨.ref C::rest,[]⟩) Q E ⟨h,g,d,t,os⟩:=by
 have Y:=T.tail hD;obtain⟨nm,q,bs,sn,xa,ab,za,dd,k0,k1,k2,k3,k5,e⟩:=T.cls
 repeat (first|with_reducible refine xf e ?_|with_reducible refine wpAny_madeBy_exc e ?_|wp_step)
 refine codeAny_call_builtin_code (aK _ F.quiet) (wpAny_check_new_subT F Y e (codeAny_exc_new_subT F Y e ?_ hr));show wpAny _ _ _ _ _ _;generalize I:(h.push { cls:=.type "tuple",data:=.seq rest.toArray }).push { cls:=.ref C,data:=.fields #[.ref h.objs.size,.none,.none,.none,.bool ua,.none] }=h1;have k:∀b o,h.get? b=ia o->h1.get? b=ia o:=λb o z=>by rw[<- I];exact Nc _ (Nc _ z)
 have T1:=T.keeps k;have R:h1.get? (h.objs.size+1)=ia { cls:=.ref C,data:=.fields #[.ref h.objs.size,.none,.none,.none,.bool ua,.none] }:=by rw[<- I];heap_get
 have g2:h1.get? h.objs.size=ia { cls:=.type "tuple",data:=.seq rest.toArray }:=by rw[<- I];exact Nc _ (LJ rfl rfl)
 have hc:(Ie C::.ref D::bmB).contains (.ref C)=la:=by simp
 have e1:=k _ _ e;unfold yv
 repeat (first|with_reducible refine xf R ?_|(with_reducible refine Ao e1 ?_;rw[hc])|wp_step)
 show wpAny _ _ (uf (.ref C) _) _ _ _;refine T1.own hi ?_;refine cj (ub ?_);unfold bindSpecial;refine ub (Dr (T := "function") ⟨_,k _ _ y,J⟩ ?_);rw[if_pos (by decide)]
 refine Wb (ub (We (hq _ (h.objs.size+1) ⟨k,VA (io _),h.objs.size,R,VA (Fb _),g2⟩ (io _)) (λr O z=>?_) λ_ _ z=>z));obtain⟨rfl,z⟩:=z
 wp_walk
 exact z
def Vc.make   {rest:List Da}{Q:Da->Ja->Prop}(T:Vc h C N D mN mD bmB newId)(F:Hv B newId j bmB)(hD:mD "__init__" = Aa)(hi:mN "__init__" = ia (.ref J))(y:h.get? J=ia O)(I:O.cls=.type "function")(hr:rest.length<=db)
  (hq:∀h' e,Za.MadeExcOf h h' e (.ref C) rest->h.objs.size<=e->wpAny (Ka prog w) (A.under (.builtin "type.__call__" ⟨.ref C::rest,[]⟩)) (call (.ref J) (.ref e::rest)) (λr R=>r=.none/\Q (.ref e) R) E ⟨h',g,d,t,os⟩) :
  wpAny (Ka prog w) A (call (.ref C) rest) Q E ⟨h,g,d,t,os⟩:=by
 obtain⟨nm,q,bs,sn,Z,ab,xa,dd,k0,k1,k2,k3,k5,e⟩:=T.cls;have f1:=tc_lookup;have f2:=tc_bind (.ref C);have ty:(⟨h,g,d,t,os⟩:Ja).TypeIs (.ref C) "type" := ⟨_,e,rfl⟩;refine Oo (codeAny_of_tree ?_);show wpAny _ _ (callAny (.ref C) _) _ _ _
 repeat (any_goals (first|assumption|with_reducible refine xf e ?_|wp_step))
 refine⟨rfl,codeAny_call_builtin_at (aK _ (by decide +kernel)) entry_typeCall (wpAny_check_type_call_sub e (T.made (hr:=hr) F hD hi y I λh' e' hm Y=>?_))⟩
 exact hq h' e' hm Y
structure Reads (B:String)(bmB:List Da):Prop where
 ga:Slot B "__getattribute__" "BaseException.__getattribute__"
 mro:mroOf (.type B)=pure bmB
 no:uf (.type B) "__getattr__" = pure Aa
 has:bmB.contains (.type "BaseException")=la
def Vc.gaCheck      (T:Vc h C N D mN mD bmB newId)(R:Reads B bmB)(O:h.get? x=ia o)(I:o.cls=.ref C)(Y:Q () ⟨h,g,d,t,os⟩) :
  wpAny M A (Uv "BaseException.__getattribute__" ⟨[.ref x,j],[]⟩) Q E ⟨h,g,d,t,os⟩:=by
 obtain⟨nm,q,bs,sn,y,ab,J,dd,k0,k1,k2,k3,k5,e⟩:=T.cls;have c1:builtinKind "BaseException.__getattribute__" = ia .slot:=by decide +kernel
 have c2:splitId "BaseException.__getattribute__" = ia ("BaseException", "__getattribute__"):=by decide +kernel
 have Z:(Ie C::.ref D::bmB).contains (.type "BaseException")=la:=by rw[Cm,Cm,R.has,jm,jm]
 have ha:=F.args_bexc_ga (.ref x) j;simp only[Uv,c1,c2];refine ub ?_;unfold yv
 repeat (first|(with_reducible refine xf O ?_;rw[I])|(with_reducible refine Ao e ?_;rw[Z])|wp_step)
 exact Y
def Vc.gaEntry      (T:Vc h C N D mN mD bmB newId)(R:Reads B bmB)(I:h.get? x=ia o)(F:o.cls=.ref C)(y:∀c,o.data≠.cls c)(hd:o.dict=ia dx)(j:h.Ns dx mA)(Z:mA name=ia v)
  (hB:uf (.type B) name=pure Aa) (n1:mN name=Aa) (n2:mD name=Aa) (Y:Q (.done (.ret v)) ⟨h,g,d,t,os⟩) :
  wpAny (Ka prog w) A (Tb.«object.__getattribute__» ⟨[.ref x,.str name tk],[]⟩) Q E ⟨h,g,d,t,os⟩:=by
 obtain⟨nm,q,bs,sn,J,ab,O,dd,k0,k1,k2,k3,k5,e⟩:=T.cls;unfold Tb.«object.__getattribute__»
 repeat (first|(with_reducible refine xf I ?_;rw[F])|(with_reducible refine T.look hB R.mro n1 n2 ?_)|wp_step)
 split
 ·rename_i c z;exact absurd z (y c)
 unfold instanceDict
 repeat (first|(with_reducible refine xf I ?_;rw[F])|with_reducible refine xf e ?_|wp_step)
 rw[hd]
 repeat (first|(with_reducible refine wpAny_nsGet j ?_;rw[Z])|wp_step)
 exact Y
def Vc.get      (T:Vc h C N D mN mD bmB newId)(R:Reads B bmB)(J:h.get? x=ia o)(y:o.cls=.ref C)(O:∀c,o.data≠.cls c)(hd:o.dict=ia dx)(I:h.Ns dx mA)(hv:mA name=ia v)(hh:handedOut v=pure v)
  (hB:uf (.type B) name=pure Aa) (g1:mN "__getattribute__" = Aa) (g2:mD "__getattribute__" = Aa) (Z:mN "__getattr__" = Aa) (a2:mD "__getattr__" = Aa) (n1:mN name=Aa) (n2:mD name=Aa) (Y:Q v ⟨h,g,d,t+1,os⟩) :
  wpAny (Ka prog w) A (getAttr (.ref x) name j) Q E ⟨h,g,d,t,os⟩:=by
 have f3:=R.ga.bind (.ref x);have c0:(j&&onTheHeap (Br "BaseException.__getattribute__"))=ua:=by cases j<;>rfl
 have c2:(Br "BaseException.__getattribute__" == Br "object.__getattribute__")=ua:=by decide +kernel
 have c1:(onTheHeap (Ie C)&&Br "BaseException.__getattribute__" == Br "object.__getattribute__")=ua:=by rw[c2];rfl
 unfold getAttr
 repeat (any_goals (first|assumption|(with_reducible refine xf J ?_;rw[y])|(with_reducible refine T.look R.ga.lookup R.mro g1 g2 ?_)|(with_reducible refine T.look R.no R.mro Z a2 ?_)|wp_step))
 refine NA R.ga.plain F.entry_bexc_ga (T.gaCheck R J y (T.gaEntry R J y O hd I hv hB n1 n2 ?_))
 repeat (any_goals (first|assumption|wp_step))
 all_goals first|exact Y|(rw[hh];exact Wb Y)|skip
def jF {M:Gs}{s:Ja}{F:Ba}{tk:Tok}{J:Str->Option Da}{ns:List Str}{Q:Fin->Ja->Prop}(R:s.heap.Ns1 F J)(hw:Within J ns)(hl:ns.length<db)
  (hq:∀h' I,h'.Ns1 F (λy=>if y=name then ia v else J y)->lm F s.heap h'->Q (.done (.ret .none)) { s with heap:=h',toks:=I }) :
  wpAny M A (storeInDict F (.str name tk) name v) Q E s:=by
 refine ub (m:=newKeyGuard _ _ _) (Wb (ub (wpAny_nsSet1 R λh' O sb=>?_)));rcases O.count (Within.cons name v hw)with⟨o,Y,ep,Z,hd,le⟩;have j:Y.size<=db:=Lb le (by rw[Td];exact hl)
 refine ub (wpAny_lookBehind Z (hd ▸ pastItsLine_dict (GJ j)) ?_);exact Wb (hq h' _ O sb)
def Vc.put     {ns:List Str}(T:Vc h C N D mN mD bmB newId)(SF:Wl B bmB sa owner)(n1:mN name=Aa)(n2:mD name=Aa)(hB:uf (.type B) name=pure Aa)(J:h.get? x=ia o)(hc:o.cls=.ref C)(Z:∀c,o.data≠.cls c)
  (hd:(o.dict=Aa/\∀n,mA n=Aa)\/∃j,o.dict=ia j/\j≠x/\h.Ns1 j mA) (hw:Within mA ns) (hl:ns.length<db)
  (hq:∀h' F j,(o.dict=ia j\/(o.dict=Aa/\j=h.objs.size))->j≠x->h'.get? x=ia { o with dict:=ia j }->h'.Ns1 j (λy=>if y=name then ia v else mA y)->(∀b u,b≠x->b≠j->h.get? b=ia u->h'.get? b=ia u)->Q (.done (.ret .none)) ⟨h',g,d,F,os⟩) :
  wpAny (Ka prog w) A (Tb.«object.__setattr__» ⟨[.ref x,.str name tk,v],[]⟩) Q E ⟨h,g,d,t,os⟩:=by
 obtain⟨nm,q,bs,sn,xa,ab,za,dd,k0,k1,k2,k3,k5,e⟩:=T.cls;have ps:=SF.passes (.ref x);unfold Tb.«object.__setattr__»
 repeat (first|rw[refuse_eq]|(rw[refuseLoop_ref,refuseLoop_ref,ps])|(with_reducible refine xf J ?_;rw[hc])|with_reducible refine CA e ?_|(with_reducible refine T.look hB SF.mro n1 n2 ?_)|with_reducible refine xf e ?_|wp_step)
 rcases hd with⟨dn,ma⟩|⟨j,de,dne,dns⟩
 ·rw[dn,if_neg (by simp[typeHasDict])]
  split
  ·rename_i z;cases z
  split
  ·rename_i c z;exact absurd z (Z c)
  ·have R:x≠h.objs.size:=Xe (Lc J);have x1:=Nc { cls:=.type "dict",data:=.dict #[] } J;refine ub (wpAny_alloc' (ub (wpAny_update' x1 (Wb ?_))));have fr:({ cls:=o.cls,dict:=ia h.objs.size,data:=o.data,slots:=o.slots }:Obj).isFreed=ua:=by
    have:=(Za.get?_some_iff.mp J).2;obtain⟨c1,c2,c3,c4⟩:=o;cases c3<;>first|rfl|exact this
   have x2:=Ir (λo=>({ cls:=o.cls,dict:=ia h.objs.size,data:=o.data,slots:=o.slots }:Obj)) x1 fr;have d2:((h.push { cls:=.type "dict",data:=.dict #[] }).update x λo=>{ cls:=o.cls,dict:=ia h.objs.size,data:=o.data,slots:=o.slots }).get? h.objs.size=ia { cls:=.type "dict",data:=.dict #[] }:=(bw _ _ _ _ R.symm).trans (LJ rfl rfl);have k2:∀b u,b≠x->h.get? b=ia u->((h.push { cls:=.type "dict",data:=.dict #[] }).update x λo=>{ cls:=o.cls,dict:=ia h.objs.size,data:=o.data,slots:=o.slots }).get? b=ia u:=λb u z e=>(bw _ _ _ _ z).trans (Nc _ e);generalize ((h.push { cls:=.type "dict",data:=.dict #[] }).update x λo=>{ cls:=o.cls,dict:=ia h.objs.size,data:=o.data,slots:=o.slots })=h2 at x2 d2 k2 ⊢;have nd:h2.Ns h.objs.size (λ_=>Aa):=⟨_,#[],_,d2,rfl,λe he=>absurd he (by simp),λ_=>rfl⟩
   refine jF (Za.Ns1.of_empty nd) Within.nil (Nat.zero_lt_of_lt hl) λh' F I O=>?_;refine hq h' F h.objs.size (.inr ⟨dn,rfl⟩) R.symm ((O.2 x R).trans x2) ?_ λb u z1 Y z=>(O.2 b Y).trans (k2 b u z1 z);obtain⟨o',es,ep,e1,e2,e3,eu,e4⟩:=I;exact⟨o',es,ep,e1,e2,e3,eu,λy=>by rw[e4 y];by_cases hy:y=name<;>simp[hy,ma]⟩
 ·rw[de];refine Wb (jF dns hw hl λh' F I O=>?_);refine hq h' F j (.inl de) dne ?_ I λb u z1 Y z=>(O.2 b Y).trans z;rw[O.2 x dne.symm,J,<- de]
def Vc.set    {ns:List Str}(T:Vc h C N D mN mD bmB newId)(I:Wl B bmB sa owner)(s1:mN "__setattr__" = Aa)(s2:mD "__setattr__" = Aa)(n1:mN name=Aa)(n2:mD name=Aa)(hB:uf (.type B) name=pure Aa)(O:h.get? x=ia o)(J:o.cls=.ref C)(R:∀c,o.data≠.cls c)
  (hd:(o.dict=Aa/\∀n,mA n=Aa)\/∃j,o.dict=ia j/\j≠x/\h.Ns1 j mA) (hw:Within mA ns) (hl:ns.length<db)
  (hq:∀h' F j,(o.dict=ia j\/(o.dict=Aa/\j=h.objs.size))->j≠x->h'.get? x=ia { o with dict:=ia j }->h'.Ns1 j (λy=>if y=name then ia v else mA y)->(∀b u,b≠x->b≠j->h.get? b=ia u->h'.get? b=ia u)->Q () ⟨h',g,d,F,os⟩) :
  wpAny (Ka prog w) A (setAttr (.ref x) name v) Q E ⟨h,g,d,t,os⟩:=by
 have f3:=I.slot.bind (.ref x);unfold setAttr callSpecial? specialOf
 repeat (any_goals (first|assumption|(with_reducible refine xf O ?_;rw[J])|(with_reducible refine T.look I.slot.lookup I.mro s1 s2 ?_)|wp_step))
 refine NA I.slot.plain I.entry (T.check I O J (T.put I n1 n2 hB O J R hd hw hl λh' F j Y z2 z3 z4 Z=>?_))
 repeat (any_goals (first|assumption|wp_step))
 exact hq h' F j Y z2 z3 z4 Z
end
def EI  : Reads "ValueError" [.type "ValueError",.type "Exception",.type "BaseException",.type "object"] where
 ga:=.of (owner := "BaseException") (n := "__getattribute__") (by rw[dm,om];kernel_rfl) (by decide +kernel) (by decide +kernel) (by decide +kernel)
  (by first|exact .inl (by decide +kernel)|exact .inr (by decide +kernel)) (by rw[isSubtype_type];kernel_rfl)
 mro:=by kernel_rfl
 no:=by rw[dm,om];kernel_rfl
 has:=by decide

def Oa.sooner  {y: St}(I:Oa X pins y H s)(k:∀b o,sb.heap.get? b=ia o->X.s₀.heap.get? b=ia o)(J:sb.os=X.s₀.os)(hz:sb.heap.objs.size<=X.s₀.heap.objs.size)(O:∀b o,X.base.get? b=ia o->sb.heap.get? b=ia o/\X.H₀ b=Aa)(j:X.base.objs.size<=sb.heap.objs.size)(F:sb.heap.FunFrames X.base X.outer) :
  Oa { X with s₀:=sb } pins y H s:=by
 refine⟨⟨I.ok.mod,I.ok.kind,I.ok.glob,I.ok.blt,Lb hz I.ok.above,I.ok.inj,I.ok.has,λx c h e=>Lb hz (I.ok.cab x c h e),I.ok.hd,I.ok.frames,I.ok.stk,I.ok.exf,O,j,I.ok.noex,I.ok.exfs,F,I.ok.frf⟩,I.os.trans J.symm,I.bare,(Un.kept k).trans I.base,I.loc,I.cell,I.free,I.freeC,I.pin,I.hok,I.len⟩
def Oa.xput  {σ: St}{e j:Ba}(I:Oa X pins σ H s)(hH:H e=Aa)(xa:X.s₀.heap.objs.size<=e)(ge:s.heap.get? e=ia oe)(gd:oe.data=.fields vs)(hp:∀p∈X.pn++pins,p.1≠e)
  (R:s.heap.objs.size<=j\/∃y,H j=ia (.xd y)) (k:∀b u,b≠e->b≠j->s.heap.get? b=ia u->h'.get? b=ia u) (new:Od X.prog X.w (upd H j (.xd fs)) h' j (.xd fs)):Oa X pins σ (upd H j (.xd fs)) { s with heap:=h',toks:=t' }:=by
 have Z:∀b o,s.heap.get? b=ia o->H b=Aa->b≠j:=λb o g n z=>by
  rcases R with q|⟨y,q⟩
  ·rw[z]at g;exact absurd (Lc g) (ac.mpr q)
  ·rw[z,q]at n;cases n
 have ne:∀b u,H b=ia u->b≠e:=λb u g z=>by rw[z,hH]at g;cases g
 have J:∀b u,H b=ia u->(∀f0,u≠.xd f0)->b≠j:=λb u g hu z=>by
  rcases R with q|⟨y,q⟩
  ·rw[z,I.hok.fresh q]at g;cases g
  ·rw[z,q]at g;cases g;exact hu y rfl
 obtain⟨od,za⟩:∃o,h'.get? j=ia o:=by obtain⟨_,⟨o,_,_,z,_⟩,_⟩:=new;exact⟨o,z⟩
 obtain⟨m0,⟨oL,ya,ja,gL,rL⟩,va⟩:=id I.loc;have Y:X.env.locals≠e:=λz=>by
  rw[z,ge]at gL;cases gL;have:=rL.1;rw[gd]at this;cases this
 refine I.step (g':=s.gens) (d':=s.drawn) (ch:=[e]) (λb hb=>?_) (λb o _ _ F g n=>k b o (λz=>F (by simp[z])) (Z b o g n) g) (λb o _ _ F g n=>⟨o.slots,k b o (λz=>F (by simp[z])) (Z b o g n) g⟩) (λb o _ g n=>by rw[Dc (Z b o g n)];exact n)
  (λb o F g=>?_) (λb ys g=>by rw[Dc (J b _ g λ_ z=>nomatch z)];exact g) (λb o u g=>by rw[Dc (J b _ g λ_ z=>nomatch z)];exact g) (λb ps g=>⟨#[],by rw[Dc (J b _ g λ_ z=>nomatch z),g];simp⟩) (λm hm=>?_) (λa o g=>?_) I.bare
 ·have z:b=e:=by simpa using hb
  subst z;refine⟨.inr xa,Ta Y,λx c q z=>?_,hp⟩;obtain⟨v,o',O,F⟩:=I.cell x c q;rw[z,ge]at O;cases O;rw[gd]at F;cases F
 ·by_cases z:b=j
  ·exact⟨od,z ▸ za⟩
  ·exact⟨o,k b o (λz=>F (by simp[z])) z g⟩
 ·obtain⟨o,es,ep,O,r⟩:=hm;exact⟨o,es,ep,k _ o Y (Z _ o O I.free) O,r⟩
 ·by_cases z:a=j
  ·subst z;rw[sf]at g;cases g;exact new
  ·rw[Dc z]at g;refine(I.hok a o g).stay (λb v hb q=>?_) (λb q=>by rw[Dc (J b _ q λ_ z=>nomatch z)];exact q) λb ys q=>by rw[Dc (J b _ q λ_ z=>nomatch z)];exact q
   rcases hb with z'|z'
   ·subst z';exact k b v (ne b _ g) z q
   ·exact k b v (ne b _ z') (J b _ z' λ_ z=>nomatch z) q
theorem nF   : ∀{fs:List (Str×V)},g∉fs.map (·.1)->fs.lookup g=Aa
 |[],_=>rfl
 |(a,v)::r,h=>by
  rw[lj];have:(g==a)=ua:=by
   rw[beq_eq_false_iff_ne];exact λz=>h (by rw[z];simp)
  rw[this];exact nF λz=>h (by simp at z ⊢;exact .inr z)
def xset  {σ: St}(I:Oa X pins σ H s)(T:Vc s.heap C N D mN mD bmB newId)(SF:Wl B bmB sa owner)
  (s1:mN "__setattr__" = Aa) (s2:mD "__setattr__" = Aa) (n1:mN f=Aa) (n2:mD f=Aa) (hB:uf (.type B) f=pure Aa) (hH:H e=Aa) (ja:X.s₀.heap.objs.size<=e) (ge:s.heap.get? e=ia oe) (hc:oe.cls=.ref C) (gd:oe.data=.fields vs) (hp:∀p∈X.pn++pins,p.1≠e)
  (hd:(oe.dict=Aa/\fs=[])\/∃j,oe.dict=ia j/\H j=ia (.xd fs)) (hl:fs.length<1000) (ru:RelV v u)
  (q:∀s' j,Oa X pins σ (upd H j (.xd (putF f v fs))) s'->s'.heap.get? e=ia { oe with dict:=ia j }->(∀b u,b≠e->b≠j->s.heap.get? b=ia u->s'.heap.get? b=ia u)->(oe.dict=ia j\/(oe.dict=Aa/\H j=Aa))->Q () s') :
  wpAny (Ka X.prog X.w) A (setAttr (.ref e) f u) Q E s:=by
 have nc:∀c,oe.data≠.cls c:=λc z=>by rw[gd]at z;cases z
 have Z:∀(mA:Str->Option Da) (J:Za) (tk:Nat) (j:Ba),(∀g,RelO (fs.lookup g) (mA g))->(s.heap.objs.size<=j\/∃za,H j=ia (.xd za))->(oe.dict=ia j\/(oe.dict=Aa/\H j=Aa))->J.get? e=ia { oe with dict:=ia j }->J.Ns1 j (λy=>if y=f then ia u else mA y)->(∀b u,b≠e->b≠j->s.heap.get? b=ia u->J.get? b=ia u)->Q () { s with heap:=J,toks:=tk }:=λmA J tk j r z0 F z2 z3 Y=>by
  refine q _ j (I.xput hH ja ge gd hp z0 Y ⟨_,z3,λg=>?_⟩) z2 Y F;rw[qG];by_cases R:g=f
  ·rw[if_pos R,if_pos R];exact ru
  ·rw[if_neg R,if_neg R];exact r g
 obtain⟨hh,gg,dr,tk,os⟩:=s;rcases hd with⟨dn,rfl⟩|⟨j,de,hx⟩
 ·refine T.set (mA:=λ_=>Aa) (ns:=[]) SF s1 s2 n1 n2 hB ge hc nc (.inl ⟨dn,λ_=>rfl⟩) Within.nil (by rw[Og];decide) λJ O j F z2 z3 Y z5=>?_
  rcases F with F|⟨_,rfl⟩
  ·rw[dn]at F;cases F
  ·exact Z (λ_=>Aa) J O _ (λg=>zh) (.inl (Fb _)) (.inr ⟨dn,I.hok.fresh (Fb _)⟩) z3 Y z5
 ·obtain⟨mA,n,r⟩:=(show Od X.prog X.w H hh j (.xd fs)from I.hok j _ hx);refine T.set (mA:=mA) (ns:=fs.map (·.1)) SF s1 s2 n1 n2 hB ge hc nc (.inr ⟨j,de,λz=>(by rw[z,hH]at hx;cases hx),n⟩) (λg R=>?_) (by rw[Hb,Og];lia) λJ O xa F z2 z3 Y z5=>?_
  ·refine gB λz=>R ?_;have:=r g;rw[nF z]at this;exact RelO.none_of this
  ·rcases F with F|⟨F,_⟩
   ·have z:xa=j:=by rw[de]at F;exact(Nd F).symm
    subst z;exact Z _ J O _ r (.inr ⟨fs,hx⟩) (.inl de) z3 Y z5
   ·rw[de]at F;cases F
def xstep  {R: St}{C N D e:Ba}{f self a:Str}{v:V}{vs:Array Da}{i j:Nat}(I:Oa X [(e,oe)] R H s)(ka:X.pn=[])(T:Vc X.base C N D mN mD bmB newId)(SF:Wl B bmB sa owner)
  (s1:mN "__setattr__" = Aa) (s2:mD "__setattr__" = Aa) (n1:mN f=Aa) (n2:mD f=Aa) (hB:uf (.type B) f=pure Aa) (ya:X.s₀.heap.objs.size<=e) (hc:oe.cls=.ref C) (gd:oe.data=.fields vs) (hd:(oe.dict=Aa/\fs=[])\/∃F,oe.dict=ia F/\H F=ia (.xd fs)) (hl:fs.length<1000)
  (hs:PE X (.Name self p1) (tVar i)) (ha:PE X (.Name a p3) (tVar j)) (hi:R[i]?=ia (ia (.ref e))) (hj:R[j]?=ia (ia v)) (va:rh (.Name a p3) (ia (.Attribute (.Name self p1) f p2)) pos.line X.env=pure ua)
  (q:∀s' F,Oa X [(e,{ oe with dict:=ia F })] R (upd H F (.xd (putF f v fs))) s'->(oe.dict=ia F\/(oe.dict=Aa/\H F=Aa))->Q .next s') :
  wpAny (Ka X.prog X.w) X.A (exec (.Assign [.Attribute (.Name self p1) f p2] (.Name a p3) pos) X.env) Q X.xe s:=by
 refine plainObj_wpAny_Assign_Attribute (Mb (ha _ s R H (λy H1=>y=v/\H1=H) I ⟨v,hj,rfl,rfl⟩) λu s3 ⟨y,H1,I1,ry,hy,za⟩=>?_) va;subst hy;subst za;refine Mb (hs _ s3 R H1 (λz Z=>z=.ref e/\Z=H1) I1 ⟨_,hi,rfl,rfl⟩) λov s4 ⟨z,Z,I2,rz,hz,wa⟩=>?_;subst hz;subst wa;obtain rfl:ov=Ie e:=rz;obtain⟨ge,hH,hL,ja,xa⟩:=I2.pin (e,oe) (by simp)
 have J:Oa X [] R Z s4:=I2.pins_of λp Y=>absurd Y (by simp)
 refine xset J (T.keeps I2.bk) SF s1 s2 n1 n2 hB hH ya ge hc gd (λp Y=>by rw[ka]at Y;simp at Y) hd hl ry λs5 F J5 g5 k5 O=>?_
 refine q s5 F (J5.pins_of λp Y=>?_) O;obtain rfl:p=(e,{ oe with dict:=ia F }):=by simpa using Y
 refine⟨g5,?_,hL,ja,λv z=>xa v z⟩;show upd Z F _ e=Aa;rw[Dc,hH];rintro rfl;rcases O with O|O
 ·rcases hd with⟨w0,_⟩|⟨dx',w1,w2⟩
  ·rw[w0]at O;cases O
  ·rw[w1]at O;cases O;rw[hH]at w2;cases w2
 ·have:=J5.free;obtain⟨_,_,_⟩:=J5.hok e _ sf;rename_i mA n r;obtain⟨o',es,ep,g',d',_⟩:=n;rw[g5]at g';cases g';rw[show({ oe with dict:=ia e }:Obj).data=oe.data from rfl,gd]at d';cases d'
def IT {CX:qk}{P:Rb}{w:Db}{K:Nb}{mg:Str->Option Da}{base:Za}{k:Nat}{f:Ba}{name j:Str}{params:qv}{body:List Qa}{scope:Rc}{dV kV Y pm F ct oc:Da}{an od:Option Ba}{ha:Array (Option Da)}{N ps:List Str}
  {A:Ub} {outer:List Env} {s sb:Ja} {H:Hp} {E:XK} {args:Args} {us:List Da} {vs:List V} {e:Ba} {oe:Obj} {R:Result->Ja->Prop}
  (lk:K.lookup f=ia ⟨oc,od,.func (Ag name j params body scope dV kV Y pm an F ct),ha⟩) (va:pj K F j=la) (S:FnScope N ps scope) (hr:Room (k+1) A) (e0:Env0 P w K mg base A outer s H)
  (hb:Lf s (Ag name j params body scope dV kV Y pm an F ct) args (ps.zip us)) (r:Vals vs us) (hl:vs.length=ps.length) (ge:s.heap.get? e=ia oe) (hH:H e=Aa) (Z:∀v,oe.data≠.cell v) (ya:e∉Bf outer)
  (kb:∀b o,sb.heap.get? b=ia o->s.heap.get? b=ia o) (za:sb.os=s.os) (hz:sb.heap.objs.size<=s.heap.objs.size) (ka:∀b o,base.get? b=ia o->sb.heap.get? b=ia o/\H b=Aa) (ja:base.objs.size<=sb.heap.objs.size) (xa:sb.heap.FunFrames base outer)
  (J:∀s1,Oa { cxOf CX P w K mg base N j scope f F A outer s H E with s₀:=sb } [(e,oe)] (start N vs) H s1->wpAny (Ka P w) (A.deeper (Tc j scope s.heap.objs.size f F)) (execs body (Tc j scope s.heap.objs.size f F)) (λfl s'=>fl=.next/\R (.ok (.ret .none)) s') (λ_ _=>False) s1) :
  codeAny (Ka P w) A (.call (.ref f) args) R s:=by
 have KX:K.In s.heap:=e0.mod.kin.keeps λb o z=>(e0.bs b o z).1;have wa:s.heap.NoLimit:=e0.mod.nolimit.keeps λb o z=>(e0.bs b o z).1;have O:∀y∈ps.zip us,scope.names.lookup y.1=ia .local\/(scope.names.lookup y.1=ia .cell/\((Gf (s.heap.objs.size+1) scope.names []).lookup y.1).isSome=la):=λ⟨n,v⟩ hy=>by
  rcases S.par n (Lv hy).1 with q|q
  ·exact .inl q
  ·exact .inr ⟨q,JA _ _ _ (.inl q)⟩
 refine KJ hr.depth (KX _ _ lk) rfl S.co S.gen rfl (WK KX va) (hb _ _ _ _ ?_);refine YK S.kind O λxb he s1 x=>?_;subst he;refine⟨wa.keeps x.toInCall.keep,codeAny_func ?_⟩;have I:Oa (cxOf CX P w K mg base N j scope f F A outer s H E) [] (start N vs) H s1:=kF S hr.hd e0 hl r x;have I1:Oa { cxOf CX P w K mg base N j scope f F A outer s H E with s₀:=sb } [] (start N vs) H s1:=I.sooner kb za hz ka ja xa
 have I2:Oa { cxOf CX P w K mg base N j scope f F A outer s H E with s₀:=sb } [(e,oe)] (start N vs) H s1:=I1.pins_of λp hp=>by
  obtain rfl:p=(e,oe):=by simpa using hp
  exact⟨x.toInCall.keep _ _ ge,hH,Xe (Lc ge),ya,Z⟩
 refine We (J s1 I2) (λfl s' ⟨z,h⟩=>?_) λ_ _ z=>z.elim;subst z;exact h

def Kq  (X:Cx)(C:Ba)(s:Ja)(H:Hp)(Nm:List Str)(j:Str)(scope:Rc)(F:Ba)(y:Da)(body:List Qa)(vs:List V)(fs:List (Str×V)):Prop:=
 ∀(J:Ub) (sM s1:Ja) (e t:Ba),Oa { cxOf (zf X.prog X.w) X.prog X.w X.K X.mg X.base Nm j scope F y J X.stack sM H (λ_ _ _=>False)with s₀:=s } [(e,{ cls:=.ref C,data:=.fields #[.ref t,.none,.none,.none,.bool ua,.none] })] (start Nm (.ref e::vs)) H s1->s.heap.objs.size<=e->
  wpAny (Ka X.prog X.w) (J.deeper (Tc j scope sM.heap.objs.size F y)) (execs body (Tc j scope sM.heap.objs.size F y)) (λfl O=>fl=.next/\∃I,H I=Aa/\Oa { cxOf (zf X.prog X.w) X.prog X.w X.K X.mg X.base Nm j scope F y J X.stack sM H (λ_ _ _=>False)with s₀:=s } [(e,{ cls:=.ref C,dict:=ia I,data:=.fields #[.ref t,.none,.none,.none,.bool ua,.none] })] (start Nm (.ref e::vs)) (upd H I (.xd fs)) O) (λ_ _=>False) s1
def xmake  {σ: St}{dV kV xa pm y ct:Da} 
  (I:Oa X pins σ H s) (T:Vc X.base C N D mN mD bmB newId) (F:Hv B newId za bmB) (hD:mD "__init__" = Aa) (hi:mN "__init__" = ia (.ref fI)) (lk:X.K.lookup fI=ia ⟨.type "function",od,.func (Ag name j params body scope dV kV xa pm an y ct),ya⟩) (va:pj X.K y j=la) (S:FnScope Nm ps scope) (hr:Room (k+2) X.A)
  (hb:Binds X.K (Ag name j params body scope dV kV xa pm an y ct) ps []) (r:Vals vs us) (hl:vs.length+1=ps.length) (hz:us.length<=db) (Y:Kq X C s H Nm j scope fI y body vs fs)
  (q:∀e O R,H O=Aa->Oa X pins σ (upd H O (.xd fs)) R->Lies X.s₀.heap.objs.size X.pn (upd H O (.xd fs)) R.heap e (.ref C) (ia O)->(∃t,R.heap.get? e=ia { cls:=.ref C,dict:=ia O,data:=.fields #[.ref t,.none,.none,.none,.bool ua,.none] })->Q (.ref e) R):wpAny (Ka X.prog X.w) X.A (call (.ref C) us) Q X.xe s:=by
 obtain⟨hh,gg,dr,tk,os⟩:=s;have I0:=I;refine(T.keeps I.bk).make F hD hi (I.kIn _ _ lk) rfl hz λh' e hm Z=>?_;obtain⟨t,ge,_,_⟩:=hm.there;have e0:=I.env0.make C us [];have e1:Env0 X.prog X.w X.K X.mg X.base (X.A.under (.builtin "type.__call__" ⟨.ref C::us,[]⟩)) X.stack ⟨h',gg,dr,tk,os⟩ H:=⟨e0.frames,e0.mod,λb o z=>⟨hm.keeps _ _ (e0.bs b o z).1,(e0.bs b o z).2⟩,Lb e0.bsz (Ei (Pg Z (Lc ge))),e0.funs.of_keeps λb o z _=>⟨o,hm.keeps _ _ z,rfl⟩,e0.frf,e0.hok.kept hm.keeps,e0.bare⟩;have hH:H e=Aa:=I.hok.fresh Z;refine Oo ?_;refine IT (k:=k) (CX:=zf X.prog X.w) (E:=λ_ _ _=>False) (sb:=⟨hh,gg,dr,tk,os⟩) (us:=.ref e::us) (vs:=.ref e::vs) lk va S (hr.make C us []) e1 ?_ (.cons rfl r) (by simpa using hl) ge hH (λv z=>by cases z) (λz=>?_) hm.keeps rfl (Ei (Pg Z (Lc ge))) e0.bs e0.bsz e0.funs λs1 J=>?_
 ·have:=hb ⟨h',gg,dr,tk,os⟩ (.ref e::us) (e1.mod.kin.keeps λb o z=>(e1.bs b o z).1) (by simp;have:=r.length;lia)
  simpa using this
 ·obtain⟨_,o,ho,_⟩:=e0.funs.mem z;exact absurd (Lc ho) (ac.mpr Z)
 ·refine We (Y _ _ s1 e t J Z) (λfl R ⟨z,O,ja,J'⟩=>⟨z,rfl,?_⟩) λ_ _ z=>z;have Ix:Oa X pins σ (upd H O (.xd fs)) R:=I.call' (ch:=[]) J'.os J'.base J'.hok J'.bare λb z=>absurd z (by simp)
  obtain⟨g1,g2,_⟩:=J'.pin _ (Uf _ (Fa.mpr rfl));refine q e O R ja Ix ⟨⟨_,_,g1,rfl,rfl,rfl,.inl rfl⟩,g2,Lb I.sz Z,λp hp z=>?_⟩ ⟨t,g1⟩;exact absurd (Lc (I.pin p (Sf _ hp)).1) (ac.mpr (z ▸ Z))

def eN  {pos: Pos}{v: V}(T:Vc X.base C N D mN mD bmB newId)(SF:Wl B bmB sa owner)(s1:mN "__setattr__" = Aa)(s2:mD "__setattr__" = Aa)(n1:mN f=Aa)(n2:mD f=Aa)(hB:uf (.type B) f=pure Aa)
  (h0:Sh scope self) (h1:Sh scope a) (d0:(self==("__debug__" : Str))=ua) (d1:(a==("__debug__" : Str))=ua) (c0:(self==("__classdict__" : Str))=ua) (c1:(a==("__classdict__" : Str))=ua)
  (sw:∀env,rh (.Name a Z) (ia (.Attribute (.Name self Y) f I)) pos.line env=pure ua) :
  Kq X C s H [self,a] y scope fI O [.Assign [.Attribute (.Name self Y) f I] (.Name a Z) pos] [v] [(f,v)]:=by
 intro A' sM xa e t J he;have F:=J.wish λ_ _=>False;refine Lr (xstep (X:=Cx.wish _ λ_ _=>False) (i:=0) (j:=1) (fs:=[]) F rfl T SF s1 s2 n1 n2 hB he rfl rfl (.inl ⟨rfl,rfl⟩) (by decide) (Si rfl h0 d0 c0) (Si rfl h1 d1 c1) rfl rfl (sw _) λs' R K z=>?_)
 refine Wb ⟨rfl,R,?_,K.unwish⟩;rcases z with z|z
 ·cases z
 ·exact z.2
def fN  {O: Str}{scope: Rc}{za: Da}{p1: Pos}{p2: Pos}{p3: Pos}{pos: Pos}{q1: Pos}{q2: Pos}{q3: Pos}{Y: Pos}{v: V}{I: V}(T:Vc X.base C N D mN mD bmB newId)(SF:Wl B bmB sa owner)(s1:mN "__setattr__" = Aa)(s2:mD "__setattr__" = Aa)(n1:mN f=Aa)(n2:mD f=Aa)(hB:uf (.type B) f=pure Aa)(m1:mN F=Aa)(m2:mD F=Aa)(xa:uf (.type B) F=pure Aa)(ja:f≠F)
  (h0:Sh scope self) (h1:Sh scope a) (h2:Sh scope O) (d0:(self==("__debug__" : Str))=ua) (d1:(a==("__debug__" : Str))=ua) (d2:(O==("__debug__" : Str))=ua) (c0:(self==("__classdict__" : Str))=ua) (c1:(a==("__classdict__" : Str))=ua) (c2:(O==("__classdict__" : Str))=ua)
  (sw:∀env,rh (.Name a p3) (ia (.Attribute (.Name self p1) f p2)) pos.line env=pure ua) (sw2:∀env,rh (.Name O q3) (ia (.Attribute (.Name self q1) F q2)) Y.line env=pure ua) :
  Kq X C s H [self,a,O] va scope fI za [.Assign [.Attribute (.Name self p1) f p2] (.Name a p3) pos,.Assign [.Attribute (.Name self q1) F q2] (.Name O q3) Y] [v,I] [(f,v),(F,I)]:=by
 intro A' sM wa e t J he;have J':=J.wish λ_ _=>False;refine Lr (xstep (X:=Cx.wish _ λ_ _=>False) (i:=0) (j:=1) (fs:=[]) J' rfl T SF s1 s2 n1 n2 hB he rfl rfl (.inl ⟨rfl,rfl⟩) (by decide) (Si rfl h0 d0 c0) (Si rfl h1 d1 c1) rfl rfl (sw _) λs' dx K z=>?_)
 have hn:H dx=Aa:=by
  rcases z with z|z
  ·cases z
  ·exact z.2
 refine Lr (xstep (X:=Cx.wish _ λ_ _=>False) (i:=0) (j:=2) (fs:=[(f,v)]) K rfl T SF s1 s2 m1 m2 xa he rfl rfl (.inr ⟨dx,rfl,sf⟩) (by simp) (Si rfl h0 d0 c0) (Si rfl h2 d2 c2) rfl rfl (sw2 _) λya y K2 R=>?_)
 have e1:y=dx:=by
  rcases R with R|R
  ·exact(Nd R).symm
  ·exact nomatch R.1
 subst e1;have K3:=K2.unwish;have e2:putF F I [(f,v)]=[(f,v),(F,I)]:=by show(if f=F then _ else _)=_;rw[if_neg ja];rfl
 have e3:upd (upd H y (.xd (putF f v []))) y (.xd (putF F I [(f,v)]))=upd H y (.xd [(f,v),(F,I)]):=by
  rw[e2];funext b;by_cases Z:b=y
  ·rw[Z,sf,sf]
  ·rw[Dc Z,Dc Z,Dc Z]
 rw[e3]at K3;exact Wb ⟨rfl,y,hn,K3⟩
section
variable {M:Gs}{A:Ub}{E:Da->Ja->Prop}{env:Env}{C N D:Ba}{bmB:List Da}{newId:String}{mN mD:Str->Option Da}
def Vc.raise     (j:bmB.contains (.type "BaseException")=la)(Y:A.handled=Aa)
  (h:wpAny M A x (λv s1=>∃e t F,v=.ref e/\Vc s1.heap C N D mN mD bmB newId/\s1.heap.get? e=ia { cls:=.ref C,dict:=ia F,data:=.fields #[.ref t,.none,.none,.none,.bool ua,.none] }/\E (.ref e) s1) E s):wpAny M A (raiseStmt env (ia x) Aa) Q E s:=by
 have I:(Ie C::.ref D::bmB).contains (.type "BaseException")=la:=by rw[Cm,Cm,j,jm,jm]
 unfold raiseStmt;refine ub (We h (λv s1 Z=>?_) λ_ _ z=>z);obtain⟨e,t,F,rfl,T,he,O⟩:=Z;obtain⟨nm,q,bs,sn,J,ab,R,dd,k0,k1,k2,k3,k5,y⟩:=T.cls;obtain⟨hp,g,d,tk,os⟩:=s1
 repeat (first|with_reducible refine xf he ?_|with_reducible refine xf y ?_|(with_reducible refine Ao y ?_;rw[I])|wp_step)
 exact wpAny_raiseNew_none Y O
end
def cD  (X:Cx)(C:Ba)(n:Nat)(mk:List V->List (Str×V))(t:TA):TS:=λ_ I H=>t I H λy F=>y.length=n/\∀(j:List (Ba×Obj)) (e dx:Ba) (s':Ja),F dx=Aa->Oa X j I (upd F dx (.xd (mk y))) s'->Lies X.s₀.heap.objs.size X.pn (upd F dx (.xd (mk y))) s'.heap e (.ref C) (ia dx)->X.xe (.ref e) s'
def qT {X:Cx}{C N D fI:Ba}{xa:List Da}{B j Y:String}{mN mD:Str->Option Da}{k:Nat}{name O x:Str}{params:qv}{body:List Qa}{scope:Rc}{dV kV va pm Z ct:Da}{an od:Option Ba}{xb:Array (Option Da)}{Nm ps:List Str}{mk:List V->List (Str×V)}{t:TA}{a0:La}{as:List La}{p y pos:Pos}{n:Nat}
  (T:Vc X.base C N D mN mD xa j) (F:Hv B j Y xa) (hD:mD "__init__" = Aa) (hi:mN "__init__" = ia (.ref fI)) (lk:X.K.lookup fI=ia ⟨.type "function",od,.func (Ag name O params body scope dV kV va pm an Z ct),xb⟩) (ya:pj X.K Z O=la) (S:FnScope Nm ps scope) (hr:Room (k+2) X.A)
  (hb:Binds X.K (Ag name O params body scope dV kV va pm an Z ct) ps []) (hn:n+1=ps.length) (zb:n<=8) (R:xa.contains (.type "BaseException")=la) (hg:Gl X x) (hm:X.mg x=ia (.ref C)) (hk:Lh X.K (.ref C)=la) (ha:PA X (a0::as) t) (ja:∀(vs:List V) (s:Ja) (H:Hp),vs.length=n->Kq X C s H Nm O scope fI Z body vs (mk vs))
  (wa:(x==("__debug__" : Str))=ua:=by decide) (he:gc (a0::as) X.env=(ua,Xa a0 X.env)::gc as X.env:=by rfl) (ka:(Xb y (gc as X.env)).any (·.1)=ua:=by rfl) :
  PS X (.Raise (ia (.Call (.Name x p) (a0::as) [] y)) Aa pos) (cD X C n mk t):=by
 intro za s σ H D0 I h;have go:wpAny (Ka X.prog X.w) X.A (Xa (.Call (.Name x p) (a0::as) [] y) X.env) (λv s1=>∃e t dx,v=.ref e/\Vc s1.heap C N D mN mD xa j/\s1.heap.get? e=ia { cls:=.ref C,dict:=ia dx,data:=.fields #[.ref t,.none,.none,.none,.bool ua,.none] }/\X.xe (.ref e) s1) X.xe s:=by
  refine yo (Nq I hg hm ?_ wa);refine UK (h₀:=X.base) I.ok.mod.kin hk (Mb (ha y za s σ H _ I h) λus s1 ⟨vs,H1,I1,r,hl,q⟩=>⟨I1.kIn,?_⟩) he ka;refine xmake (k:=k) I1 T F hD hi lk ya S hr hb r (by lia) (by have:=r.length;rw[Og,zi];lia) (ja vs s1 H1 hl) λe dx s' z1 J l ⟨t',g⟩=>?_
  exact⟨e,t',dx,rfl,T.keeps J.bk,g,q za e dx s' z1 J l⟩
 rw[arm_exec_Raise]
 first
  |exact ub (Wj (Vc.raise R hr.hd (ub (We go (λv s1 z=>ub (Wj (Wb z))) λ_ _ z=>z))))
  |(simp only[evalOpt,Oz];exact ub (Wj (Vc.raise R hr.hd (ub (We go (λv s1 z=>ub (Wj (Wb z))) λ_ _ z=>z)))))
def UU    {σ:St}(I:Oa X pins σ H s)(hN:X.N.Nodup)(hi:X.N[i]?=ia x)(hk:X.env.scope.names.lookup x=ia .local)
  (h:∀s',Oa X pins (σ.set i Aa) H s'->Q () s'):wpAny M A (do eo X.env x .none;unbindBehindTheSuite X.env x pos) Q E s:=by
 obtain⟨m,hn,hl⟩:=id I.loc;have Y:(X.env.scope.kind == .class||(X.env.scope.kind == .module&&X.env.locals != X.env.globals))=ua:=by rw[I.ok.kind];rfl
 have Z:i<σ.length:=by rw[I.len];exact(Ea.mp hi).1
 have cne:=I.cne;refine wpAny_nameGoes_keeps hk hn Y λh' v xa J=>?_;have F:∀b o,X.s₀.heap.get? b=ia o->b≠X.env.locals:=λb o e=>Xe (Wf (Lc e) I.ok.above);have tr:Vd X.prog X.w H h':=λb ob e=>by
  refine(I.hok b ob e).stay (λc w' hc q=>(J.2 c ?_).trans q) (λ_ q=>q) λ_ _ q=>q;rintro rfl;rcases hc with rfl|hc
  ·rw[I.free]at e;cases e
  ·rw[I.free]at hc;cases hc
 refine h _ ⟨I.ok,I.os,I.bare,⟨λb o e n hb R=>(J.2 b (F b o e)).trans (I.base.keep b o e n hb R),λb o e n hb R=>?_,I.base.free,λb o e R=>?_,I.base.tups,I.base.frzs,I.base.tbls⟩,⟨_,xa,λj y v' O e2 e3=>?_⟩,λy c e=>?_,I.free,I.freeC,λp hp=>?_,tr,by simpa using I.len⟩
 ·obtain⟨sl,O⟩:=I.base.slot b o e n hb R;exact⟨sl,(J.2 b (F b o e)).trans O⟩
 ·obtain⟨o',O⟩:=I.base.there b o e R;exact⟨o',(J.2 b (F b o e)).trans O⟩
 ·by_cases hj:j=i
  ·subst hj;rw[Fi Z]at e2;cases e2
  ·rw[Ah (Ta hj)]at e2;have hy:y≠x:=λz=>hj (Hy hN O (z ▸ hi));obtain⟨u,r,l⟩:=hl j y v' O e2 e3;refine⟨u,r,l.imp (λz=>⟨z.1,by show(if y=x then v else m y)=ia u;rw[if_neg hy];exact z.2⟩) λz=>⟨z.1,?_⟩⟩
   obtain⟨c,ec,o,ho,hd⟩:=z.2;exact⟨c,ec,o,(J.2 c (cne y c ec)).trans ho,hd⟩
 ·obtain⟨w',o,ho,hd⟩:=I.cell y c e;exact⟨w',o,(J.2 c (cne y c e)).trans ho,hd⟩
 ·obtain⟨p1,p2,p3,p4⟩:=I.pin p hp;exact⟨(J.2 p.1 p3).trans p1,p2,p3,p4⟩
end L2

namespace L2
open PySem PySem.Spec PyProof.Rows PySem.W

def TV  {Y: ue}{I: List Da}(hC:h.get? C=ia (Yl nm q C N bs bm hdct sn I ab col dd k0 k1 k2 k3 k5 newId))(hD:h.get? D=ia (Yl xa q' D ND za j O ja Z ya R va l0 l1 l2 l3 l5 F))(he:h.get? e=ia oe)(y:oe.cls=.ref C)(hb:j.contains (.type "BaseException")=la)
  (J:Q ((Ie C::bm).contains (.ref D)) ⟨h,g,d,t,Y⟩):wpAny M A (So (.ref e) (.ref D)) Q E ⟨h,g,d,t,Y⟩:=by
 have hB:(Ie D::j).contains (.type "BaseException")=la:=by rw[Cm,hb,jm]
 have f:=tc_notTuple;obtain⟨b,eb⟩:∃b,b=(Ie C::bm).contains (.ref D):=⟨_,rfl⟩;rw[<- eb]at J;unfold So
 repeat (first|(with_reducible refine xf he ?_;rw[y])|with_reducible refine xf hD ?_|(with_reducible refine Ao hD ?_;rw[hB])|(with_reducible refine Ao hC ?_;rw[<- eb])|wp_step)
 cases b with
 |true=>wp_walk;exact J
 |false=>wp_walk;exact J

def aW  {Y: St}(I:Oa X [] Y H s)(l:Lies X.s₀.heap.objs.size X.pn H s.heap ea cls dx)
  (q:∀h',Oa X [] Y H { s with heap:=h' }->Lies X.s₀.heap.objs.size X.pn H h' ea cls dx->Q () { s with heap:=h' }):wpAny M A (Zn (.ref ea) Aa) Q E s:=by
 obtain⟨oe,vs,O,y,F,hd,Z⟩:=l.ob;rcases Z with h1|⟨T,oT,ts,h1,hTe,hT,hdT,h3,nT,lT,pT⟩
 ·unfold Zn;refine ub (Kh O hd h1 ?_);rw[if_neg (by decide)]
  exact Wb (q s.heap I l)
 ·have sz:=(Ob.mp h3).1;refine wpAny_setFlight_none O hd h1 hT hdT sz ?_;have j:=(av 3 .none hT hdT).2;have R:=uK hdT (·.setIfInBounds 3 cf);refine q _ (I.left (ch:=[T]) (λb J=>by simp_all) (λb J=>by simp_all) (λb J=>by simp_all) (λb J p hp=>by grind)
   (λb o _ y e=>(j b (by simp_all)).trans e) λb o _ y e=>⟨o.slots,(j b (by simp_all)).trans e⟩) ⟨⟨oe,vs,(j ea (Ta hTe)).trans O,y,F,hd,.inr ⟨T,_,_,h1,hTe,Ir _ hT (YA R),R,by simp[sz],nT,lT,pT⟩⟩,l.hn,l.le,l.pn⟩
noncomputable def Cx.tryC  (X:Cx)(pins:List (Ba×Obj))(xe:Da->Ja->Prop):Cx:={ X with pn:=X.pn++pins,xe:=xe }
def Oa.tryIn  {j: St}(I:Oa X pins j H s):Oa (X.tryC pins xe) [] j H s:=
 ⟨⟨I.ok.mod,I.ok.kind,I.ok.glob,I.ok.blt,I.ok.above,I.ok.inj,I.ok.has,I.ok.cab,I.ok.hd,I.ok.frames,I.ok.stk,I.ok.exf,I.ok.bs,I.ok.bsz,I.ok.noex,I.ok.exfs,I.ok.funs,I.ok.frf⟩,I.os,I.bare,I.base,I.loc,I.cell,I.free,I.freeC,λp y=>I.pin p (by simpa[Cx.tryC]using y),I.hok,I.len⟩
def Oa.tryOut  {y: St}(I:Oa (X.tryC pins xe) j y H s):Oa X pins y H s:=
 ⟨⟨I.ok.mod,I.ok.kind,I.ok.glob,I.ok.blt,I.ok.above,I.ok.inj,I.ok.has,I.ok.cab,I.ok.hd,I.ok.frames,I.ok.stk,I.ok.exf,I.ok.bs,I.ok.bsz,I.ok.noex,I.ok.exfs,I.ok.funs,I.ok.frf⟩,I.os,I.bare,I.base,I.loc,I.cell,I.free,I.freeC,λp F=>I.pin p (by simp only[Cx.tryC];grind),I.hok,I.len⟩
noncomputable def Cx.inH  (X:Cx)(e:Da)(p:List (Ba×Obj)):Cx:={ X with A:=X.A.mark (ia e),calm:=ua,pn:=X.pn++p,xe:=λ_ _=>False }
def Oa.hIn  {j: St}(I:Oa X [] j H s)(y:∀q∈p,s.heap.get? q.1=ia q.2/\H q.1=Aa/\q.1≠X.env.locals/\q.1∉X.fs/\∀v,q.2.data≠.cell v):Oa (X.inH e p) [] j H s:=
 ⟨⟨I.ok.mod,I.ok.kind,I.ok.glob,I.ok.blt,I.ok.above,I.ok.inj,I.ok.has,I.ok.cab,(λz=>(nomatch z)),I.ok.frames,I.ok.stk,I.ok.exf,I.ok.bs,I.ok.bsz,I.ok.noex,I.ok.exfs,I.ok.funs,I.ok.frf⟩,I.os,I.bare,I.base,I.loc,I.cell,I.free,I.freeC,
  λq F=>by
   have:q∈X.pn++p:=by simpa[Cx.inH]using F
   rcases Ma.mp this with z|z
   ·exact I.pin q (Sf _ z)
   ·exact y q z,I.hok,I.len⟩
def Oa.hOut  {y: St}(ok:X.Ok)(I:Oa (X.inH e p) j y H s):Oa X [] y H s:=
 ⟨ok,I.os,I.bare,I.base,I.loc,I.cell,I.free,I.freeC,λq F=>I.pin q (by simp only[Cx.inH];simp_all),I.hok,I.len⟩
def Lies.pinned  {Y: St}(I:Oa X [] Y H s)(l:Lies X.s₀.heap.objs.size X.pn H s.heap ea cls dx):∃oe,s.heap.get? ea=ia oe/\oe.cls=cls/\oe.dict=dx/\(∃vs,oe.data=.fields vs)/\
  ∀q∈[(ea,oe)],s.heap.get? q.1=ia q.2/\H q.1=Aa/\q.1≠X.env.locals/\q.1∉X.fs/\∀v,q.2.data≠.cell v:=by
 obtain⟨oe,vs,F,J,j,hd,_⟩:=l.ob;refine⟨oe,F,J,j,⟨vs,hd⟩,λq R=>?_⟩;rw[Fa.mp R];refine⟨F,l.hn,λz=>?_,λz=>?_,λv z=>by lia⟩
 ·obtain⟨m,⟨o,Z,ep,y,O,_⟩,_⟩:=I.loc
  lia
 ·obtain⟨_,o,y,_⟩:=I.ok.funs.mem z;exact absurd (Lc y) (ac.mpr l.le)
def XL  (M:Gs)(A:Ub)(env:Env)(R:Da->Ja->Prop):Da->Ja->Prop:=λe y=>wpAny M A (vv e env) (λ_ j=>wpAny M A (Zn e Aa) (λ_ F=>R e F) R j) R y
def yM      : aj M A env (XL M A env R):=dL

abbrev Lz  (P:Rb)(w:Db)(K:Nb)(mg:Str->Option Da)(base:Za)(N:List Str)(j:Str)(scope:Rc)(f:Ba)(y:Da)(A:Ub)(outer:List Env)(s:Ja)(H:Hp)(E:XK):Cx:=
 (cxOf (zf P w) P w K mg base N j scope f y A outer s H E).wish (XL (Ka P w) (A.deeper (Tc j scope s.heap.objs.size f y)) (Tc j scope s.heap.objs.size f y) λe F=>zf P w outer H s E e F)
def Fun.okX  {K: Nb}{st:Qa}(F:Fun K x y st f fd)(S:FnScope N ps (Ge st))(len:∀vs H Q E,sp vs H Q E->vs.length=ps.length)
  (J:∀j (A:Ub) outer (s:Ja) H (vs:List V) Q E ,Room k (A.deeper (Tc y (Ge st) s.heap.objs.size f j))->sp vs H Q E->
   ∃t,Ce (Lz P w K mg base N y (Ge st) f j A outer s H E) (Se st) t/\t { nx:=λ_ H'=>Q .non H',rt:=Q } (start N vs) H):FnOk P w K mg base (zf P w) (k+1) f fd ps sp:=by
 obtain⟨oc,od,kV,xa,pm,an,j,ct,za,rfl,lk,R⟩:=F.ex;refine WM lk R S len λA outer s H vs Q E hr Y=>?_;obtain⟨t,h,q⟩:=J j A outer s H vs Q E hr Y;refine⟨t,λO s1 Z H1 D I hw=>?_,q⟩;refine We (h O s1 Z H1 D (I.wish _) hw) (λ_ _ q=>q.unwish) λe s' z=>?_;show wpAny _ _ (leaving _ e) _ _ s';unfold leaving;exact ub z
def zf.out1  {K: Nb}{O:St} 
  (I:Oa (Lz P w K mg base N j scope f F A outer s H E) pins O H' y) (l:Lies s.heap.objs.size [] H' y.heap ea cls dx) (q:E cls dx H'):(Lz P w K mg base N j scope f F A outer s H E).xe (.ref ea) y:=by
 have Z:Oa (cxOf (zf P w) P w K mg base N j scope f F A outer s H E) [] O H' y:=I.unwish.pins_of λp Y=>absurd Y (by simp)
 refine JC (X:=cxOf (zf P w) P w K mg base N j scope f F A outer s H E) (E:=λe y=>zf P w outer H s E e y) Z rfl rfl l λh' J R=>?_;exact⟨ea,H',cls,dx,rfl,J.os,J.bare,J.base,J.hok,R,q⟩
end L2

namespace L2
open PySem PySem.Spec PyProof.Rows PySem.W
open Builtin Builtin.ObjectAttr
def CW  : uf (.type "ValueError") "__class__" = pure (ia (.builtin "object.__class__")):=by rw[dm,om];kernel_rfl
def BN  : uf (.type "getset_descriptor") "__get__" = pure (ia (.builtin "getset_descriptor.__get__")):=by rw[dm,om];kernel_rfl
def CN  : uf (.type "getset_descriptor") "__set__" = pure (ia (.builtin "getset_descriptor.__set__")):=by rw[dm,om];kernel_rfl
def uD  : builtinKind "object.__class__" = ia .getset:=by decide +kernel
noncomputable abbrev pi  : List Da:=[.type "ValueError",.type "Exception",.type "BaseException",.type "object"]

def Vc.gaClass  {O: ue}{K:Vg}(Y:K.In h)(hm:Fs K C (.type "object")=ia la)(T:Vc h C N D mN mD bmB newId)(R:Reads B bmB)(j:h.get? x=ia o)(y:o.cls=.ref C)(F:notCls o=la)(I:o.dict=ia dx)(J:h.get? dx=ia od)
  (hB:uf (.type B) "__class__" = pure (ia (.builtin "object.__class__"))) (n1:mN "__class__" = Aa) (n2:mD "__class__" = Aa) (hq:Q (.done (.ret (.ref C))) ⟨h,g,d,t,O⟩) :
  wpAny (Ka prog w) A (Tb.«object.__getattribute__» ⟨[.ref x,.str "__class__" tk],[]⟩) Q E ⟨h,g,d,t,O⟩:=by
 obtain⟨nm,q,bs,sn,Z,ab,xa,dd,k0,k1,k2,k3,k5,e⟩:=T.cls;unfold Tb.«object.__getattribute__»
 repeat (first|(with_reducible refine xf j ?_;rw[y])|(with_reducible refine T.look hB R.mro n1 n2 ?_)|wp_step)
 rw[uD];dsimp only;rw[BN]
 repeat (first|(with_reducible refine xf j ?_;rw[y])|wp_step)
 rw[uD];dsimp only;rw[CN]
 repeat (first|(with_reducible refine xf j ?_;rw[y])|wp_step)
 refine PySem.W.class_get (K:=K) Y (ox:=o) (od:=ia od) ⟨j,y,F,by rw[I];exact J⟩ hm ?_
 exact Wb hq
def Vc.cattr  {Y: ue}{K:Vg}(hK:K.In h)(hm:Fs K C (.type "object")=ia la)(T:Vc h C N D mN mD bmB newId)(R:Reads B bmB)(y:h.get? x=ia o)(j:o.cls=.ref C)(O:notCls o=la)(I:o.dict=ia dx)(J:h.get? dx=ia od)
  (hB:uf (.type B) "__class__" = pure (ia (.builtin "object.__class__"))) (g1:mN "__getattribute__" = Aa) (g2:mD "__getattribute__" = Aa) (Z:mN "__getattr__" = Aa) (a2:mD "__getattr__" = Aa) (n1:mN "__class__" = Aa) (n2:mD "__class__" = Aa) (hq:Q (ia (.ref C)) ⟨h,g,d,t+1,Y⟩) :
  wpAny (Ka prog w) A (getAttr? (.ref x) "__class__") Q E ⟨h,g,d,t,Y⟩:=by
 have f3:=R.ga.bind (.ref x);unfold getAttr? getAttrBy? getAttrBy
 repeat (any_goals (first|assumption|(with_reducible refine xf y ?_;rw[j])|(with_reducible refine T.look R.ga.lookup R.mro g1 g2 ?_)|(with_reducible refine T.look R.no R.mro Z a2 ?_)|wp_step))
 refine NA R.ga.plain F.entry_bexc_ga (T.gaCheck R y j (T.gaClass hK hm R y j O I J hB n1 n2 ?_))
 repeat (any_goals (first|assumption|wp_step))
noncomputable def ou  : List si->Option (List Str)
 |[]=>ia []
 |e::r=>match e.key,ou r with
  |.str x _,ia l=>ia (x::l)
  |_,_=>Aa
def Jn  (K:Vg)(N:Ba):Option (List Str):=match K.lookup N with
 |some ⟨_,_,.dict es _,_⟩=>ou es.toList
 |_=>Aa
theorem MF  : ∀{es } {ks },ou es=ia ks->(∀e∈es,∃n t,e.key=.str n t)/\∀x,x∉ks->es.find? (λe=>e.key.isStr x)=Aa
 |[],_,_=>⟨λ_ h=>absurd h (by simp),λ_ _=>rfl⟩
 |e::r,ks,h=>by
  unfold ou at h;split at h
  ·rename_i x t l hk Y;cases h;obtain⟨O,I⟩:=MF Y;refine⟨λJ j=>?_,λy F=>?_⟩
   ·rcases ic.mp j with rfl|j
    ·exact⟨_,_,hk⟩
    ·exact O J j
   ·have R:y≠x:=λz=>F (by simp[z])
    have:e.key.isStr y=ua:=by rw[hk];simp[Da.isStr,Ta R]
    rw[qj,this];exact I y λz=>F (by simp[z])
  ·cases h
def XB  {K:Vg}(e:Jn K N=ia ks):∃m ,(∀h,K.In h->h.Ns N m)/\(∀x,x∉ks->m x=Aa)/\∀x v,nsIn K N x=ia (ia v)->m x=ia v:=by
 unfold Jn at e;split at e
 ·rename_i c dd F Y sl lk;obtain⟨R,I⟩:=MF e;refine⟨nsFind F,λh J=>⟨_,F,Y,J _ _ lk,rfl,λe Z=>R e (by simpa using Z),λ_=>rfl⟩,λx O=>?_,λx v j=>?_⟩
  ·unfold nsFind findBy;rw[<- QA,I x O];rfl
  ·unfold nsIn at j;rw[lk]at j;dsimp only at j;unfold nsFind findBy;rw[<- QA];split at j
   ·rename_i e' y;rw[y];cases j;rfl
   ·split at j<;>cases j
 ·cases e
noncomputable def offN  : List Str:=["__setattr__", "__getattribute__", "__getattr__", "__class__", "word", "at", "row"]
structure XBase (K:Vg)(mg:Str->Option Da)(D:Ba)(mD:Str->Option Da):Prop where
 m:mg "PlanError" = ia (.ref D)
 kp:keepIn K (.ref D)=la
 lk:∃q ND bs hd sn sub ab col dd k0 k1 k2 k3 k5 nid,K.lookup D=ia (Yl "PlanError" q D ND bs pi hd sn sub ab col dd k0 k1 k2 k3 k5 nid)/\∀h,K.In h->h.Ns ND mD
 no:∀y∈offN,mD y=Aa
 ni:mD "__init__" = Aa
structure XCls (K:Vg)(mg:Str->Option Da)(x:Str)(fs:List Str)(C:Ba):Prop where
 m:mg x=ia (.ref C)
 kp:keepIn K (.ref C)=la
 ex:∃(D N fI:Ba) (mN mD:Str->Option Da),XBase K mg D mD/\(∃q bs sn sub ab col dd k0 k1 k2 k3 k5,K.lookup C=ia (Yl x q C N bs (.ref D::pi) la sn sub ab col dd k0 k1 k2 k3 k5 "ValueError.__new__"))/\(∀h,K.In h->h.Ns N mN)/\(∀y∈offN,mN y=Aa)/\
  mN "__init__" = ia (.ref fI)/\∃(st:Qa) (qual:Str) (fd:Ul),L2.Fun K "__init__" qual st fI fd/\(∃od osl,K.lookup fI=ia ⟨.type "function",od,.func fd,osl⟩)/\FnScope ("self" :: fs) ("self" :: fs) (Ge st)/\Binds K fd ("self" :: fs) []/\(∀y∈(("self" : Str)::fs),(Ge st).names.lookup y=ia .local)/\
  ((∃f p1 p2 p3 pos,fs=[f]/\Se st=[.Assign [.Attribute (.Name "self" p1) f p2] (.Name f p3) pos])\/∃f f2 p1 p2 p3 pos q1 q2 q3 qos,fs=[f,f2]/\f≠f2/\Se st=[.Assign [.Attribute (.Name "self" p1) f p2] (.Name f p3) pos,.Assign [.Attribute (.Name "self" q1) f2 q2] (.Name f2 q3) qos])
def XBase.get  {K:Vg}(B:XBase K mg D mD)(y:K.In h):∃c0 j F O,h.get? D=ia { cls:=c0,dict:=j,data:=.cls F,slots:=O }/\h.Ns F.ns mD:=by
 obtain⟨q,ND,bs,hd,Z,I,ab,J,j,k0,Y,k2,k3,k5,R,lk,n⟩:=B.lk;exact⟨_,_,_,_,y _ _ lk,n h y⟩

def XCls.name  {K: Vg}(c:XCls K mg x fs C):∃y,clsIn K C=ia y/\y.name=x/\typeIn K (.ref C)=ia (.type "type")/\∃D j,XBase K mg D j/\y.mro=.ref C::.ref D::pi:=by
 obtain⟨D,N,fI,Z,j,B,⟨q,bs,R,F,Y,I,J,k0,O,k2,k3,k5,lk⟩,_⟩:=c.ex;refine⟨_,by unfold clsIn;rw[lk],rfl,by show Oz (λx=>x.cls) (yh _ K)=_;rw[lk];rfl,D,j,B,rfl⟩
def XBase.nm  {K: Vg}(B:XBase K mg D mD):∃j,clsIn K D=ia j/\j.name = "PlanError" /\ typeIn K (.ref D)=ia (.type "type"):=by
 obtain⟨q,Z,bs,hd,R,y,Y,F,J,k0,O,k2,k3,k5,I,lk,n⟩:=B.lk;exact⟨_,by unfold clsIn;rw[lk],rfl,by show Oz (λx=>x.cls) (yh _ K)=_;rw[lk];rfl⟩
def YD  {K: Vg}(c:XCls K mg x fs C)(Y:XCls K mg I xa F)(hp:I ≠ "PlanError"):Ro K (.ref C) (.ref F)=ia (decide (x=I)):=by
 obtain⟨cd,R,h2,h3,D,mD,B,hm⟩:=c.name;obtain⟨za,j,y,J,_⟩:=Y.name;unfold Ro;by_cases e:C=F
 ·subst e;rw[R]at j;cases j;rw[if_pos (by simp),<- h2,<- y]
  simp
 ·have Z:x≠I:=λz=>by
   subst z;have:=c.m.symm.trans Y.m;simp at this;exact e this
  rw[if_neg (by simpa using e)]
  unfold kitCls subIn Fs;dsimp only;rw[j,J,R];have hD:D≠F:=λz=>by
   subst z;obtain⟨ja,O,g2,_⟩:=B.nm;rw[j]at O;cases O;exact hp (y.symm.trans g2)
  simp[hm,Z,Ta e,Ta hD]
def jP  {K: Vg}(c:XCls K mg x fs C):Ro K (.ref C) (.type "ValueError")=ia la:=by
 obtain⟨J,y,F,O,D,I,B,j⟩:=c.name;unfold Ro;rw[if_neg (by simp)]
 unfold kitCls subIn Fs;dsimp only;rw[if_pos (by decide +kernel),y]
 simp[j]
def zC  : ∀f∈[("word" : Str), "at", "row"],uf (.type "ValueError") f=pure Aa:=by
 intro f j;simp only[ic,Ve,or_false]at j;rcases j with rfl|rfl|rfl<;>(rw[dm,om];kernel_rfl)
noncomputable def fldN  : List Str:=["word", "at", "row"]
def ky  : ∀f∈fldN,f∈offN:=by decide
section
variable {K:Vg}{mg:Str->Option Da}{x:Str}{fs:List Str}{C:Ba}
structure XPin (X:Cx)(ea C dx:Ba):Prop where
 ex:∃oe vs,(ea,oe)∈X.pn/\oe.cls=.ref C/\oe.dict=ia dx/\oe.data=.fields vs
def Oa.xobj    {Z:St}(I:Oa X pins Z H s)(p:XPin X ea C dx)(O:H dx=ia (.xd l)) :
  ∃oe vs od mA,s.heap.get? ea=ia oe/\oe.cls=.ref C/\oe.dict=ia dx/\oe.data=.fields vs/\s.heap.get? dx=ia od/\s.heap.Ns dx mA/\∀f,RelO (l.lookup f) (mA f):=by
 obtain⟨oe,vs,F,R,j,Y⟩:=p.ex;obtain⟨mA,n,r⟩:=(show Od X.prog X.w H s.heap dx (.xd l)from I.hok dx _ O);obtain⟨od,y,ep,g,gd,J,_,nf⟩:=n;exact⟨oe,vs,od,mA,(I.pin _ (Sf _ F)).1,R,j,Y,g,⟨od,y,ep,g,gd,J,nf⟩,r⟩
def XCls.two  (c:XCls K mg x fs C)(I:K.In h):∃N D F j,Vc h C N D F j pi "ValueError.__new__" /\ (∀y∈offN,F y=Aa/\j y=Aa)/\Fs K C (.type "object")=ia la:=by
 obtain⟨D,N,fI,F,j,B,⟨q,bs,sn,O,ab,R,dd,k0,k1,k2,k3,k5,lk⟩,Z,Y,_⟩:=c.ex;refine⟨N,D,F,j,⟨⟨_,_,_,_,_,_,_,_,_,_,_,_,_,I _ _ lk⟩,Z h I,B.get I⟩,λy J=>⟨Y y J,B.no y J⟩,?_⟩;unfold Fs clsIn;rw[lk];simp
def Gy  (c:XCls K mg x fs C)(h1:oe.cls=.ref C)(h2:oe.dict=ia dx)(h3:oe.data=.fields vs):KitX K (.ref ea) (.ref C) (λh=>h.get? ea=ia oe/\h.get? dx=ia od):=by
 have I:notCls oe=la:=by unfold notCls;rw[h3]
 refine⟨λM h j F=>?_,λM h j F=>?_,λh tp dd xa n sl j ht=>?_,λ{Z w A E Q s} j F hq=>?_⟩
 ·intro A Q E s k q;obtain⟨Y,g,d,t,R⟩:=s;have y:=k _ _ F.1;show wpAny M A (typeOf (.ref ea)) Q E _;unfold typeOf
  repeat (first|(with_reducible refine xf y ?_;rw[h1])|wp_step)
  exact q
 ·intro A Q E s k q;obtain⟨Y,g,d,t,R⟩:=s;obtain⟨D,N,fI,mN,mD,B,⟨q',bs,sn,J,ab,O,dd,k0,k1,k2,k3,k5,lk⟩,_⟩:=c.ex;have y:=k _ _ (j _ _ lk);unfold isType
  repeat (first|with_reducible refine xf y ?_|wp_step)
  exact q
 ·obtain⟨D,N,fI,mN,mD,B,⟨q',bs,sn,J,ab,O,za,k0,k1,k2,k3,k5,lk⟩,_⟩:=c.ex;have y:=j _ _ lk;by_cases z:C=tp
  ·subst z;rw[ht]at y;simp at y
  ·simpa using z
 ·obtain⟨Y,g,d,t,R⟩:=s;obtain⟨N,D,mN,mD,T,off,hm⟩:=c.two j;have o1:=off "__getattribute__" (by decide)
  have o2:=off "__getattr__" (by decide)
  have o3:=off "__class__" (by decide)
  exact T.cattr j hm EI F.1 h1 I h2 F.2 CW o1.1 o1.2 o2.1 o2.2 o3.1 o3.2 hq
end
section
variable {X:Cx}{mg:Str->Option Da}{x:Str}{fs:List Str}{C ea dx:Ba}
def fU     (c:XCls X.K mg x fs C)(c':XCls X.K mg y F C')(Y:y ≠ "PlanError")(p:XPin X ea C dx):mf X (.builtin "isinstance") (λxs H Q=>xs=[.ref ea,.ref C']/\(∃l,H dx=ia (.xd l))/\Q (.bl (decide (x=y))) H):=by
 intro j s σ H xs us Q I r h;obtain⟨rfl,⟨l,J⟩,q⟩:=h;obtain⟨u,v,rfl,Z,R⟩:=Vals.two r;cases Z;cases R;obtain⟨oe,vs,od,mA,g1,O,g3,g4,g5,_⟩:=I.xobj p J;exact kia_one (Gy c O g3 g4) I.kIn ⟨g1,g5⟩ (YD c c' Y) (λz=>(nomatch z)) λtk=>⟨.bl _,H,I.tok tk,rfl,q⟩
def iU  (c:XCls X.K mg x fs C)(p:XPin X ea C dx):mf X (.builtin "isinstance") (λxs H Q=>xs=[.ref ea,.ty "ValueError"]/\(∃l,H dx=ia (.xd l))/\Q (.bl la) H):=by
 intro j s σ H xs us Q I r h;obtain⟨rfl,⟨l,hl⟩,q⟩:=h;obtain⟨u,v,rfl,ru,J⟩:=Vals.two r;cases ru;cases J;obtain⟨oe,vs,od,mA,Z,F,R,O,y,_⟩:=I.xobj p hl;exact kia_one (Gy c F R O) I.kIn ⟨Z,y⟩ (jP c) (λz=>(nomatch z)) λY=>⟨.bl la,H,I.tok Y,rfl,q⟩
inductive XMany (X:Cx)(mg:Str->Option Da):List Str->List Ba->Prop
 |nil:XMany X mg [] []
 |cons {x:Str} {fs:List Str} {C:Ba} {xs:List Str} {Cs:List Ba}:XCls X.K mg x fs C->x ≠ "PlanError" -> XMany X mg xs Cs->XMany X mg (x::xs) (C::Cs)
theorem oE  (c:XCls X.K mg x fs C):∀{xs } {Cs },XMany X mg xs Cs->kitAny X.K (.ref C) (Cs.map .ref)=ia (xs.contains x)
 |_,_,.nil=>rfl
 |_,_,.cons (x:=x') (C:=C') c' hp r=>by
  have j:=YD c c' hp;have y:=oE c r;by_cases e:x=x'
  ·subst e;simp only[Sd,kitAny];rw[j];simp
  ·simp only[Sd,kitAny];rw[j,y];simp[e]
def gU    (c:XCls X.K mg x fs C)(cs:XMany X mg xs Cs)(p:XPin X ea C dx):mf X (.builtin "isinstance") (λas H Q=>∃tp,as=[.ref ea,.ref tp]/\H tp=ia (.tup (Cs.map .ref))/\(∃l,H dx=ia (.xd l))/\Q (.bl (xs.contains x)) H):=by
 intro J s σ H as y Q I r h;obtain⟨tp,rfl,O,⟨l,R⟩,q⟩:=h;obtain⟨u,v,rfl,j,Z⟩:=Vals.two r;cases j;cases Z;obtain⟨oe,vs,od,mA,g1,Y,g3,g4,g5,_⟩:=I.xobj p R;obtain⟨z,y,j,o,t1,t2,t3,t4,t5⟩:=(show Od X.prog X.w H s.heap tp (.tup (Cs.map .ref))from I.hok tp _ O);have F:y=Cs.map .ref:=by
  clear O t4 z t5 t1 t2;generalize Cs=Ds at j
  induction Ds generalizing y with
  |nil=>cases j;rfl
  |cons a r ih=>
   cases j with
   |cons h1 h2=>cases h1;rw[ih _ h2];rfl
 subst F;have hk:=oE c cs;obtain⟨oc,xa,dt,sl⟩:=o;obtain rfl:oc=Da.type "tuple" := t2;obtain rfl:dt=Data.seq (List.map Ie Cs).toArray t3:=t4;exact kia_tup (Gy c Y g3 g4) I.kIn ⟨g1,g5⟩ t1 hk (λz=>(nomatch z)) λtk=>⟨.bl _,H,I.tok tk,rfl,q⟩
def UV    (r:RelV v u):handedOut u=pure u:=by
 cases v with
 |non=>cases r;rfl
 |bl _=>cases r;rfl
 |int _=>obtain⟨_,rfl⟩:=r;rfl
 |str _=>obtain⟨_,rfl⟩:=r;rfl
 |byt _=>obtain⟨_,rfl⟩:=r;rfl
 |flt _=>obtain⟨_,rfl⟩:=r;rfl
 |ref _=>cases r;rfl
 |ty _=>cases r;rfl
def ZQ      (c:XCls X.K mg x fs C)(p:XPin X ea C dx)(Y:f∈fldN)(he:PE X e te)(hb:Qh e f X.env (Xa e X.env)=Xa e X.env) :
  PE X (.Attribute e f pos) (λF H Q=>te F H λv y=>v=.ref ea/\∃l u,y dx=ia (.xd l)/\l.lookup f=ia u/\Q u y):=by
 intro j s F H Q I h;refine WP hb (Mb (he j s F H _ I h) λu s1 ⟨v,y,O,rv,ev,l,w,hl,J,q⟩=>?_);subst ev;cases rv;obtain⟨oe,vs,od,Z,g1,g2,g3,g4,g5,g6,g7⟩:=O.xobj p hl;obtain⟨N,D,mN,mD,T,off,hm⟩:=c.two O.kIn;obtain⟨u',hu,R⟩:=RelO.some_of (v:=w) (o:=Z f) (by rw[<- J];exact g7 f)
 have o1:=off "__getattribute__" (by decide)
 have o2:=off "__getattr__" (by decide)
 have o3:=off f (ky f Y);obtain⟨hp,gg,d,t,os⟩:=s1;exact T.get EI g1 g2 (λcd z=>by rw[g4]at z;cases z) g3 g6 hu (UV R) (zC f Y) o1.1 o1.2 o2.1 o2.2 o3.1 o3.2 ⟨w,y,O.tok _,R,q⟩
def LU       (c:XCls X.K mg x fs C)(J:∀f∈fs,f∈fldN)(hr:Room (k+2) X.A)(hg:Gl X x)(ja:X.mg x=ia (.ref C))(ha:PA X (a0::as) t)
  (ka:(x==("__debug__" : Str))=ua) (he:gc (a0::as) X.env=(ua,Xa a0 X.env)::gc as X.env) (xb:(Xb cpos (gc as X.env)).any (·.1)=ua) :
  PS X (.Raise (ia (.Call (.Name x p) (a0::as) [] cpos)) Aa pos) (cD X C fs.length (λvs=>fs.zip vs) t):=by
 intro za s σ H D0 I h;have hK:X.K.In X.base:=I.ok.mod.kin;obtain⟨D,N,fI,mN,mD,B,⟨q,bs,sn,yb,ab,wb,dd,k0,k1,k2,k3,k5,lk⟩,hn,ho,hi,st,xa,fd,F0,⟨od,xc,zb⟩,S,hb,j,R⟩:=c.ex;obtain⟨oc,qc,kV,kb,pm,an,va,ct,jb,rfl,vb,ya⟩:=F0.ex;have T:Vc X.base C N D mN mD pi "ValueError.__new__" := ⟨⟨_,_,_,_,_,_,_,_,_,_,_,_,_,hK _ _ lk⟩,hn _ hK,B.get hK⟩;have y:mN "__setattr__" = Aa/\mD "__setattr__" = Aa:=⟨ho _ (by decide),B.no _ (by decide)⟩
 have Y:∀f∈fs,mN f=Aa/\mD f=Aa/\uf (.type "ValueError") f=pure Aa:=λf hf=>⟨ho _ (ky f (J f hf)),B.no _ (ky f (J f hf)),zC f (J f hf)⟩;have nm:∀f∈fldN,(f==("__debug__" : Str))=ua/\(f==("__classdict__" : Str))=ua:=by decide
 have go:∀(vs:List V) (s:Ja) (H:Hp),vs.length=fs.length->Kq X C s H (("self" : Str)::fs) xa (Ge st) fI va (Se st) vs (fs.zip vs):=by
  intro vs s H hl;rcases R with⟨f,p1,p2,p3,pos,rfl,O⟩|⟨f,f2,p1,p2,p3,pos,q1,q2,q3,qos,rfl,hne,O⟩
  ·rw[O];obtain⟨v,rfl⟩:∃v,vs=[v]:=by
    match vs,hl with
    |[v],_=>exact⟨v,rfl⟩
   have Z:=Y f (by simp)
   have b1:=nm f (J f (by simp))
   exact eN T F.store_ValueError y.1 y.2 Z.1 Z.2.1 Z.2.2 (.inl (j _ (by simp))) (.inl (j _ (by simp))) (by decide) b1.1 (by decide) b1.2 (λ_=>rfl)
  ·rw[O];obtain⟨v,v2,rfl⟩:∃v v2,vs=[v,v2]:=by
    match vs,hl with
    |[v,v2],_=>exact⟨v,v2,rfl⟩
   have Z:=Y f (by simp)
   have a2:=Y f2 (by simp)
   have b1:=nm f (J f (by simp))
   have b2:=nm f2 (J f2 (by simp))
   exact fN T F.store_ValueError y.1 y.2 Z.1 Z.2.1 Z.2.2 a2.1 a2.2.1 a2.2.2 hne (.inl (j _ (by simp))) (.inl (j _ (by simp))) (.inl (j _ (by simp))) (by decide) b1.1 b2.1 (by decide) b1.2 b2.2 (λ_=>rfl) (λ_=>rfl)
 have wa:fs.length<=8:=by
  rcases R with⟨f,p1,p2,p3,pos,rfl,O⟩|⟨f,f2,p1,p2,p3,pos,q1,q2,q3,qos,rfl,hne,O⟩<;>simp
 exact qT T F.excBase_ValueError B.ni hi zb ya S hr hb (by simp) wa (by decide) hg ja c.kp ha go ka he xb za s σ H D0 I h
def CV          (c:XCls X.K mg x fs C)(B':XBase X.K mg O xa)(J:X.K.In s.heap)(he:s.heap.get? ea=ia oe)(j:oe.cls=.ref C)
  (hq:Q la s):wpAny M A (So (.ref ea) (.ref O)) Q E s:=by
 obtain⟨D,N,fI,mN,mD,B,⟨q,bs,Y,y,ab,F,dd,k0,R,k2,Z,k5,lk⟩,_⟩:=c.ex;have e:D=O:=by have:=B.m.symm.trans B'.m;simpa using this
 subst e;obtain⟨q,ND,bs,hd,Y,y,ab,F,dd,k0,R,k2,Z,k5,za,I,n⟩:=B.lk;obtain⟨h,g,d,t,os⟩:=s;refine TV (J _ _ lk) (J _ _ I) he j (by decide) ?_
 have e:(Ie C::.ref D::pi).contains (.ref D)=la:=by simp
 rw[e];exact hq
end
end L2

namespace L2
open PySem PySem.Spec PyProof.Rows

end L2

namespace L2
open PySem PySem.Spec PyProof.Rows

end L2

namespace L2
open PySem PySem.Spec PyProof.Rows PySem.W

def OM  (o:Obj)(q:Str):Prop:=∃j t,o.data=.fields j/\j[1]?=ia (.str q t)
noncomputable abbrev frzC  (o:Obj):HO:=.frz o (.ext λ_=>True)
def aO  (H:Hp)(P:Ba)(pos:Pos)(q:Str):Prop:=
 H P=ia (.tbl #[])\/∃c j,H P=ia (.tbl #[Me pos.line,Me pos.col,.ref c])/\H c=ia (frzC j)/\OM j q
def BmAt  (mg:Str->Option Da)(base:Za):Prop:=∃y j,mg "__builtins__" = ia (.ref y)/\y≠oo/\base.get? y=ia j/\j.cls=.type "module" /\ j.dict=ia oo/\j.data=.plain

def Rt  (tb:List Ba)(H:Hp):Prop:=∀b,if b∈tb then H b=ia (.tbl #[]) else H b=Aa\/∃o j,H b=ia (.frz o (.lst j))
def law_callT    {K:Nb}{CX:qk}{k:Nat}{x:Str}{sp:Sp} 
  (xb:(K.all λp=>p.2.cls != .type "list")=la) (Z:∀b∈tb,j.heap.get? b=ia (tabObj #[])/\isCodeTable j.heap b/\K.lookup b=Aa) (vb:BmAt mg j.heap)
  (KX:K.In j.heap) (va:∃o,K.lookup yf=ia o/\o.cls=.type "dict") (za:j.heap.Ns ze mg) (hb:j.heap.Ns oo mb) (kb:∀x:Str,x ≠ "__name__" -> mb x=Di x) (xa:j.heap.NoLimit) (hg:j.gens=#[])
  (ha:j.heap.get? a=ia { cls:=.type "list",data:=.seq vs.toArray }) (hi:Ye vs ns) (hl:ns.length<=db) (hr:Room k Fg)
  (F:∀base ,K.In base->base.Ns ze mg->BmAt mg base->FnOk P w K mg base CX k fa fd [x] sp) (Y:∀(s:Ja) u ,Lf s fd ⟨[u],[]⟩ [(x,u)])
  (wb:∀H (o:Obj),Rt tb H->H a=ia (.frz o (.lst (ns.map V.int)))->sp [.ref a] H (λv _=>v=.bl la) λ_ _ _=>False)
  (jb:∀H e R,CX [] H j (λ_ _ _=>False) e R->False) :
  codeAny (Ka P w) Fg (.call (.ref fa) ⟨[.ref a],[]⟩) (λr R=>r=.ok (.ret (.bool la))/\OldK j.heap R.heap/\R.os=j.os/\ve R.gens) j:=by
 have ka:K.lookup a=Aa:=by
  cases hk:K.lookup a with
  |none=>rfl
  |some o=>
   have e:=KX a o hk;rw[ha]at e;cases e;have:=Mg.mp xb (a,_) (mem_of_lookupK hk)
   lia
 let oa:Obj:={ cls:=.type "list",data:=.seq vs.toArray }
 have qc:a∉tb:=λz=>by
  simp_all
 obtain⟨H,hH⟩:∃H:Hp,H=λb=>if b∈tb then ia (.tbl #[]) else if b=a then ia (.frz oa (.lst (ns.map V.int))) else Aa:=⟨_,rfl⟩
 have H1:∀{b},b∈tb->H b=ia (.tbl #[]):=λhb=>by lia
 have H2:H a=ia (.frz oa (.lst (ns.map V.int))):=by
  lia
 have H3:∀{b},b∉tb->b≠a->H b=Aa:=λ{b} y O=>by
  lia
 clear hH;have ja:∀{b:Ba} {o:Obj},j.heap.get? b=ia o->o.cls≠.none->(∀xs n,o.data≠.seq xs n)->H b=Aa:=λ{b o} e y O=>by
  refine H3 (λz=>?_) λz=>?_
  ·grind
  grind
 have zb:Vd P w H j.heap:=λb u e=>by
  by_cases y:b∈tb
  ·rw[H1 y]at e;cases e;exact(Z b y).1
  ·by_cases O:b=a
   ·subst O;rw[H2]at e;cases e;exact⟨ha,by simp_all,vs,_,WF hi,ha⟩
   simp_all
 have I:∀{b:Ba} {m:Str->Option Da},j.heap.Ns b m->(hidT j.heap H).Ns b m:=λ{b m} ⟨o,es,ep,e,d,r⟩=>by
  refine⟨o,es,ep,Fy e (H3 (λz=>?_) λz=>?_),d,r⟩
  ·grind
  lia
 have wa:K.In (hidT j.heap H):=λb o e=>Fy (KX b o e) (H3 (λz=>by grind) λz=>by lia)
 have hM:Mod K mg (hidT j.heap H):=⟨wa,I za,⟨mb,I hb,kb⟩,let ⟨mc,y,O⟩:=xa;⟨mc,I y,O⟩,va⟩
 have yb:BmAt mg (hidT j.heap H):=by
  obtain⟨bm,ob,b1,b2,b3,b4,b5,b6⟩:=vb;exact⟨bm,ob,b1,b2,Fy b3 (ja b3 (by lia) (by lia)),b4,b5,b6⟩
 have e0:Env0 P w K mg (hidT j.heap H) Fg [] j H:=⟨rfl,hM,λb o e=>ER e,Wv (VT _ _),trivial,λb hb=>(nomatch hb),zb,.of_eq hg⟩;have only:Rt tb H:=λb=>by
  grind
 refine Jv ((F _ wa (I za) yb).run Fg [] j H ⟨[.ref a],[]⟩ [.ref a] [.ref a] _ _ hr e0 (Y j (.ref a)) (.cons rfl .nil) (wb H oa only H2)) λr R h=>?_
 match r,h with
 |.error e,h=>exact(jb H e R h).elim
 |.ok (.ret u),h=>
  obtain⟨v,H',os,bare,un,J,r',q⟩:=h;have q':v=.bl la:=q;subst q';obtain rfl:u=bA la:=r';refine⟨rfl,⟨λb o e=>?_,λb o e=>un.there b o e (by simp)⟩,os,bare⟩
  by_cases y:b∈tb
  ·obtain⟨e1,ht,_⟩:=Z b y;rw[e]at e1;cases e1;obtain⟨ya,e2⟩:=un.tbls b _ (H1 y);exact .inr (.inl ⟨ht,rfl,#[],ya,rfl,J b _ e2⟩)
  ·by_cases O:b=a
   ·subst O;obtain⟨e2,_⟩:=J b _ (un.frzs b _ _ H2);rw[ha]at e;cases e;exact .inl e2
   ·exact .inl (un.keep b o e (H3 y O) (by intro z;exact(nomatch z)) (by simp))
def walk_ofT  {l:cB}{K:Cb->Nb}{CX:Db->qk}{sp:Db->Sp}{tbs:List (Str×Ba×Ba)}
  (R:∀w:Db,((K w.params).all λp=>p.2.cls != .type "list")=la) (za:∀(w:Db),∀t∈tbs,(∃dr,(recsOf q).find? (λe=>e.name==t.1)=ia dr)/\tabIn (K w.params) t.1=ia (t.2.1,t.2.2)/\(K w.params).lookup t.2.2=Aa)
  (hn:l.most=ia n) (xa:n<=db) (ka:d.params.defaults=[]) (hr:Room k Fg)
  (hY:∀(w:Db) (h:Za),YP w h->(K w.params).In h) (wa:∀w:Db,∃o,(K w.params).lookup yf=ia o/\o.cls=.type "dict")
  (F:∀(w:Db) mg O (h:Za),(K w.params).In h->h.Ns ze mg->mg d.name=ia (.ref O)->
   ∃fd ,(∀(s:Ja) u ,Lf s fd ⟨[u],[]⟩ [(x,u)])/\
    ∀base ,(K w.params).In base->base.Ns ze mg->BmAt mg base->FnOk l.prog w (K w.params) mg base (CX w) k O fd [x] (sp w))
  (ya:∀(w:Db) H (o:Obj) a (ns:List Int),ns.length<=n->Rt (tbs.map (·.2.2)) H->H a=ia (.frz o (.lst (ns.map V.int)))->sp w [.ref a] H (λv _=>v=.bl la) λ_ _ _=>False)
  (ja:∀(w:Db) H (s:Ja) (e:Da) s' ,CX w [] H s (λ_ _ _=>False) e s'->False) :
  IJ q loose XP YP l.row.toRowW d [] (λf vs=>aA f vs):=by
 refine Att.attach_call hn ka λw ha I mg mb O o pm cd zb a vs ns G Y ho hd xb va J y j hg=>?_;have Z:=hY w _ Y;obtain⟨fd,hb,hF⟩:=F w mg O _ Z G.T.g va;refine law_callT (tb:=tbs.map (·.2.2)) (R w) (λb hb=>?_) ?_ Z (wa w) G.T.g G.T.b G.T.builtins G.T.nolimit hg J y (Lb j xa) hr hF hb (λH o hO hS=>ya w H o a ns j hO hS) λH e s'=>ja w H I e s'
 ·obtain⟨t,ht,rfl⟩:=Ia.mp hb;obtain⟨⟨dr,h1⟩,h2,h3⟩:=za w t ht;obtain⟨c1,c2⟩:=tab_of G.T Z h1 h2;exact⟨c2,(c1.tab c2).isCodeTable,h3⟩
 ·obtain⟨bm,ob,b1,b2,b3,b4,b5,b6⟩:=G.T.bmain;exact⟨bm,ob,b1,b2,b3,b4,b5,b6⟩
end L2

namespace L2
open PySem PySem.Spec PyProof.Rows
open Sem (wp)
open AutoSeq1 (wpAny_loadPart')


section
variable {X:Cx}
def DN  (K:Nb)(F:TA):TI:=λJ H R=>F J H λI j=>∃a,I=[.ref a]/\((∃y,j a=ia (.tup y))/\R (wL K a) j)
def gT {l:La}{ta:TA}{p pos J:Pos}{F:List La}{x1}(hg:Gl X "enumerate")(hm:X.mg "enumerate" = Aa)(ha:PA X [l] ta)(hs:gc [l] X.env=[(ua,Xa l X.env)]:=by rfl) :
  PI X (.Tuple F x1 J) (.Call (.Name "enumerate" p) [l] [] pos) (DN X.K ta):=by
 intro j s σ H R I h;refine Call_ (Pj I hg hm boot_enumerate (Io (Mb (ha pos j s σ H _ I h) λus s1 ⟨vs,H1,y,r1,q1⟩=>?_) hs rfl));obtain⟨a,e,q⟩:=q1;subst e;obtain⟨u,rfl,rx⟩:=nh r1;cases rx;have fp:∀b∈[s1.heap.objs.size+1,s1.heap.objs.size],FpOk X j H1 b:=λb hb=>by
  simp only[ic,Ve,or_false]at hb;rcases hb with rfl|rfl
  ·exact y.fpOk (io _) (y.hok.fresh (io _))
  ·exact y.fpOk (Fb _) (y.hok.fresh (Fb _))
 obtain⟨⟨xs,hq⟩,q⟩:=q
 ·obtain⟨Y,rv,t,hz⟩:=y.tuple (Bd.of hq);have O:a<s1.heap.objs.size:=by obtain⟨o,ho,_⟩:=t;exact Lc ho
  exact rW (items:=Y.toArray) t λh' he Z hk=>wpAny_pyIter_enum he ⟨_,_,_,_,H1,rfl,y.kept (t':=s1.toks) hk,PV a _ _ (Nat.succ_ne_self _) (Xe (HJ O)) (Xe O),⟨⟨_,he⟩,Z⟩,fp,q⟩
end
end L2

namespace L2
open PySem PySem.Spec PyProof.Rows

def EU  : Cc X (ce .LtE) (λx y H Q=>∃i j,x=.str i/\y=.str j/\Q (.bl (!decide (j.cps.toList<i.cps.toList))) H):=by
 intro F s Y H x y v u Q I O J h;obtain⟨i,j,rfl,rfl,q⟩:=h;obtain⟨t,rfl⟩:=O;obtain⟨R,rfl⟩:=J;exact PySem.P.le_str (Pd I q rfl)
def sW  : mf X (.type "int") (λxs H Q=>∃z n,xs=[.str z]/\PySem.intText? z=ia n/\z.length<=640/\Q (.int n) H):=by
 intro j s R H xs O Q I r h;obtain⟨z,n,rfl,F,y,q⟩:=h;obtain⟨u,rfl,J⟩:=nh r;obtain⟨t,rfl⟩:=J;exact PySem.W.KIN.call_text F y ⟨.int n,H,I.tok _,⟨_,rfl⟩,q⟩
end L2

namespace L2
open PySem PySem.Spec PyProof.Rows Builtin Builtin.Str

end L2

namespace L2
open PySem PySem.Spec PyProof.Rows
section
variable {prog:Rb}{w:Db}{K:Type}[DecidableEq K]{knd:KeyKind prog w K}{A:Ub}{E:Da->Ja->Prop}{s:Ja}
end


def iu  (x:Od P w H h a (.frz o (.dK kvs)))(hd:o.data=.dict es ep):es.size=kvs.length/\∃vs,KV kvs vs/\h.DictAt (we P w) a vs ep:=by
 obtain⟨j,_,_,vs,r,o',Z,J,F,O,I,R,y,Y⟩:=x;rw[j]at F;cases F;rw[hd]at I;cases I;have e:=y.length;rw[Lo]at e;exact⟨e.trans r.length.symm,vs,r,o,es,j,O,hd,R,y,Y⟩
theorem KV.at    {vs:List (κ×Da)}(r:KV kvs vs):∀{i:Nat} {p },kvs[i]?=ia p->∃v,vs[i]?=ia (p.1,v)/\RelV p.2 v:=by
 induction r with
 |nil=>simp_all
 |@cons p q J I h t y=>
  intro i F e;cases i with
  |zero=>simp at e;subst e;exact⟨q.2,by rw[h.1];rfl,h.2⟩
  |succ j=>simp at e;simpa using y e
noncomputable def pB  (a:Ba)(o:Obj):It:=
 ⟨λi H=>∃j,H a=ia (.frz o (.dK j))/\i<j.length,λi H x y=>y=H/\∃j k,H a=ia (.frz o (.dK j))/\j[i]?=ia (k,x),λi H=>∃j,H a=ia (.frz o (.dK j))/\j.length<=i⟩
def qB  (a:Ba)(o:Obj):It:=
 ⟨λi H=>∃j,H a=ia (.frz o (.dK j))/\i<j.length,λi H y F=>∃j k x p,H a=ia (.frz o (.dK j))/\j[i]?=ia (k,x)/\y=.ref p/\H p=Aa/\F=upd H p (.tup [kV k,x]),λi H=>∃j,H a=ia (.frz o (.dK j))/\j.length<=i⟩
def kS  {K:Nb} a it (o:Obj)(es:Array si) ep (hd:o.data=.dict es ep) :
  Turn P w K tg (pB a o) [it] it (λi h=>h.IsValIter it a i es.size ep) where
 mem:=by simp
 obj:=λi h st b y=>by
  cases Fa.mp y;obtain⟨u,e,_,d⟩:=st
  simp_all
 keep:=λi h h' st k=>st.at λu e=>k it (by simp) u e
 item:=by
  intro X hP hw hK hc i J s σ H E I Y st hg;subst hP hw hK;obtain⟨j,R,hl⟩:=hg;obtain⟨O,vs,r,Z⟩:=iu (I.hok a _ R) hd;obtain⟨f0,f1,f2,f3,f4,f5⟩:=Y it (by simp)
  rw[O.trans r.length]at st;have ek:j[i]?=ia j[i]:=Ic hl;obtain⟨v,ev,rv⟩:=r.at ek;refine wpAny_pyNext_values_item st Z ev λh' F sb=>?_;obtain⟨u,eu,cu,du⟩:=id F;rw[<- r.length,<- O]at F;exact⟨_,rfl,Vt (s:={ s with heap:=h' }) eu cu du (by decide) ⟨_,H,I.turned (t':=s.toks) (λb o y e=>(sb.2 b y).trans e) f0 f1 f3 f4 f5,rv,⟨rfl,j,_,R,ek⟩,F,λb y=>(Y b y).1⟩⟩
 done:=by
  intro X hP hw hK hc i J s σ H E I Y st hg;subst hP hw hK;obtain⟨j,R,hl⟩:=hg;obtain⟨O,vs,r,Z⟩:=iu (I.hok a _ R) hd;obtain⟨f0,f1,f2,f3,f4,f5⟩:=Y it (by simp)
  rw[O.trans r.length]at st;exact wpAny_pyNext_values_end (I.ok.hd hc) st Z (Jr (by rw[<- r.length];exact hl)) λh' eb=>⟨rfl,I.turned (t':=s.toks) (λb o y e=>eb b o y e) f0 f1 f3 f4 f5⟩
 self:=λ_ _ _ _ _ st q=>wpAny_pyIter_valiter st q
def tR    (e:(we P w).is k u=la):RelV (kV k) u:=by
 rcases Hh e with⟨i,t,rfl,rfl⟩|⟨x,t,rfl,rfl⟩
 ·exact⟨t,rfl⟩
 ·exact⟨t,rfl⟩
def jS  {K:Nb} a it (o:Obj)(es:Array si) ep (hd:o.data=.dict es ep) :
  Turn P w K (.Tuple va x1 pos) (qB a o) [it] it (λi h=>∃u v,IsItemIter h it a i es.size ep u v) where
 mem:=by simp
 obj:=λi h st b O=>by
  grind
 keep:=λi h h' st k=>let ⟨u,v,e⟩:=st;⟨u,v,k it (by simp) _ e⟩
 item:=by
  intro X hP hw hK hc i F s σ H E I hf st hg;subst hP hw hK;obtain⟨j,Y,hl⟩:=hg;obtain⟨R,vs,r,da⟩:=iu (I.hok a _ Y) hd;have fi:=hf it (by simp)
  obtain⟨u0,v0,st⟩:=st;rw[R.trans r.length]at st;have ek:j[i]?=ia j[i]:=Ic hl;obtain⟨v,ev,rv⟩:=r.at ek;refine wpAny_pyNext_items_item st da ev λJ h' hk xa tp sz kp=>⟨_,rfl,wpAny_letOwnedTupleGo_items xa λh2 st2 sb=>?_⟩;rw[<- r.length,<- R]at st2;have ja:H s.heap.objs.size=Aa:=I.hok.fresh (Fb _);have Z:it≠s.heap.objs.size:=Xe (Lc st);have I1:Oa X F σ (upd H s.heap.objs.size (.tup [kV j[i].1,j[i].2])) { s with heap:=s.heap.push { cls:=.type "tuple",data:=.seq #[J,v] },toks:=s.toks }:=by
   refine I.laid (λb o y=>Nc _ y) (Fb _) ⟨by show 2<=db;decide,[J,v],.cons (tR hk) (.cons rv .nil),TupD.new _ _⟩
  have kk:∀b o,b≠it->(s.heap.push { cls:=.type "tuple",data:=.seq #[J,v] }).get? b=ia o->h2.get? b=ia o:=λb o bi y=>by
   refine(sb.2 b bi).trans ?_;by_cases O:b=s.heap.objs.size
   ·subst O;rw[Df _ rfl]at y
    lia
   ·rw[qK _ _ _ O]at y
    simp_all
  obtain⟨f0,f1,f2,f3,f4,f5⟩:=fi;have za:upd H s.heap.objs.size (.tup [kV j[i].1,j[i].2]) it=Aa:=by rw[Dc Z];exact f0
  refine⟨.ref s.heap.objs.size,_,I1.turned (h':=h2) (t':=s.toks) kk za f1 f3 f4 f5,rfl,⟨j,_,_,_,Y,ek,rfl,ja,rfl⟩,⟨_,_,st2⟩,λb O=>?_⟩
  simp_all
 done:=by
  intro X hP hw hK hc i F s σ H E I hf st hg;subst hP hw hK;obtain⟨j,Y,hl⟩:=hg;obtain⟨R,vs,r,da⟩:=iu (I.hok a _ Y) hd;obtain⟨f0,f1,f2,f3,f4,f5⟩:=hf it (by simp)
  obtain⟨u0,v0,st⟩:=st;rw[R.trans r.length]at st;exact wpAny_pyNext_items_end (I.ok.hd hc) st da (Jr (by rw[<- r.length];exact hl)) λh' eb=>⟨rfl,I.turned (t':=s.toks) (λb o O e=>eb b o O e) f0 f1 f3 f4 f5⟩
 self:=λA i s Q E st q=>by
  obtain⟨u,v,st⟩:=st;exact PySem.W.kcp_self st q
section
variable {X:Cx}{tg d:La}{tl:TE}{apos cpos:Pos}
def Held  (H:Hp)(a:Ba)(kvs:List (Sb×V))(R:Obj->Hp->Prop):Prop:=Rd H a (.dK kvs)/\∀o,(∀u,H a=ia (.frz u (.dK kvs))->u=o)->R o (upd H a (.frz o (.dK kvs)))
def vD    {σ:St}(I:Oa X pins σ H s)(q:Held H a kvs R) :
  ∃o j ep vs,o.data=.dict j ep/\j.size=vs.length/\(a==yf)=ua/\s.heap.DictAt (we X.prog X.w) a vs ep/\R o (upd H a (.frz o (.dK kvs)))/\Oa X pins σ (upd H a (.frz o (.dK kvs))) s:=by
 obtain⟨z,y,vs,r,o,j,ep,J,Z,O,h4,Y,h6⟩:=Qi I.hok q.1;have e:=Y.length;rw[Lo]at e;have F:s.heap.DictAt (we X.prog X.w) a vs ep:=⟨o,j,J,Z,O,h4,Y,h6⟩;rcases q.1 with g|⟨u,g⟩
 ·refine⟨o,j,ep,vs,O,e,y,F,q.2 o (λu z=>by lia),?_⟩
  exact I.write (h':=s.heap) (t':=s.toks) (x:=a) (e:=a) (by rw[g];trivial) (.inl rfl) (λb u _ e=>e) ⟨o,J⟩ ⟨J,z,y,vs,r,o,j,ep,J,Z,O,h4,Y,h6⟩
 ·have hu:=(show Od X.prog X.w H s.heap a (.frz u (.dK kvs))from I.hok a _ g).1;rw[J]at hu;cases hu;have xa:upd H a (.frz o (.dK kvs))=H:=by
   funext b;unfold upd
   lia
  refine⟨o,j,ep,vs,O,e,y,F,q.2 o (λu z=>by lia),?_⟩
  lia
def GW  (y:TE):TI:=λJ H R=>y J H λx F=>∃a j,x=.ref a/\Held F a j λo I=>R (pB a o) I
def HW  (y:TE):TI:=λJ H R=>y J H λx F=>∃a j,x=.ref a/\Held F a j λo I=>R (qB a o) I
def xM (hd:PE X d tl)(J:Qh d "values" X.env (Xa d X.env)=Xa d X.env:=by rfl)(F:(apos.endLine==cpos.line)=la:=by rfl):PI X tg (.Call (.Attribute d "values" apos) [] [] cpos) (GW tl):=by
 intro j s σ H R I h;refine nK J F (Mb (hd j s σ H _ I h) λv s1 ⟨x,H1,I1,r1,a,Y,ex,q⟩=>?_);subst ex;cases r1;obtain⟨t1,t2,_⟩:=CC I1 (.inl ⟨Y,q.1⟩);obtain⟨o,es,ep,vs,hd,hs,y,O,q,I2⟩:=vD I1 q;refine⟨"dict", "dict.values",Yv,BK,PySem.F.type_dict_values,t1,t2,ww rfl (SA ?_)⟩;refine Iv BK t1 PySem.F.entry_dict_values (PySem.F.args_dict_values_1 _) (meets_dict_values (we X.prog X.w) a y) ⟨⟨vs,O.dictOf⟩,?_⟩;have Z:Oa X j σ (upd H1 a (.frz o (.dK Y))) { s1 with heap:=s1.heap.push { cls:=.type "dict_values",data:=.fields #[.ref a] } }:=I2.kept (t':=s1.toks) λb o e=>Nc _ e
 refine wpAny_pyIter_values (s:={ s1 with heap:=s1.heap.push { cls:=.type "dict_values",data:=.fields #[.ref a] } }) ⟨_,Df _ rfl,rfl,rfl⟩ (O.at' λo e=>Nc _ e) ?_
 rw[<- hs];refine⟨_,[_],_,_,_,rfl,Z.kept (t':=s1.toks) λb o e=>Nc _ e,kS a _ o es ep hd,⟨_,Df _ rfl,rfl,rfl⟩,λb hb=>?_,q⟩;cases Fa.mp hb;exact Z.fpOk (Fb _) (Z.hok.fresh (Fb _))
def wM {Z:List La}{x1}{xa:Pos}(hd:PE X d tl)(J:Qh d "items" X.env (Xa d X.env)=Xa d X.env:=by rfl)(F:(apos.endLine==cpos.line)=la:=by rfl):PI X (.Tuple Z x1 xa) (.Call (.Attribute d "items" apos) [] [] cpos) (HW tl):=by
 intro j s σ H R I h;refine nK J F (Mb (hd j s σ H _ I h) λv s1 ⟨x,H1,I1,r1,a,Y,ex,q⟩=>?_);subst ex;cases r1;obtain⟨t1,t2,_⟩:=CC I1 (.inl ⟨Y,q.1⟩);obtain⟨o,es,ep,vs,hd,hs,y,O,q,I2⟩:=vD I1 q;refine⟨"dict", "dict.items",Yv,zK,PySem.F.type_dict_items,t1,t2,ww rfl (SA ?_)⟩;refine Iv zK t1 PySem.F.entry_dict_items (PySem.F.args_dict_items_1 _) (meets_dict_items (we X.prog X.w) a y) ⟨⟨vs,O.dictOf⟩,?_⟩;have I3:Oa X j σ (upd H1 a (.frz o (.dK Y))) { s1 with heap:=s1.heap.push { cls:=.type "dict_items",data:=.fields #[.ref a] } }:=I2.kept (t':=s1.toks) λb o e=>Nc _ e
 refine wpAny_pyIter_items (s:={ s1 with heap:=s1.heap.push { cls:=.type "dict_items",data:=.fields #[.ref a] } }) ⟨_,Df _ rfl,rfl,rfl⟩ (O.at' λo e=>Nc _ e) ?_
 rw[<- hs];refine⟨_,[_],_,_,_,rfl,I3.kept (t':=s1.toks) λb o e=>Nc _ e,jS a _ o es ep hd,⟨_,_,Df _ rfl⟩,λb hb=>?_,q⟩;cases Fa.mp hb;exact I3.fpOk (Fb _) (I3.hok.fresh (Fb _))
end
end L2

namespace L2
open PySem PySem.Spec PyProof.Rows
open Sem (wp)


end L2

namespace L2
open PySem PySem.Spec PyProof.Rows PySem.W


end L2

namespace L2
open PySem PySem.Spec PyProof.Rows



end L2

namespace Z
open PySem L2
inductive U where
 |non|bl (b:Bool)|int (i:Int)|str (x:Str)|tup (xs:List U)|loc (a:Ba)|fn (n:Nat)|ty (n:String)
 |exc (c:Nat) (fs:List U)|own (n:Nat)|clo (n:Nat) (cs:List U)
inductive MO where
 |lst (xs:List U)|fro (xs:List U)|dK (kvs:List (Sb×U))|dT (kvs:List (List Sb×U))|frd (o:Obj) (kvs:List (List Sb×U))|frk (o:Obj) (kvs:List (Sb×U))
abbrev Gp:=Ba->Option MO
noncomputable def Ad  (G:Gp)(a:Ba)(o:MO):Gp:=λb=>if b=a then ia o else G b
structure pk (G:Gp)(p:Ba)(o:MO)(G':Gp):Prop where
 no:G p=Aa
 eq:G'=Ad G p o
structure Qg (G:Gp)(a:Ba)(o:MO)(G':Gp):Prop where
 eq:G'=Ad G a o
structure XV where
 c:Nat
 fs:List U
abbrev Sg:=List (Option U)
abbrev K1:=U->Gp->Prop
abbrev KX:=XV->Gp->Prop
def newO  (G:Gp)(o:MO)(Q:K1):Prop:=∀p j,pk G p o j->Q (.loc p) j
def putO  (G:Gp)(a:Ba)(o:MO)(Q:Gp->Prop):Prop:=∀j,Qg G a o j->Q j
def newO.at     (h:newO G o Q):∀p,G p=Aa->Q (.loc p) (Ad G p o):=λp j=>h p _ ⟨j,rfl⟩
def putO.at      (h:putO G a o Q):Q (Ad G a o):=h _ ⟨rfl⟩
structure En where
 nx:Sg->Gp->Prop
 rt:K1
 ex:XV->Sg->Gp->Prop
noncomputable def ud  (G:Gp)(a:Ba):Option (List U):=match G a with
 |some (.lst xs)=>ia xs
 |some (.fro xs)=>ia xs
 |_=>Aa
noncomputable def kU  : U->Option Sb
 |.int i=>ia (.inl i)
 |.str x=>ia (.inr x)
 |_=>Aa
noncomputable def Dl  : List U->Option (List Sb)
 |[]=>ia []
 |u::r=>match kU u,Dl r with
  |some k,ia ks=>ia (k::ks)
  |_,_=>Aa
noncomputable def Ku  : Sb->U
 |.inl i=>.int i
 |.inr x=>.str x
section
variable {κ α:Type}[DecidableEq κ]
noncomputable def dGet (kvs:List (κ×α))(k:κ):Option α:=(kvs.find? λj=>decide (j.1=k)).map (·.2)
noncomputable def dPut (kvs:List (κ×α))(k:κ)(v:α):List (κ×α):=
 if (kvs.any λj=>decide (j.1=k))=la then kvs.map (λj=>if j.1=k then (j.1,v) else j) else kvs++[(k,v)]
def ki (j:List (κ×α)):List (κ×α):=j.foldl (λy F=>dPut y F.1 F.2) []
end
def cut  {j:Type}(xs:List j)(lo y:Option Int):List j:=(xs.drop (HT.sIx xs.length 0 lo)).take (HT.sIx xs.length xs.length y-HT.sIx xs.length 0 lo)
mutual
inductive DU (G:Gp):U->Wa->Prop
 |non:DU G .non .none
 |bl (b:Bool):DU G (.bl b) (.bool b)
 |int (i:Int):DU G (.int i) (.int i)
 |str (x:Str):DU G (.str x) (.str x)
 |tup {us:List U} {ds:List Wa}:Dg G us ds->DU G (.tup us) (.tuple ds)
 |lst {a:Ba} {us:List U} {ds:List Wa}:ud G a=ia us->Dg G us ds->DU G (.loc a) (.list ds)
 |dic {a:Ba}:G a=ia (.dK [])->DU G (.loc a) (.dict [])
inductive Dg (G:Gp):List U->List Wa->Prop
 |nil:Dg G [] []
 |cons {u:U} {d:Wa} {us:List U} {ds:List Wa}:DU G u d->Dg G us ds->Dg G (u::us) (d::ds)
end
def addU  : U->U->Gp->K1->Prop
 |.int i,.int j,G,Q=>Q (.int (i+j)) G
 |.str x,.str y,G,Q=>x.length+y.length<=db/\Q (.str (x++y)) G
 |.tup I,.tup F,G,Q=>I.length+F.length<=db/\Q (.tup (I++F)) G
 |.loc a,.loc b,G,Q=>∃I F,G a=ia (.lst I)/\G b=ia (.lst F)/\I.length+F.length<=db/\newO G (.lst (I++F)) Q
 |.bl b,.int j,G,Q=>Q (.int ((if b=la then (1:Int) else 0)+j)) G
 |_,_,_,_=>False
def subU  : U->U->Gp->K1->Prop
 |.int i,.int j,G,Q=>Q (.int (i-j)) G
 |.bl b,.int j,G,Q=>Q (.int ((if b=la then (1:Int) else 0)-j)) G
 |.int i,.bl b,G,Q=>Q (.int (i-if b=la then (1:Int) else 0)) G
 |_,_,_,_=>False
def mulU  : U->U->Gp->K1->Prop
 |.int i,.int j,G,Q=>CMul i j/\Q (.int (i*j)) G
 |.loc a,.int k,G,Q=>∃y,G a=ia (.lst y)/\-(2 ^ 63)<=k/\k<2 ^ 63/\y.length*k.toNat<=db/\newO G (.lst (Qb k.toNat y).flatten) Q
 |_,_,_,_=>False
def NB  : U->U->Gp->K1->Prop
 |.int i,.int j,G,Q=>0<j/\j<1073741824/\Q (.int (i/j)) G
 |_,_,_,_=>False
def modU  : U->U->Gp->K1->Prop
 |.int i,.int j,G,Q=>0<j/\Q (.int (i%j)) G
 |_,_,_,_=>False
def powU  : U->U->Gp->K1->Prop
 |.int i,.int j,G,Q=>CPow i j/\Q (.int (i ^ j.toNat)) G
 |_,_,_,_=>False
def binU  : Vl->U->U->Gp->K1->Prop
 |.Add=>addU
 |.Sub=>subU
 |.Mult=>mulU
 |.FloorDiv=>NB
 |.Mod=>modU
 |.Pow=>powU
 |_=>λ_ _ _ _=>False
def Wt  : Vl->U->U->Gp->K1->Prop
 |.Add,.int i,.int j,G,Q=>Q (.int (i+j)) G
 |.Add,.str x,.str y,G,Q=>x.length+y.length<=db/\Q (.str (x++y)) G
 |.Add,.tup xs,.tup ys,G,Q=>xs.length+ys.length<=db/\Q (.tup (xs++ys)) G
 |.Sub,.int i,.int j,G,Q=>Q (.int (i-j)) G
 |.Mult,.int i,.int j,G,Q=>CMul i j/\Q (.int (i*j)) G
 |_,_,_,_,_=>False
def negU  : U->Gp->K1->Prop
 |.int i,G,Q=>Q (.int (-i)) G
 |_,_,_=>False
def Small  (d:Wa):Prop:=d.canLay0=la/\d.depth<=100
noncomputable def eqU  : U->U->Gp->(Bool->Prop)->Prop
 |.non,.non,_,k=>k la
 |.non,.bl _,_,k=>k ua
 |.non,.int _,_,k=>k ua
 |.non,.str _,_,k=>k ua
 |.bl _,.non,_,k=>k ua
 |.bl a,.bl b,_,k=>k (decide (a=b))
 |.bl _,.str _,_,k=>k ua
 |.int _,.non,_,k=>k ua
 |.int i,.int j,_,k=>k (decide (i=j))
 |.int _,.str _,_,k=>k ua
 |.str _,.non,_,k=>k ua
 |.str _,.bl _,_,k=>k ua
 |.str _,.int _,_,k=>k ua
 |.str x,.str y,_,k=>k (decide (x=y))
 |x,y,G,k=>∃d e,DU G x d/\DU G y e/\Small d/\Small e/\k (ie d e)
def yJ  : U->U->Gp->(Bool->Prop)->Prop
 |.loc a,.str y,G,k=>(∃F,G a=ia (.dK F)/\k ua)\/(∃j,G a=ia (.lst j)/\k ua)\/eqU (.loc a) (.str y) G k
 |.tup j,.tup [],_,k=>k j.isEmpty
 |.tup _,.str _,_,k=>k ua
 |x,y,G,k=>eqU x y G k
def Ig  : U->U->(Bool->Prop)->Prop
 |.non,.non,k=>k la
 |.bl a,.bl b,k=>k (decide (a=b))
 |.non,.bl _,k|.non,.int _,k|.non,.str _,k|.non,.tup _,k|.non,.loc _,k=>k ua
 |.bl _,.non,k|.int _,.non,k|.str _,.non,k|.tup _,.non,k|.loc _,.non,k=>k ua
 |.int _,.bl _,k|.str _,.bl _,k|.tup _,.bl _,k|.loc _,.bl _,k=>k ua
 |_,_,_=>False
noncomputable def flat  : U->Bool
 |.non|.bl _|.int _|.str _=>la
 |_=>ua
noncomputable def Lg  : U->U->Bool
 |.non,.non=>la
 |.bl a,.bl b=>a==b
 |.bl a,.int b=>(if a then 1 else 0)==b
 |.int a,.bl b=>a==(if b then 1 else 0)
 |.int a,.int b=>a==b
 |.str a,.str b=>a==b
 |_,_=>ua
def Jg  : U->U->Gp->(Bool->Prop)->Prop
 |.str x,.str y,_,k=>k (!(Zv y x 0 y.length 1).isEmpty)
 |.tup F,.tup ys,G,k=>∃d j,DU G (.tup F) d/\Dg G ys j/\Small d/\(∀e∈j,Small e)/\k (j.any λe=>ie e d)
 |x,.tup ys,_,k=>flat x=la/\ys.all flat=la/\k (ys.any λy=>Lg y x)
 |x,.loc a,G,k=>match G a with
  |some (.lst ys)=>(flat x=la/\ys.all flat=la/\k (ys.any λy=>Lg y x))\/
    ∃d j,DU G x d/\Dg G ys j/\Small d/\(∀e∈j,Small e)/\k (j.any λe=>ie e d)
  |some (.fro ys)=>flat x=la/\ys.all flat=la/\k (ys.any λy=>Lg y x)
  |some (.dK kvs)=>match kU x with
   |some y=>k (dGet kvs y).isSome
   |none=>False
  |some (.dT kvs)=>match x with
   |.tup F=>match Dl F with
    |some y=>k (dGet kvs y).isSome
    |none=>False
   |_=>False
  |some (.frk _ kvs)=>match kU x with
   |some y=>k (dGet kvs y).isSome
   |none=>False
  |_=>False
 |_,_,_,_=>False
def ordU  : Js->U->U->(Bool->Prop)->Prop
 |.Lt,.int i,.int j,k=>k (decide (i<j))
 |.LtE,.int i,.int j,k=>k (decide (i<=j))
 |.LtE,.str x,.str y,k=>k (!decide (y.cps.toList<x.cps.toList))
 |.Gt,.int i,.int j,k=>k (decide (j<i))
 |.GtE,.int i,.int j,k=>k (decide (j<=i))
 |_,_,_,_=>False
def cmpU  : Js->U->U->Gp->(Bool->Prop)->Prop
 |.Eq,x,y,G,k=>yJ x y G k
 |.NotEq,x,y,G,k=>eqU x y G λb=>k (!b)
 |.Is,x,y,_,k=>Ig x y k
 |.IsNot,x,y,_,k=>Ig x y λb=>k (!b)
 |.In,x,y,G,k=>Jg x y G k
 |.NotIn,x,y,G,k=>Jg x y G λb=>k (!b)
 |o,x,y,_,k=>ordU o x y k
def truU  : U->Gp->(Bool->Prop)->Prop
 |.non,_,k=>k ua
 |.bl b,_,k=>k b
 |.int i,_,k=>k (i != 0)
 |.str x,_,k=>x.length<=db/\k ((x.length:Int) != 0)
 |.tup xs,_,k=>k (!xs.isEmpty)
 |.loc a,G,k=>match G a with
  |some (.lst xs)=>k (!xs.isEmpty)
  |some (.fro xs)=>k (!xs.isEmpty)
  |some (.dK kvs)=>k (!kvs.isEmpty)
  |_=>False
 |_,_,_=>False
def bf  : U->U->Gp->K1->Prop
 |.tup xs,.int i,G,Q=>match atI xs i with
  |some u=>Q u G
  |none=>False
 |.str x,.int i,G,Q=>x.length<=db/\match atI x.cps.toList i with
  |some c=>Q (.str ⟨#[c]⟩) G
  |none=>False
 |.loc a,y,G,Q=>match G a with
  |some (.lst xs)=>(match y with|.int i=>(match atI xs i with|some u=>Q u G|none=>False)|_=>False)
  |some (.fro xs)=>(match y with|.int i=>(match atI xs i with|some u=>Q u G|none=>False)|_=>False)
  |some (.dK kvs)=>(match kU y with|some k=>(match dGet kvs k with|some u=>Q u G|none=>False)|none=>False)
  |some (.dT kvs)=>(match y with|.tup ys=>(match Dl ys with|some k=>(match dGet kvs k with|some u=>Q u G|none=>False)|none=>False)|_=>False)
  |some (.frk _ kvs)=>(match kU y with|some k=>(match dGet kvs k with|some u=>Q u G|none=>False)|none=>False)
  |_=>False
 |_,_,_,_=>False
def Wh  : U->Option Int->Option Int->Gp->K1->Prop
 |.tup j,lo,hi,G,Q=>Q (.tup (cut j lo hi)) G
 |.str x,lo,hi,G,Q=>x.length<=db/\Q (.str (Bv x lo hi)) G
 |.loc a,lo,hi,G,Q=>match ud G a with
  |some j=>newO G (.lst (cut j lo hi)) Q
  |none=>False
 |_,_,_,_,_=>False
def revU  : U->U->Gp->K1->Prop
 |.tup j,.int i,G,Q=>i=-1/\Q (.tup j.reverse) G
 |.loc a,.int i,G,Q=>match ud G a with
  |some j=>(i=1\/i=-1)/\newO G (.lst (if i=1 then j else j.reverse)) Q
  |none=>False
 |_,_,_,_=>False
def setU  : U->U->U->Gp->(Gp->Prop)->Prop
 |.loc a,y,v,G,Q=>match G a with
  |some (.lst xs)=>(match y with|.int i=>(match dg xs.length i with|some j=>putO G a (.lst (xs.set j v)) Q|none=>False)|_=>False)
  |some (.dK kvs)=>(match kU y with|some k=>kvs.length<db/\putO G a (.dK (dPut kvs k v)) Q|none=>False)
  |some (.dT kvs)=>(match y with|.tup ys=>(match Dl ys with|some k=>kvs.length<db/\putO G a (.dT (dPut kvs k v)) Q|none=>False)|_=>False)
  |_=>False
 |_,_,_,_,_=>False
inductive Blt|len|repr|min|max|sum|all|any|sorted|int|str|isi
 deriving DecidableEq
inductive Mth|append|extend|insert|pop|reverse|index|join|get|split|setd|clear|count|upper
 deriving DecidableEq
noncomputable def Fj  : List U->Option (List Int)
 |[]=>ia []
 |.int i::r=>(match Fj r with|some l=>ia (i::l)|none=>Aa)
 |_=>Aa
noncomputable def Ks  : U->Gp->Option String
 |.non,_=>ia "NoneType"
 |.bl _,_=>ia "bool"
 |.int _,_=>ia "int"
 |.str _,_=>ia "str"
 |.tup _,_=>ia "tuple"
 |.loc a,G=>match G a with
  |some (.lst _)=>ia "list"
  |some (.dK _)=>ia "dict"
  |some (.dT _)=>ia "dict"
  |_=>Aa
 |_,_=>Aa
def isiU  (x:U)(G:Gp)(t:String):Option Bool:=match Ks x G with
 |some n=>if t∈["bool", "int", "str", "list", "tuple", "dict"] then ia (n==t||(n == "bool" && t == "int")) else Aa
 |none=>Aa
def lenU  : List U->Gp->K1->Prop
 |[.tup xs],G,Q=>Q (.int xs.length) G
 |[.str x],G,Q=>x.length<=db/\Q (.int x.length) G
 |[.loc a],G,Q=>(match G a with
  |some (.lst xs)=>Q (.int xs.length) G
  |some (.fro xs)=>Q (.int xs.length) G
  |some (.dK kvs)=>Q (.int kvs.length) G
  |_=>False)
 |_,_,_=>False
def Ol  : List U->Gp->K1->Prop
 |[u],G,Q=>∃d,DU G u d/\Fits 16000000 60 d/\Q (.str d.shown) G
 |_,_,_=>False
def minU  : List U->Gp->K1->Prop
 |[.int i,.int j],G,Q=>Q (.int (if j<i then j else i)) G
 |_,_,_=>False
def TB  (xs:List U)(G:Gp)(Q:K1):Prop:=match Fj xs with
 |some j=>j≠[]/\∀z∈j,(∀y∈j,y<=z)->Q (.int z) G
 |none=>False
def maxU  : List U->Gp->K1->Prop
 |[.int i,.int j],G,Q=>Q (.int (if j>i then j else i)) G
 |[.loc a],G,Q=>(match G a with
  |some (.lst xs)=>TB xs G Q
  |_=>False)
 |[.tup xs],G,Q=>TB xs G Q
 |_,_,_=>False
def sumU  : List U->Gp->K1->Prop
 |[.loc a],G,Q=>(match G a with
  |some (.lst xs)=>(match Fj xs with|some ns=>Q (.int ns.sum) G|none=>False)
  |_=>False)
 |_,_,_=>False
def intU  : List U->Gp->K1->Prop
 |[.int i],G,Q=>Q (.int i) G
 |[.bl b],G,Q=>Q (.int (if b then 1 else 0)) G
 |[.str z],G,Q=>∃n,PySem.intText? z=ia n/\z.length<=640/\Q (.int n) G
 |_,_,_=>False
def Gj  : List U->Gp->K1->Prop
 |[x,.ty t],G,Q=>(match isiU x G t with|some b=>Q (.bl b) G|none=>False)
 |_,_,_=>False
def Rn  : List U->Gp->K1->Prop
 |[.loc a],G,Q=>(match G a with
  |some (.lst us)=>∃j:List (List Int),j.Nodup/\us.length<Qn/\us.length=j.length/\((∃F:List Int,us=F.map .int/\j=F.map λn=>[n])\/False)/\
    ∀y:List Nat,y.Perm (md us.length)->(∀i,i+1<us.length->HT.lexLt (j.getD (y.getD i 0) []) (j.getD (y.getD (i+1) 0) [])=la)->newO G (.lst (y.map λi=>us.getD i .non)) Q
  |_=>False)
 |_,_,_=>False
def mkDU  : U->Gp->K1->Prop
 |.loc a,G,Q=>(match G a with
  |some (.dK kvs)=>∃j:List Int,kvs.map (·.1)=j.map (λz=>(Ac z:Sb))/\newO G (.lst (j.map .int)) Q
  |_=>False)
 |_,_,_=>False
def bltU  : Blt->List U->Gp->K1->Prop
 |.len=>lenU
 |.repr=>Ol
 |.min=>minU
 |.max=>λ_ _ _=>False
 |.sum=>sumU
 |.all=>λ_ _ _=>False
 |.any=>λ_ _ _=>False
 |.sorted=>Rn
 |.int=>intU
 |.str=>λ_ _ _=>False
 |.isi=>Gj
def Xx  : U->List U->Gp->K1->Prop
 |.loc a,[v],G,Q=>(match G a with
  |some (.lst xs)=>xs.length<db/\putO G a (.lst (xs++[v])) (Q .non)
  |_=>False)
 |_,_,_,_=>False
def Mq  : U->List U->Gp->K1->Prop
 |.loc a,[.loc b],G,Q=>(match G a,G b with
  |some (.lst xs),ia (.lst ys)=>xs.length+ys.length<=db/\putO G a (.lst (xs++ys)) (Q .non)
  |_,_=>False)
 |.loc a,[.tup ys],G,Q=>(match G a with
  |some (.lst xs)=>xs.length+ys.length<=db/\putO G a (.lst (xs++ys)) (Q .non)
  |_=>False)
 |_,_,_,_=>False
def popU  : U->List U->Gp->K1->Prop
 |.loc a,[],G,Q=>(match G a with
  |some (.lst xs)=>(match xs[xs.length-1]? with|some v=>putO G a (.lst xs.dropLast) (Q v)|none=>False)
  |_=>False)
 |.loc a,[.int i],G,Q=>(match G a with
  |some (.lst xs)=>-(2 ^ 63)<=i/\i<2 ^ 63/\(match wv i xs.length with
   |some k=>(match xs[k]? with|some v=>putO G a (.lst (xs.eraseIdx k)) (Q v)|none=>False)
   |none=>False)
  |_=>False)
 |_,_,_,_=>False
def getU  : U->List U->Gp->K1->Prop
 |.loc a,[y,d],G,Q=>(match G a with
  |some (.dK kvs)=>(match kU y with
   |some k=>Q ((dGet kvs k).getD d) G
   |none=>False)
  |some (.dT kvs)=>∃k:List Sb,y=.tup (k.map Ku)/\Q ((dGet kvs k).getD d) G
  |_=>False)
 |_,_,_,_=>False
def Ue  : Mth->U->List U->Gp->K1->Prop
 |.append=>Xx
 |.extend=>Mq
 |.insert=>λ_ _ _ _=>False
 |.pop=>popU
 |.reverse=>λ_ _ _ _=>False
 |.index=>λ_ _ _ _=>False
 |.join=>λ_ _ _ _=>False
 |.get=>getU
 |.split=>λ_ _ _ _=>False
 |.setd=>λ_ _ _ _=>False
 |.clear=>λ_ _ _ _=>False
 |.count=>λ_ _ _ _=>False
 |.upper=>λ_ _ _ _=>False
noncomputable def Ef  : Mth->U->Gp->Option (String×String)
 |.append,x,G=>(match x with|.loc a=>(match G a with|some (.lst _)=>ia ("list", "list.append")|_=>Aa)|_=>Aa)
 |.extend,x,G=>(match x with|.loc a=>(match G a with|some (.lst _)=>ia ("list", "list.extend")|_=>Aa)|_=>Aa)
 |.insert,_,_=>Aa
 |.pop,x,G=>(match x with|.loc a=>(match G a with|some (.lst _)=>ia ("list", "list.pop")|_=>Aa)|_=>Aa)
 |.reverse,_,_=>Aa
 |.index,_,_=>Aa
 |.join,_,_=>Aa
 |.get,x,G=>(match x with|.loc a=>(match G a with|some (.dK _)=>ia ("dict", "dict.get")|some (.dT _)=>ia ("dict", "dict.get")|_=>Aa)|_=>Aa)
 |.split,_,_=>Aa
 |.setd,_,_=>Aa
 |.clear,_,_=>Aa
 |.count,_,_=>Aa
 |.upper,_,_=>Aa
noncomputable def clsA  : List (Str×List Str):=[("PlanError",[]),("NoPaper",["word", "at"]),("TooMany",["word"]),("NoRing",["word"]),("NoText",["row", "word"]),("NoRow",["row"])]
def clsN  (c:Nat):Str:=(clsA.getD c ("",[])).1
def clsF  (c:Nat):List Str:=(clsA.getD c ("",[])).2
inductive HL where
 |is1 (c:Nat)|isi (cs:List Nat)|isiV|v (i:Nat)
inductive HA where
 |str (x:Str)|att (f:Str)
inductive HV where
 |cond (k:Bool) (a:Bool×HL) (as:List (Bool×HL))|one (a:HA)|bl (b:Bool)|tup (as:List HA)|lst (as:List HA)
inductive HS where
 |asg (i:Nat) (e:HV)|ifa (k:Bool) (a:Bool×HL) (as:List (Bool×HL)) (i:Nat) (e:HV)
section
variable (x:XV)
noncomputable def litH (j:Sg):HL->Option Bool
 |.is1 c=>ia (decide (x.c=c))
 |.isi y=>ia (y.contains x.c)
 |.isiV=>ia la
 |.v i=>match j[i]? with
  |some (ia (.bl b))=>ia b
  |_=>Aa
def lit1 (j:Sg)(p:Bool×HL):Option Bool:=match litH x j p.2 with
 |some b=>ia (if p.1=la then !b else b)
 |none=>Aa
noncomputable def wg (j:Sg)(k:Bool):Bool×HL->List (Bool×HL)->Option Bool
 |a,[]=>lit1 x j a
 |a,b::r=>match lit1 x j a with
  |some t=>if t=k then wg j k b r else ia t
  |none=>Aa
def Uj:HA->Option U
 |.str y=>ia (.str y)
 |.att f=>((clsF x.c).zip x.fs).lookup f
noncomputable def atsH:List HA->Option (List U)
 |[]=>ia []
 |a::r=>match Uj x a,atsH r with
  |some u,ia us=>ia (u::us)
  |_,_=>Aa
def Xn (y:Sg):HV->Gp->K1->Prop
 |.cond k a as,G,Q=>match wg x y k a as with
  |some b=>Q (.bl b) G
  |none=>False
 |.one a,G,Q=>match Uj x a with
  |some u=>Q u G
  |none=>False
 |.bl b,G,Q=>Q (.bl b) G
 |.tup as,G,Q=>match atsH x as with
  |some j=>Q (.tup j) G
  |none=>False
 |.lst as,G,Q=>match atsH x as with
  |some j=>newO G (.lst j) Q
  |none=>False
def Kg:List HS->Sg->Gp->(Sg->Gp->Prop)->Prop
 |[],ς,G,k=>k ς G
 |.asg i e::r,ς,G,k=>Xn x ς e G λu j=>Kg r (ς.set i (ia u)) j k
 |.ifa q a as i e::r,ς,G,k=>match wg x ς q a as with
  |some la=>Xn x ς e G λu j=>Kg r (ς.set i (ia u)) j k
  |some ua=>Kg r ς G k
  |none=>False
end
mutual
inductive Tg where
 |n (i:Nat)|t (ts:bh)
inductive bh where
 |nil|cons (t:Tg) (ts:bh)
end
mutual
inductive E where
 |v (i:Nat)|non|bl (b:Bool)|int (i:Int)|str (x:Str)|g (n:Nat)|bin (o:Vl) (a b:E)|neg (a:E)|not (a:E)|bop (k:Bool) (a:E) (es:Es)|cmp (o:Js) (a b:E)|cmp2 (o p:Js) (a b c:E)|ife (c a b:E)|tup (es:Es)|lst (es:Es)|dic (es:Es)|ix (a b:E)|sl (a:E) (lo hi:Eo)|rev (a st:E)|call (n:Nat) (es:Es)|blt (b:Blt) (es:Es)|meth (m:Mth) (o:E) (es:Es)|ty (n:String)|lc (pick:List (Option Nat)) (t:Tg) (it:It) (ifs:Es) (e:E)|mkL (e:E)|mkT (e:E)|rngL (a:E)|mkD (e:E)
inductive Eo where
 |no|so (e:E)
inductive Es where
 |nil|cons (e:E) (es:Es)
inductive It where
 |e (e:E)|r1 (e:E)|r2 (a b:E)|enum (e:E)|dv (e:E)|di (e:E)
end
mutual
inductive S where
 |expr (e:E)|asg (t:Tg) (e:E)|asgC (i:Nat) (e:E)|setS (o i e:E)|par (is:List Nat) (es:Es)|aug (i:Nat) (o:Vl) (e:E)|ite (c:E) (a b:Ss)|fr (t:Tg) (it:It) (b:Ss)|wh (c:E) (b:Ss)|ret (e:E)|raise (c:Nat) (es:Es)|tr (b:Ss) (c:Nat) (n:Nat) (h:List HS)
inductive Ss where
 |nil|cons (s:S) (ss:Ss)
end
mutual
noncomputable def Yc:Tg->U->Sg->(Sg->Prop)->Prop
 |.n i,u,ς,k=>k (ς.set i (ia u))
 |.t ts,u,ς,k=>match u with
  |.tup j=>tgsU ts j ς k
  |_=>False
noncomputable def tgsU:bh->List U->Sg->(Sg->Prop)->Prop
 |.nil,us,ς,k=>us=[]/\k ς
 |.cons t ts,us,ς,k=>match us with
  |[]=>False
  |u::r=>Yc t u ς λj=>tgsU ts r j k
end
abbrev Cl:=Nat->List U->Gp->K1->KX->Prop
def slot  (j:Sg)(i:Nat)(k:U->Prop):Prop:=match j[i]? with
 |some (ia u)=>k u
 |_=>False
noncomputable def Yg  (pick:List (Option Nat))(y:Sg):Sg:=pick.map λo=>o.bind λj=>(y[j]?).join
def Oi  (ok:Gp->Prop)(b:U->Gp->(Option U->Gp->Prop)->Prop):List U->List U->Gp->(List U->Gp->Prop)->Prop
 |[],acc,G,k=>ok G/\k acc G
 |x::xs,acc,G,k=>ok G/\b x G λo j=>Oi ok b xs (match o with|some u=>acc++[u]|none=>acc) j k
def forL  (ok:Gp->Prop)(b:U->Sg->Gp->(Sg->Gp->Prop)->Prop):List U->Sg->Gp->(Sg->Gp->Prop)->Prop
 |[],ς,G,k=>ok G/\k ς G
 |x::xs,ς,G,k=>ok G/\b x ς G λj y=>forL ok b xs j y k
noncomputable def rngU  (i:Int)(n:Nat):List U:=(md n).map λk:Nat=>.int (i+k)
noncomputable def Lj  : Nat->List U->List U
 |_,[]=>[]
 |n,u::r=>.tup [.int n,u]::Lj (n+1) r
def eg  : U->Gp->(List U->(Gp->Prop)->Prop)->Prop
 |.tup j,_,k=>k j λ_=>True
 |.loc a,G,k=>match ud G a with
  |some j=>k j λy=>ud y a=ia j
  |none=>False
 |_,_,_=>False
def kr  : U->Gp->(List U->(Gp->Prop)->Prop)->Prop
 |.tup xs,_,k=>k (Lj 0 xs) λ_=>True
 |_,_,_=>False
def mh  (f:List (Sb×U)->List U):U->Gp->(List U->(Gp->Prop)->Gp->Prop)->Prop
 |.loc a,G,Q=>match G a with
  |some (.dK kvs)=>∀o j,Qg G a (.frk o kvs) j->Q (f kvs) (λj=>j a=ia (.frk o kvs)) j
  |some (.frk o kvs)=>Q (f kvs) (λj=>j a=ia (.frk o kvs)) G
  |_=>False
 |_,_,_=>False
noncomputable def Gh  (kvs:List (Sb×U)):List U:=kvs.map (·.2)
def Oj  (kvs:List (Sb×U)):List U:=kvs.map λp=>.tup [Ku p.1,p.2]
def fpU  : U->(Str->Prop)->Prop
 |.str z,k=>z.length<=10000/\k z
 |.int i,k=>i.natAbs.log2<1920/\k (toString i:String)
 |_,_=>False
def jr  (j:List U)(n:Nat)(k:U->Prop):Prop:=match j[n]? with
 |some u=>k u
 |none=>False
abbrev UE:=Sg->Gp->K1->KX->Prop
abbrev UT:=Sg->Gp->(Bool->Gp->Prop)->KX->Prop
abbrev UA:=Sg->Gp->(List U->Gp->Prop)->KX->Prop
def truT  (t:UE):UT:=λy G Q X=>t y G (λx j=>truU x j λb=>Q b j) X
noncomputable abbrev tp  (t:UE):UE×UT:=(t,truT t)
noncomputable def comb  : Bool->UE×UT->UE×UT->UE×UT
 |true,p,q=>(λy G Q X=>p.1 y G (λx j=>truU x j λc=>if c=la then q.1 y j Q X else Q x j) X,λy G Q X=>p.2 y G (λc j=>if c=la then q.2 y j Q X else Q ua j) X)
 |false,p,q=>(λy G Q X=>p.1 y G (λx j=>truU x j λc=>if c=la then Q x j else q.1 y j Q X) X,λy G Q X=>p.2 y G (λc j=>if c=la then Q la j else q.2 y j Q X) X)
section
variable (gs:List U)(Δ:Cl)
mutual
noncomputable def Ua:E->UE×UT
 |.v i=>tp λF G Q _=>slot F i λu=>Q u G
 |.non=>tp λ_ G Q _=>Q .non G
 |.bl b=>tp λ_ G Q _=>Q (.bl b) G
 |.int i=>tp λ_ G Q _=>Q (.int i) G
 |.str x=>tp λ_ G Q _=>Q (.str x) G
 |.g n=>tp λ_ G Q _=>jr gs n λu=>Q u G
 |.bin o a b=>tp λF G Q X=>(Ua a).1 F G (λx I=>(Ua b).1 F I (λy J=>binU o x y J Q) X) X
 |.neg a=>tp λF G Q X=>(Ua a).1 F G (λx I=>negU x I Q) X
 |.not a=>(λF G Q X=>(Ua a).1 F G (λx I=>truU x I λb=>Q (.bl (!b)) I) X,
   λF G Q X=>(Ua a).2 F G (λb I=>Q (!b) I) X)
 |.bop k a R=>denB k (Ua a) R
 |.cmp o a b=>tp λF G Q X=>(Ua a).1 F G (λx I=>(Ua b).1 F I (λy J=>cmpU o x y J λc=>Q (.bl c) J) X) X
 |.cmp2 o p a b c=>tp λF G Q X=>(Ua a).1 F G (λx I=>(Ua b).1 F I (λy J=>cmpU o x y J λt=>if t=la then (Ua c).1 F J (λz Y=>cmpU p y z Y λt'=>Q (.bl t') Y) X else Q (.bl ua) J) X) X
 |.ife c a b=>(λF G Q X=>(Ua c).2 F G (λt I=>if t=la then (Ua a).1 F I Q X else (Ua b).1 F I Q X) X,
   λF G Q X=>(Ua c).2 F G (λt I=>if t=la then (Ua a).2 F I Q X else (Ua b).2 F I Q X) X)
 |.tup R=>tp λF G Q X=>qf R F G (λO I=>O.length<=db/\Q (.tup O) I) X
 |.lst R=>tp λF G Q X=>qf R F G (λO I=>O.length<=db/\newO I (.lst O) Q) X
 |.dic R=>tp λF G Q X=>denD R F G (λxa I=>xa.length<=15/\newO I (.dK (ki xa)) Q) X
 |.ix a b=>tp λF G Q X=>(Ua a).1 F G (λx I=>(Ua b).1 F I (λy J=>bf x y J Q) X) X
 |.sl a lo hi=>tp λF G Q X=>(Ua a).1 F G (λx I=>denO lo F I (λl J=>denO hi F J (λh Y=>Wh x l h Y Q) X) X) X
 |.rev a b=>tp λF G Q X=>(Ua a).1 F G (λx I=>(Ua b).1 F I (λy J=>revU x y J Q) X) X
 |.call n R=>tp λF G Q X=>qf R F G (λO I=>Δ n O I Q X) X
 |.blt b R=>tp λF G Q X=>qf R F G (λO I=>bltU b O I Q) X
 |.meth m o R=>tp λF G Q X=>(Ua o).1 F G (λx I=>match Ef m x I with
   |some _=>qf R F I (λO J=>Ue m x O J Q) X
   |none=>False) X
 |.ty n=>tp λ_ G Q _=>Q (.ty n) G
 |.lc pick t it za e=>tp λF G Q X=>denI it F G (λZ ok I=>Z.length<=db/\Oi ok (λx J k=>Yc t x (Yg pick F) λτ=>denC za τ J (λb Y=>if b=la then (Ua e).1 τ Y (λu G4=>k (ia u) G4) (λ_ _=>False) else k Aa Y)) Z [] I
   λO G5=>newO G5 (.lst O) Q) X
 |.mkD e=>tp λF G Q X=>(Ua e).1 F G (λx I=>mkDU x I Q) X
 |.mkL e=>tp λF G Q X=>(Ua e).1 F G (λx I=>eg x I λZ _=>newO I (.lst Z) Q) X
 |.mkT e=>tp λF G Q X=>(Ua e).1 F G (λx I=>eg x I λZ _=>Q (.tup Z) I) X
 |.rngL e=>tp λF G Q X=>(Ua e).1 F G (λx I=>match x with
   |.int j=>0<=j/\j<=1000000/\newO I (.lst (rngU 0 j.toNat)) Q
   |_=>False) X
noncomputable def denB (k:Bool)(p:UE×UT):Es->UE×UT
 |.nil=>p
 |.cons e j=>comb k p (denB k (Ua e) j)
noncomputable def denC:Es->Sg->Gp->(Bool->Gp->Prop)->Prop
 |.nil,_,G,Q=>Q la G
 |.cons e es,ς,G,Q=>(Ua e).2 ς G (λb j=>if b=la then denC es ς j Q else Q ua j) (λ_ _=>False)
noncomputable def denO:Eo->Sg->Gp->(Option Int->Gp->Prop)->KX->Prop
 |.no,_,G,Q,_=>Q Aa G
 |.so e,ς,G,Q,X=>(Ua e).1 ς G (λx j=>match x with|.int i=>Q (ia i) j|_=>False) X
noncomputable def qf:Es->Sg->Gp->(List U->Gp->Prop)->KX->Prop
 |.nil,_,G,Q,_=>Q [] G
 |.cons e es,ς,G,Q,X=>(Ua e).1 ς G (λx F=>qf es ς F (λy j=>Q (x::y) j) X) X
noncomputable def denF:Es->Sg->Gp->(List Str->Gp->Prop)->KX->Prop
 |.nil,_,G,Q,_=>Q [] G
 |.cons e es,ς,G,Q,X=>(Ua e).1 ς G (λx F=>fpU x λz=>denF es ς F (λj y=>Q (z::j) y) X) X
noncomputable def denD:Es->Sg->Gp->(List (Sb×U)->Gp->Prop)->KX->Prop
 |.nil,_,G,Q,_=>Q [] G
 |.cons e (.cons f es),ς,G,Q,X=>(Ua e).1 ς G (λx I=>(Ua f).1 ς I (λy F=>match kU x with
   |some k=>denD es ς F (λj J=>Q ((k,y)::j) J) X
   |none=>False) X) X
 |.cons _ .nil,_,_,_,_=>False
noncomputable def denI:It->Sg->Gp->(List U->(Gp->Prop)->Gp->Prop)->KX->Prop
 |.e e,ς,G,Q,X=>(Ua e).1 ς G (λx F=>eg x F λI ok=>Q I ok F) X
 |.r1 e,ς,G,Q,X=>(Ua e).1 ς G (λx F=>match x with
   |.int j=>-(2 ^ 62)<=j/\j<2 ^ 62/\Q (rngU 0 j.toNat) (λ_=>True) F
   |_=>False) X
 |.r2 a b,ς,G,Q,X=>(Ua a).1 ς G (λx F=>(Ua b).1 ς F (λy J=>match x,y with
   |.int i,.int j=>-(2 ^ 62)<=i/\i<2 ^ 62/\-(2 ^ 62)<=j/\j<2 ^ 62/\Q (rngU i (j-i).toNat) (λ_=>True) J
   |_,_=>False) X) X
 |.enum e,ς,G,Q,X=>(Ua e).1 ς G (λx F=>kr x F λI ok=>Q I ok F) X
 |.dv e,ς,G,Q,X=>(Ua e).1 ς G (λx F=>mh Gh x F Q) X
 |.di e,ς,G,Q,X=>(Ua e).1 ς G (λx F=>mh Oj x F Q) X
end
def denE (e:E):UE:=(Ua gs Δ e).1
def denT (e:E):UT:=(Ua gs Δ e).2
mutual
noncomputable def denS:S->En->Sg->Gp->Prop
 |.expr e,D,ς,G=>denE gs Δ e ς G (λ_ j=>D.nx ς j) λx j=>D.ex x ς j
 |.asg t e,D,ς,G=>denE gs Δ e ς G (λu j=>Yc t u ς λJ=>D.nx J j) λx j=>D.ex x ς j
 |.asgC i e,D,ς,G=>denE gs Δ e ς G (λu j=>D.nx (ς.set i (ia u)) j) λx j=>D.ex x ς j
 |.setS o i e,D,ς,G=>denE gs Δ e ς G (λv j=>denE gs Δ o ς j (λx I=>denE gs Δ i ς I (λy G3=>setU x y v G3 λG4=>D.nx ς G4) λx j=>D.ex x ς j) λx j=>D.ex x ς j) λx j=>D.ex x ς j
 |.par is es,D,ς,G=>qf gs Δ es ς G (λR j=>R.length=is.length/\D.nx ((is.zip R).foldl (λs p=>s.set p.1 (ia p.2)) ς) j) λx j=>D.ex x ς j
 |.aug i o e,D,ς,G=>slot ς i λx=>denE gs Δ e ς G (λy j=>Wt o x y j λz I=>D.nx (ς.set i (ia z)) I) λx j=>D.ex x ς j
 |.ite c a b,D,ς,G=>denT gs Δ c ς G (λt j=>if t=la then Md a D ς j else Md b D ς j) λx j=>D.ex x ς j
 |.fr t it b,D,ς,G=>denI gs Δ it ς G (λZ ok j=>forL ok (λx F I k=>Yc t x F λO=>Md b { D with nx:=k } O I) Z ς j D.nx) λx j=>D.ex x ς j
 |.wh c b,D,ς,G=>∃W:Nat->Sg->Gp->Prop,(∃m,W m ς G)/\∀m F j,W m F j->
   denT gs Δ c F j (λt I=>if t=la then Md b { D with nx:=λJ G'=>∃Y,Y<m/\W Y J G' } F I else D.nx F I) λx j=>D.ex x F j
 |.ret e,D,ς,G=>denE gs Δ e ς G D.rt λx j=>D.ex x ς j
 |.raise c es,D,ς,G=>qf gs Δ es ς G (λR j=>R.length=(clsF c).length/\D.ex ⟨c,R⟩ ς j) λx j=>D.ex x ς j
 |.tr b c n h,D,ς,G=>Md b { D with ex:=λx F j=>(c=0\/x.c=c)/\Kg x h (F.set n Aa) j λO I=>D.nx (O.set n Aa) I } ς G
noncomputable def Md:Ss->En->Sg->Gp->Prop
 |.nil,D,ς,G=>D.nx ς G
 |.cons s ss,D,ς,G=>denS s { D with nx:=λj y=>Md ss D j y } ς G
end
end
structure Fun where
 name:Str
 ps:List Str
 N:List Str
 body:Ss
structure SW where
 P:Ba
 ff:Nat
 vi:Nat
 fi:Nat
 caps:List Nat
 wi:Nat
 fni:Nat
 least:Int
 wn:Str
 fn:Str
 at':Str
structure Je where
 funs:List Fun
 gs:List U
 gn:List Str:=[]
 cs:List Nat:=[]
 vf:List Fun:=[]
 ns:List (Nat×SW):=[]
noncomputable def fc  (n:Nat)(us:List U):Sg:=us.map ia++Qb (n-us.length) Aa
def Bb  (T:Je):Nat->Cl
 |0,_,_,_,_,_=>False
 |k+1,n,us,G,Q,X=>match (T.funs++T.vf)[n]? with
  |some d=>us.length=d.ps.length/\Md T.gs (Bb T k) d.body ⟨λ_ j=>Q .non j,Q,λx _ j=>X x j⟩ (fc d.N.length us) G
  |none=>False
mutual
noncomputable def RU (K:Nb)(H:Hp):U->V->Prop
 |.non,v=>v=.non
 |.bl b,v=>v=.bl b
 |.int i,v=>v=.int i
 |.str x,v=>v=.str x
 |.tup xs,v=>∃a j,v=.ref a/\H a=ia (.tup j)/\Pb K H xs j
 |.loc a,v=>v=.ref a
 |.fn _,_=>False
 |.ty n,v=>v=.ty n
 |.exc _ _,_=>False
 |.own _,_=>False
 |.clo _ _,_=>False
noncomputable def Pb (K:Nb)(H:Hp):List U->List V->Prop
 |[],vs=>vs=[]
 |u::us,vs=>∃v j,vs=v::j/\RU K H u v/\Pb K H us j
end
def Jd  {κ:Type}(K:Nb)(H:Hp):List (κ×U)->List (κ×V)->Prop
 |[],l=>l=[]
 |(k,u)::r,l=>∃v j,l=(k,v)::j/\RU K H u v/\Jd K H r j
def wj  (K:Nb)(H:Hp)(a:Ba):MO->Prop
 |.lst F=>∃y,H a=ia (.lst y)/\Pb K H F y
 |.fro F=>∃o y,H a=ia (.frz o (.lst y))/\Pb K H F y
 |.dK j=>∃l,H a=ia (.dK l)/\Jd K H j l
 |.dT j=>∃l,H a=ia (.dT l)/\Jd K H j l
 |.frd o j=>∃l,H a=ia (.frz o (.dT l))/\Jd K H j l
 |.frk o j=>∃l,H a=ia (.frz o (.dK l))/\Jd K H j l
noncomputable def tabs  : List (Ba×Pos×Str):=[]
def Kj  (H:Hp):Prop:=∀t∈tabs,aO H t.1 t.2.1 t.2.2
structure HR (K:Nb)(H:Hp)(G:Gp):Prop where
 mo:∀a o,G a=ia o->wj K H a o
 tab:Kj H
instance {K:Nb} {H:Hp} {G:Gp}:CoeFun (HR K H G) λ_=>∀a o,G a=ia o->wj K H a o:=⟨HR.mo⟩
noncomputable def noTb  : HO->Bool
 |.tbl _=>ua
 |_=>la
structure Fr (H:Hp)(G:Gp)(H':Hp)(G':Gp):Prop where
 go:∀a o,H a=ia o->G a=Aa->(nt:noTb o=la:=by rfl)->H' a=ia o/\G' a=Aa
instance {H H':Hp} {G G':Gp}:CoeFun (Fr H G H' G') λ_=>∀a o,H a=ia o->G a=Aa->(nt:noTb o=la:=by rfl)->H' a=ia o/\G' a=Aa:=⟨@Fr.go H G H' G'⟩
def SR  (K:Nb)(H:Hp)(j:Sg)(y:St):Prop:=j.length=y.length/\∀(i:Nat) (u:U),j[i]?=ia (ia u)->∃v,y[i]?=ia (ia v)/\RU K H u v
section
variable {K:Nb}{H H' H1 H2:Hp}{G G' G1 G2:Gp}
def Fr.refl   H G:Fr H G H G:=⟨λ_ _ h g _=>⟨h,g⟩⟩
def Fr.trans  (a:Fr H G H1 G1)(b:Fr H1 G1 H2 G2):Fr H G H2 G2:=⟨λc o h g j=>let ⟨y,F⟩:=a c o h g j;b c o y F j⟩
structure TS (H H':Hp):Prop where
 tup:∀a xs,H a=ia (.tup xs)->H' a=ia (.tup xs)
 cod:∀a o,H a=ia (frzC o)->H' a=ia (frzC o)
instance:CoeFun (TS H H') λ_=>∀a xs,H a=ia (.tup xs)->H' a=ia (.tup xs):=⟨TS.tup⟩
def TS.trans  (a:TS H H1)(b:TS H1 H2):TS H H2:=⟨λc j h=>b.tup c j (a.tup c j h),λc o h=>b.cod c o (a.cod c o h)⟩
mutual
theorem RU.ts (t:TS H H'):∀{u:U} {v:V},RU K H u v->RU K H' u v
 |.non,_,h=>h
 |.bl _,_,h=>h
 |.int _,_,h=>h
 |.str _,_,h=>h
 |.tup xs,_,h=>by
  obtain⟨a,j,e,q,r⟩:=h
  exact⟨a,j,e,t _ _ q,Pb.ts t r⟩
 |.loc _,_,h=>h
 |.fn _,_,h=>h
 |.ty _,_,h=>h
 |.exc _ _,_,h=>h
 |.own _,_,h=>h
 |.clo _ _,_,h=>h
theorem Pb.ts (t:TS H H'):∀{us:List U} {vs:List V},Pb K H us vs->Pb K H' us vs
 |[],_,h=>h
 |_::_,_,h=>by
  obtain⟨v,j,e,r,y⟩:=h
  exact⟨v,j,e,RU.ts t r,Pb.ts t y⟩
end
theorem Jd.ts   (t:TS H H'):∀{kvs:List (κ×U)} {l },Jd K H kvs l->Jd K H' kvs l
 |[],_,h=>h
 |(_,_)::_,_,h=>by
  obtain⟨v,y,e,r,j⟩:=h;exact⟨v,y,e,r.ts t,Jd.ts t j⟩
def SR.ts    (t:TS H H')(h:SR K H ς σ):SR K H' ς σ:=⟨h.1,λi u e=>let ⟨v,j,r⟩:=h.2 i u e;⟨v,j,r.ts t⟩⟩
def HR.tupNone  (h:HR K H G)(e:H a=ia (.tup xs)):G a=Aa:=by
 cases q:G a with
 |none=>rfl
 |some o=>
  have m:=h a o q;cases o with
  |lst j=>obtain⟨_,y,_⟩:=m;lia
  |fro j=>obtain⟨_,_,y,_⟩:=m;lia
  |dK j=>obtain⟨_,y,_⟩:=m;lia
  |dT j=>obtain⟨_,y,_⟩:=m;lia
  |frd _ j=>obtain⟨_,y,_⟩:=m;lia
  |frk _ j=>obtain⟨_,y,_⟩:=m;lia
def HR.codNone  (h:HR K H G)(e:H a=ia (frzC F)):G a=Aa:=by
 cases q:G a with
 |none=>rfl
 |some o=>
  have m:=h a o q;cases o with
  |lst j=>obtain⟨_,y,_⟩:=m;lia
  |fro j=>obtain⟨_,_,y,_⟩:=m;lia
  |dK j=>obtain⟨_,y,_⟩:=m;lia
  |dT j=>obtain⟨_,y,_⟩:=m;lia
  |frd _ j=>obtain⟨_,y,_⟩:=m;lia
  |frk _ j=>obtain⟨_,y,_⟩:=m;lia
def HR.tblNone  (h:HR K H G)(e:H a=ia (.tbl ps)):G a=Aa:=by
 cases q:G a with
 |none=>rfl
 |some o=>
  have m:=h a o q;cases o with
  |lst j=>obtain⟨_,y,_⟩:=m;lia
  |fro j=>obtain⟨_,_,y,_⟩:=m;lia
  |dK j=>obtain⟨_,y,_⟩:=m;lia
  |dT j=>obtain⟨_,y,_⟩:=m;lia
  |frd _ j=>obtain⟨_,y,_⟩:=m;lia
  |frk _ j=>obtain⟨_,y,_⟩:=m;lia
def Fr.ts  (f:Fr H G H' G')(h:HR K H G):TS H H':=⟨λa j e=>(f a _ e (h.tupNone e)).1,λa o e=>(f a _ e (h.codNone e)).1⟩
def Kj.upd  (h:Kj H)(j:∀ps,H p≠ia (.tbl ps))(F:∀y,H p≠ia (frzC y)):Kj (L2.upd H p o):=λt I=>by
 rcases h t I with e|⟨c,oc,e1,e2,q⟩
 ·exact .inl (by rw[Dc (λz=>j _ (z ▸ e))];exact e)
 ·exact .inr ⟨c,oc,by rw[Dc (λz=>j _ (z ▸ e1))];exact e1,by rw[Dc (λz=>F _ (z ▸ e2))];exact e2,q⟩
def Kj.new  (h:Kj H)(e:H p=Aa):Kj (L2.upd H p o):=h.upd (λy z=>by lia) λj z=>by lia
def HR.tabW  (h:HR K H G){mo:MO}(g:G p=ia mo):Kj (L2.upd H p o):=h.tab.upd (λy z=>by rw[h.tblNone z]at g;cases g) λj z=>by rw[h.codNone z]at g;cases g
def wj.there    (m:wj K H a o):∃j,H a=ia j:=by
 cases o with
 |lst _=>obtain⟨_,e,_⟩:=m;simp_all
 |fro _=>obtain⟨_,_,e,_⟩:=m;simp_all
 |dK _=>obtain⟨_,e,_⟩:=m;simp_all
 |dT _=>obtain⟨_,e,_⟩:=m;simp_all
 |frd _ _=>obtain⟨_,e,_⟩:=m;simp_all
 |frk _ _=>obtain⟨_,e,_⟩:=m;simp_all
def wj.keep    (m:wj K H a o)(e:H' a=H a)(t:TS H H'):wj K H' a o:=by
 cases o with
 |lst _=>obtain⟨j,q,r⟩:=m;exact⟨j,e.trans q,r.ts t⟩
 |fro _=>obtain⟨y,j,q,r⟩:=m;exact⟨y,j,e.trans q,r.ts t⟩
 |dK _=>obtain⟨l,q,r⟩:=m;exact⟨l,e.trans q,r.ts t⟩
 |dT _=>obtain⟨l,q,r⟩:=m;exact⟨l,e.trans q,r.ts t⟩
 |frd _ _=>obtain⟨l,q,r⟩:=m;exact⟨l,e.trans q,r.ts t⟩
 |frk _ _=>obtain⟨l,q,r⟩:=m;exact⟨l,e.trans q,r.ts t⟩
def HR.nope  (h:HR K H G)(e:H a=Aa):G a=Aa:=by
 cases q:G a with
 |none=>rfl
 |some o=>
  obtain⟨_,j⟩:=(h a o q).there
  lia
def rf    : Ad G a o a=ia o:=by unfold Ad;lia
def oh    (h:b≠a):Ad G a o b=G b:=by unfold Ad;lia
def TS.new    (e:H p=Aa):TS H (upd H p o):=⟨λa y h=>by rw[Dc (sg h e)];exact h,λa j h=>by rw[Dc (sg h e)];exact h⟩
def HR.newT  (h:HR K H G)(e:H p=Aa):HR K (upd H p (.tup xs)) G:=⟨λa o q=>by
 have m:=h a o q;obtain⟨y,j⟩:=m.there;exact m.keep (Dc (sg j e)) (TS.new e),h.tab.new e⟩
def Fr.new    (e:H p=Aa):Fr H G (upd H p o) G:=⟨λa j h g _=>⟨by rw[Dc (sg h e)];exact h,g⟩⟩
def HR.newO  (h:HR K H G){mo:MO}(e:H p=Aa)(m:wj K (upd H p o) p mo):HR K (upd H p o) (Ad G p mo):=⟨λa j q=>by
 by_cases z:a=p
 ·subst z;rw[rf]at q
  lia
 ·rw[oh z]at q;exact(h a j q).keep (Dc z) (TS.new e),h.tab.new e⟩
def Fr.newO     (e:H p=Aa):Fr H G (upd H p o) (Ad G p mo):=⟨λa j h g _=>by
 have z:a≠p:=sg h e;exact⟨by rw[Dc z];exact h,by rw[oh z];exact g⟩⟩
def TS.write  (h:HR K H G)(g:G p=ia mo):TS H (upd H p o):=⟨λa y e=>by
 have z:a≠p:=λz=>by subst z;rw[h.tupNone e]at g;cases g
 rw[Dc z];exact e,λa j e=>by
 have z:a≠p:=λz=>by subst z;rw[h.codNone e]at g;cases g
 rw[Dc z];exact e⟩
def HR.write  (h:HR K H G){mo mo':MO}(g:G p=ia mo)(m:wj K (upd H p o) p mo'):HR K (upd H p o) (Ad G p mo'):=⟨λa j q=>by
 by_cases z:a=p
 ·subst z;rw[rf]at q
  lia
 ·rw[oh z]at q;exact(h a j q).keep (Dc z) (TS.write h g),h.tabW g⟩
def Fr.write     (g:G p=ia mo):Fr H G (upd H p o) (Ad G p mo'):=⟨λa j h n _=>by
 have z:a≠p:=λz=>by lia
 exact⟨by rw[Dc z];exact h,by rw[oh z];exact n⟩⟩
theorem Pb.length  : ∀{us } {vs },Pb K H us vs->us.length=vs.length
 |[],_,h=>by cases h;rfl
 |_::_,_,h=>by
  obtain⟨v,y,rfl,_,j⟩:=h;simp[j.length]
theorem Pb.append  : ∀{us ws } {vs xs },Pb K H us vs->Pb K H ws xs->Pb K H (us++ws) (vs++xs)
 |[],_,_,_,h,h'=>by cases h;exact h'
 |_::_,_,_,_,h,h'=>by
  obtain⟨v,j,rfl,r,y⟩:=h;exact⟨v,j++_,rfl,r,y.append h'⟩
theorem Pb.get  : ∀{us } {vs } {i:Nat} {u },Pb K H us vs->us[i]?=ia u->∃v,vs[i]?=ia v/\RU K H u v
 |[],_,_,_,_,e=>by simp at e
 |_::_,_,0,_,h,e=>by
  obtain⟨v,j,rfl,r,_⟩:=h
  simp_all
 |_::_,_,i+1,_,h,e=>by
  obtain⟨v,j,rfl,_,y⟩:=h;obtain⟨w,I,F⟩:=y.get (i:=i) (by simpa using e)
  simp_all
theorem Pb.take  : ∀{us } {vs } n ,Pb K H us vs->Pb K H (us.take n) (vs.take n)
 |_,_,0,_=>rfl
 |[],_,_+1,h=>by cases h;rfl
 |_::_,_,n+1,h=>by
  obtain⟨v,j,rfl,r,y⟩:=h;exact⟨v,j.take n,rfl,r,y.take n⟩
theorem Pb.drop  : ∀{us } {vs } n ,Pb K H us vs->Pb K H (us.drop n) (vs.drop n)
 |_,_,0,h=>h
 |[],_,_+1,h=>by cases h;rfl
 |_::_,_,n+1,h=>by
  obtain⟨v,y,rfl,_,j⟩:=h;exact j.drop n
theorem Pb.set    (r:RU K H u v):∀{us } {vs } i ,Pb K H us vs->Pb K H (us.set i u) (vs.set i v)
 |[],_,_,h=>by cases h;rfl
 |_::_,_,0,h=>by
  obtain⟨w,j,rfl,_,y⟩:=h;exact⟨v,j,rfl,r,y⟩
 |_::_,_,i+1,h=>by
  obtain⟨w,j,rfl,q,y⟩:=h;exact⟨w,j.set i v,rfl,q,y.set r i⟩
theorem Pb.reverse  : ∀{us } {vs },Pb K H us vs->Pb K H us.reverse vs.reverse
 |[],_,h=>by cases h;rfl
 |_::_,_,h=>by
  obtain⟨v,y,rfl,r,j⟩:=h;rw[Rr,Rr];exact j.reverse.append ⟨v,[],rfl,r,rfl⟩
theorem Pb.rep    (h:Pb K H us vs):∀k ,Pb K H (Qb k us).flatten (Qb k vs).flatten
 |0=>rfl
 |k+1=>by
  rw[Dm,Dm,xo,xo];exact h.append (h.rep k)
theorem Pb.erase  : ∀{us } {vs } i ,Pb K H us vs->Pb K H (us.eraseIdx i) (vs.eraseIdx i)
 |[],_,_,h=>by cases h;rfl
 |_::_,_,0,h=>by
  obtain⟨v,y,rfl,_,j⟩:=h;exact j
 |_::_,_,i+1,h=>by
  obtain⟨v,y,rfl,r,j⟩:=h;exact⟨v,_,rfl,r,j.erase i⟩
def Pb.dropLast    (h:Pb K H us vs):Pb K H us.dropLast vs.dropLast:=by
 rw[YJ,YJ,h.length];exact h.take _
theorem Pb.atI {us:List U}{vs:List V}{i:Int}{u:U}(h:Pb K H us vs)(e:atI us i=ia u):∃v,L2.atI vs i=ia v/\RU K H u v:=by
 unfold L2.atI at e ⊢;rw[h.length]at e;cases q:dg vs.length i with
 |none=>simp_all
 |some j=>
  rw[q]at e;exact h.get e
def Pb.cut    (h:Pb K H us vs) lo hi:Pb K H (Z.cut us lo hi) (cutV vs lo hi):=by
 unfold Z.cut cutV;rw[h.length];exact(h.drop _).take _
theorem Pb.isEmpty    (h:Pb K H us vs):us.isEmpty=vs.isEmpty:=by
 cases us with
 |nil=>cases h;rfl
 |cons u us=>obtain⟨v,j,rfl,_⟩:=h;rfl
theorem Pb.ints  : ∀{us } {vs } {ns },Pb K H us vs->Fj us=ia ns->vs=ns.map V.int
 |[],_,_,h,e=>by cases h;cases e;rfl
 |u::us,_,ns,h,e=>by
  obtain⟨v,y,rfl,r,j⟩:=h;cases u with
  |int i=>
   cases r;rw[Fj]at e;cases q:Fj us with
   |none=>lia
   |some l=>rw[q]at e;cases e;rw[j.ints q];rfl
  |_=>cases e
def HR.lst  (h:HR K H G)(e:G a=ia (.lst us)):∃vs,H a=ia (.lst vs)/\Pb K H us vs:=h a _ e
def HR.ls  (h:HR K H G)(e:ud G a=ia us):∃vs,Ae K H a vs/\Pb K H us vs:=by
 unfold ud at e;split at e
 ·rename_i j q;cases e;obtain⟨vs,q2,r⟩:=h a _ q;exact⟨vs,.inl (.inl q2),r⟩
 ·rename_i j q;cases e;obtain⟨o,vs,q2,r⟩:=h a _ q;exact⟨vs,.inl (.inr ⟨o,q2⟩),r⟩
 lia
def HR.rd  (h:HR K H G)(e:ud G a=ia us):∃vs,Rd H a (.lst vs)/\Pb K H us vs:=by
 unfold ud at e;split at e
 ·rename_i j q;cases e;obtain⟨vs,q2,r⟩:=h a _ q;exact⟨vs,.inl q2,r⟩
 ·rename_i j q;cases e;obtain⟨o,vs,q2,r⟩:=h a _ q;exact⟨vs,.inr ⟨o,q2⟩,r⟩
 lia
end
mutual
theorem DU.dv {K:Nb}{H:Hp}{G:Gp}(h:HR K H G):∀{u:U} {d:Wa} {v:V},DU G u d->RU K H u v->DV K H v d
 |_,_,_,.non,r=>by cases r;exact .non
 |_,_,_,.bl b,r=>by cases r;exact .bl b
 |_,_,_,.int i,r=>by cases r;exact .int i
 |_,_,_,.str x,r=>by cases r;exact .str x
 |_,_,_,.tup q,r=>by
  obtain⟨a,y,rfl,s,j⟩:=r
  exact .tup (.of s) (Dg.dv h q j)
 |_,_,_,.lst e q,r=>by
  cases r
  obtain⟨y,s,j⟩:=h.rd e
  exact .lst s (Dg.dv h q j)
 |_,_,_,.dic e,r=>by
  cases r
  obtain⟨l,q,j⟩:=h _ _ e
  cases j
  exact .dic q
theorem Dg.dv {K:Nb}{H:Hp}{G:Gp}(h:HR K H G):∀{us:List U} {j:List Wa} {vs:List V},Dg G us j->Pb K H us vs->kg K H vs j
 |_,_,_,.nil,r=>by cases r;exact .nil
 |_,_,_,.cons a b,r=>by
  obtain⟨v,F,rfl,r1,y⟩:=r
  exact .cons (DU.dv h a r1) (Dg.dv h b y)
end
end Z

namespace L2
open PySem
def PE.imp     (h:PE X e t)(i:∀y H Q,t' y H Q->t y H Q):PE X e t':=λj s y H Q I q=>h j s y H Q I (i y H Q q)
def PT.imp     (h:PT X e t)(i:∀y H Q,t' y H Q->t y H Q):PT X e t':=λj s y H Q I q=>h j s y H Q I (i y H Q q)
def PW.imp     (h:PW X e t)(i:∀y H Q,t' y H Q->t y H Q):PW X e t':=λw j s y H Q I q=>h w j s y H Q I (i y H Q q)
def PA.imp     (h:PA X e t)(i:∀y H Q,t' y H Q->t y H Q):PA X e t':=λpos j s y H Q I q=>h pos j s y H Q I (i y H Q q)
def PO.imp     (h:PO X e t)(i:∀y H Q,t' y H Q->t y H Q):PO X e t':=λj s y H Q I q=>h j s y H Q I (i y H Q q)
def PS.imp     (h:PS X e t)(i:∀D y H,t' D y H->t D y H):PS X e t':=λj s y H D I q=>h j s y H D I (i D y H q)
def Ce.imp     (h:Ce X e t)(i:∀D y H,t' D y H->t D y H):Ce X e t':=λj s y H D I q=>h j s y H D I (i D y H q)
end L2
namespace Z
open PySem L2
noncomputable def gK  (K:Nb):Str->Option Da:=λx=>(Ng K ze x).join
def XD  (K:Nb)(H:Hp)(C j:Ba)(x:XV):Prop:=1<=x.c/\x.c<6/\XCls K (gK K) (clsN x.c) (clsF x.c) C/\∃l,H j=ia (.xd l)/\l.map (·.1)=clsF x.c/\Pb K H x.fs (l.map (·.2))
def kB  (X:Cx)(H:Hp)(s:Ja)(e:Da)(x:XV):Prop:=∃y C j,e=.ref y/\Lies X.s₀.heap.objs.size X.pn H s.heap y (.ref C) (ia j)/\XD X.K H C j x
section
variable (X:Cx)
def LX (y:St)(H:Hp)(G:Gp)(E:KX):Prop:=∀(j:List (Ba×Obj)) (e:Da) (s':Ja) (x:XV) (G':Gp) (H':Hp),Oa X j y H' s'->kB X H' s' e x->HR X.K H' G'->Fr H G H' G'->E x G'->X.xe e s'
def LV (H:Hp)(G:Gp)(Q:K1)(F:VK):Prop:=∀w v y j,RU X.K j w v->HR X.K j y->Fr H G j y->Q w y->F v j
def lE (t:UE):TE:=λy H F=>∃j G Q E,SR X.K H j y/\HR X.K H G/\t j G Q E/\LV X H G Q F/\LX X y H G E
def lT (t:UT):TT:=λI H J=>∃F G Q E,SR X.K H F I/\HR X.K H G/\t F G Q E/\(∀b j y,HR X.K y j->Fr H G y j->Q b j->J b y)/\LX X I H G E
def lA (t:UA):TA:=λO H R=>∃F G Q E,SR X.K H F O/\HR X.K H G/\t F G Q E/\(∀I J y j,Pb X.K j I J->HR X.K j y->Fr H G j y->Q I y->R J j)/\LX X O H G E
def lO (t:Sg->Gp->(Option Int->Gp->Prop)->KX->Prop):TO:=λI H J=>∃F G Q E,SR X.K H F I/\HR X.K H G/\t F G Q E/\(∀o j y,HR X.K y j->Fr H G y j->Q o j->J o y)/\LX X I H G E
end
section
variable {X:Cx}{σ:St}{H H1 H2:Hp}{G G1 G2:Gp}
def LX.fr  {E:KX}(h:LX X σ H G E)(f:Fr H G H1 G1):LX X σ H1 G1 E:=λj e y x F O I a R J q=>h j e y x F O I a R (f.trans J) q
def LV.fr    (h:LV X H G Q Q0)(f:Fr H G H1 G1):LV X H1 G1 Q Q0:=λw v y I r F j q=>h w v y I r F (f.trans j) q
def LV.here    (h:LV X H G Q Q0)(r:RU X.K H w v)(hr:HR X.K H G)(q:Q w G):Q0 v H:=h w v G H r hr (Fr.refl _ _) q
def LV.bl    (h:LV X H G Q Q0)(hr:HR X.K H G)(q:Q (.bl b) G):Q0 (.bl b) H:=h.here (w:=.bl b) rfl hr q
def LV.int    (h:LV X H G Q Q0)(hr:HR X.K H G)(q:Q (.int b) G):Q0 (.int b) H:=h.here (w:=.int b) rfl hr q
def LV.str    (h:LV X H G Q Q0)(hr:HR X.K H G)(q:Q (.str b) G):Q0 (.str b) H:=h.here (w:=.str b) rfl hr q
def LV.tup    (h:LV X H G Q Q0)(e:H p=Aa)(r:Pb X.K H us vs)(hr:HR X.K H G)(q:Q (.tup us) G):Q0 (.ref p) (upd H p (.tup vs)):=
 h (.tup us) (.ref p) G _ ⟨p,vs,rfl,sf,r.ts (TS.new e)⟩ (hr.newT e) (Fr.new e) q
def LV.lst    (h:LV X H G Q Q0)(e:H p=Aa)(r:Pb X.K H us vs)(hr:HR X.K H G)(q:newO G (.lst us) Q):Q0 (.ref p) (upd H p (.lst vs)):=
 h (.loc p) (.ref p) _ _ rfl (hr.newO (mo:=.lst us) e ⟨vs,sf,r.ts (TS.new e)⟩) (Fr.newO e) (q.at p (hr.nope e))
def LV.wl    (h:LV X H G Q Q0)(g:G p=ia mo)(r:Pb X.K H us vs)(hr:HR X.K H G)(j:RU X.K H w v)(q:putO G p (.lst us) (Q w)):Q0 v (upd H p (.lst vs)):=
 h w v _ _ (j.ts (TS.write hr g)) (hr.write (mo':=.lst us) g ⟨vs,sf,r.ts (TS.write hr g)⟩) (Fr.write g) q.at
end

def lE.two  {R:V->V->Hp->Prop}{k:U->U->Gp->K1->Prop}(h:lE X (λF G Q E=>ta F G (λx Z=>tb F Z (λy G2=>k x y G2 Q) E) E) σ H Q0)
  (f:∀x y v j G O Q,RU X.K O x v->RU X.K O y j->HR X.K O G->k x y G Q->LV X O G Q Q0->R v j O):lE X ta σ H λv H1=>lE X tb σ H1 λj H2=>R v j H2:=by
 obtain⟨F,G,Q,E,J,hG,h,lv,lx⟩:=h;refine⟨F,G,_,E,J,hG,h,λx v Z H1 rx I f1 h1=>?_,lx⟩;refine⟨F,Z,_,E,J.ts (f1.ts hG),I,h1,λy j G2 H2 ry Y f2 h2=>?_,lx.fr f1⟩;exact f x y v j G2 H2 Q (rx.ts (f2.ts I)) ry Y h2 (lv.fr (f1.trans f2))
def lE.one  {R:V->Hp->Prop}{k:U->Gp->K1->Prop}(h:lE X (λy G Q E=>ta y G (λx F=>k x F Q) E) σ H Q0)
  (f:∀x v G j Q,RU X.K j x v->HR X.K j G->k x G Q->LV X j G Q Q0->R v j):lE X ta σ H R:=by
 obtain⟨y,G,Q,E,J,O,h,lv,lx⟩:=h;exact⟨y,G,_,E,J,O,h,λx v F Z rx I Y h1=>f x v F Z Q rx I h1 (lv.fr Y),lx⟩
def lE.many    {k:List U->Gp->K1->Prop}(h:lE X (λy G Q E=>ta y G (λx F=>k x F Q) E) σ H Q0)
  (f:∀x v G j Q,Pb X.K j x v->HR X.K j G->k x G Q->LV X j G Q Q0->R v j):lA X ta σ H R:=by
 obtain⟨y,G,Q,E,J,O,h,lv,lx⟩:=h;exact⟨y,G,_,E,J,O,h,λx v F Z rx I Y h1=>f x v F Z Q rx I h1 (lv.fr Y),lx⟩

def VN    (I:X.N[i]?=ia x)(R:Sh X.env.scope x)(hd:(x==("__debug__" : Str))=ua)(y:(x==("__classdict__" : Str))=ua):PE X (.Name x pos) (lE X λF G Q _=>slot F i λu=>Q u G):=by
 refine(Si I R hd y).imp λσ H Z h=>?_;obtain⟨F,G,Q,E,j,J,h,O,_⟩:=h;unfold slot at h;split at h
 ·rename_i u e;obtain⟨v,Y,r⟩:=j.2 i u e;exact⟨v,Y,O.here r J h⟩
 lia
def Sn     (h:PE X e (tC v))(r:∀H,RU X.K H u v):PE X e (lE X λ_ G Q _=>Q u G):=
 h.imp λ_ _ _ ⟨_,_,_,_,_,j,q,y,_⟩=>y.here (r _) j q
def nk  (X:Cx)(f:Da->Da->Sem Da)(b:U->U->Gp->K1->Prop):Prop:=
 ∃r:R2,Cc X f r/\∀x y v F G H Q j,RU X.K H x v->RU X.K H y F->HR X.K H G->b x y G Q->LV X H G Q j->r v F H j

def xO    (Y:nk X (tf o) k)(ha:PE X a (lE X ta))(hb:PE X b (lE X tb)) :
  PE X (.BinOp a o b pos) (lE X λj G Q E=>ta j G (λx F=>tb j F (λy J=>k x y J Q) E) E):=by
 obtain⟨r,h1,O⟩:=Y;exact(tM h1 ha hb).imp λσ H R h=>lE.two h λx y v Z G H' Q rx ry I q lv=>O x y v Z G H' Q R rx ry I q lv
def JO  : nk X (tf .Add) addU:=by
 refine⟨_,vP.or (MV.or ((PQ (X:=X)).or (wP.or OQ))),?_⟩;intro x y v v' G H Q Q0 J I j h F;cases x<;>try exact h.elim
 ·cases y<;>try exact h.elim
  cases J;cases I;exact .inr (.inr (.inr (.inr ⟨_,_,rfl,rfl,F.int j h⟩)))
 ·cases y<;>try exact h.elim
  cases J;cases I;exact .inl ⟨_,_,rfl,rfl,F.int j h⟩
 ·cases y<;>try exact h.elim
  cases J;cases I;exact .inr (.inl ⟨_,_,rfl,rfl,h.1,F.str j h.2⟩)
 ·cases y<;>try exact h.elim
  rename_i Y ys;obtain⟨a,R,rfl,s1,r1⟩:=J;obtain⟨b,O,rfl,s2,r2⟩:=I;obtain⟨hl,q⟩:=h;refine .inr (.inr (.inl ⟨a,b,R,O,rfl,rfl,.of s1,.of s2,by rw[<- r1.length,<- r2.length];exact hl,λz=>?_,λ_ z=>?_,λ_ _ p Z=>?_⟩))
  ·have:Y=[]:=by have:=r1.length;simp_all
   subst this;exact F.here (w:=.tup ys) ⟨b,O,rfl,s2,r2⟩ j q
  ·have:ys=[]:=by have:=r2.length;simp_all
   subst this;rw[im]at q;exact F.here (w:=.tup Y) ⟨a,R,rfl,s1,r1⟩ j q
  ·exact F.tup Z (r1.append r2) j q
 ·cases y<;>try exact h.elim
  cases J;cases I;obtain⟨Y,ys,g1,g2,hl,q⟩:=h;obtain⟨R,e1,r1⟩:=j.lst g1;obtain⟨O,e2,r2⟩:=j.lst g2;exact .inr (.inr (.inr (.inl ⟨_,_,R,O,rfl,rfl,e1,e2,by rw[<- r1.length,<- r2.length];exact hl,λp Z=>F.lst Z (r1.append r2) j q⟩)))
def QO  : nk X (tf .Sub) subU:=by
 refine⟨_,GO.or (TQ (X:=X)),?_⟩;intro x y v R G H Q O J I j h F;cases x<;>try exact h.elim
 all_goals cases y<;>try exact h.elim
 all_goals cases J;cases I
 ·exact .inr (.inl ⟨_,_,rfl,rfl,F.int j h⟩)
 ·exact .inr (.inr ⟨_,_,rfl,rfl,F.int j h⟩)
 ·exact .inl ⟨_,_,rfl,rfl,F.int j h⟩
def NO  : nk X (tf .Mult) mulU:=by
 refine⟨_,CO.or FO,?_⟩;intro x y v v' G H Q Q0 J F j h I;unfold mulU at h;split at h
 ·cases J;cases F;exact .inl ⟨_,_,rfl,rfl,h.1,I.int j h.2⟩
 ·cases J;cases F;obtain⟨xs,R,h1,O,hl,q⟩:=h;obtain⟨Z,e1,r1⟩:=j.lst R;exact .inr ⟨_,_,Z,rfl,rfl,e1,h1,O,by rw[<- r1.length];exact hl,λp Y=>I.lst Y (r1.rep _) j q⟩
 ·exact h.elim
def UQ  : nk X (tf .FloorDiv) NB:=by
 refine⟨_,SQ,?_⟩;intro x y v R G H Q O J F j h I;cases x<;>try exact h.elim
 cases y<;>try exact h.elim
 ·cases J;cases F;exact⟨_,_,rfl,rfl,⟨h.1,h.2.1⟩,I.int j h.2.2⟩
def LO  : nk X (tf .Mod) modU:=by
 refine⟨_,BO,?_⟩;intro x y v R G H Q O J F j h I;cases x<;>try exact h.elim
 cases y<;>try exact h.elim
 ·cases J;cases F;exact⟨_,_,rfl,rfl,h.1,I.int j h.2⟩
def OO  : nk X (tf .Pow) powU:=by
 refine⟨_,EO,?_⟩;intro x y v R G H Q O J F j h I;cases x<;>try exact h.elim
 cases y<;>try exact h.elim
 ·cases J;cases F;exact⟨_,_,rfl,rfl,h.1,I.int j h.2⟩
def KO   o:nk X (tf o) (binU o):=by
 cases o with
 |Add=>exact JO
 |Sub=>exact QO
 |Mult=>exact NO
 |FloorDiv=>exact UQ
 |Mod=>exact LO
 |Pow=>exact OO
 |_=>exact⟨λ_ _ _ _=>False,λ_ _ _ _ _ _ _ _ _ _ _ _ h=>h.elim,λ_ _ _ _ _ _ _ _ _ _ _ h _=>h⟩
def NN  (J:PE X a (lE X ta)):PE X (.UnaryOp .USub a pos) (lE X λj G Q E=>ta j G (λx y=>negU x y Q) E):=by
 refine(vM OP J).imp λZ H R h=>lE.one h λx v G Y Q O F q I=>?_;cases x<;>try exact q.elim
 cases O;exact⟨_,rfl,I.int F q⟩
def Om  (X:Cx)(o:Js):Prop:=
 ∃r:R2,Cc X (ce o) r/\∀x y v v' G H (k:Bool->Prop) (Q0:VK),RU X.K H x v->RU X.K H y v'->HR X.K H G->cmpU o x y G k->(∀c,k c->Q0 (.bl c) H)->r v v' H Q0

def xB  (j:Bool):R2:=λx y H Q=>((x=.non\/∃b,x=.bl b)\/(y=.non\/∃b,y=.bl b))/\Q (.bl (if j then !decide (x=y) else decide (x=y))) H
def EE    (F:RelV x v)(j:RelV y u)(h:(x=.non\/∃b,x=.bl b)\/(y=.non\/∃b,y=.bl b)):plainIs v u=la/\(v==u)=decide (x=y):=by
 rcases h with(rfl|⟨b,rfl⟩)|(rfl|⟨b,rfl⟩)
 ·cases F;cases y with
  |non=>cases j;exact⟨rfl,by simp⟩
  |bl c=>cases j;exact⟨rfl,by simp⟩
  |int _=>obtain⟨t,rfl⟩:=j;exact⟨rfl,by simp⟩
  |str _=>obtain⟨t,rfl⟩:=j;exact⟨rfl,by simp⟩
  |byt _=>obtain⟨t,rfl⟩:=j;exact⟨rfl,by simp⟩
  |flt _=>obtain⟨t,rfl⟩:=j;exact⟨rfl,by simp⟩
  |ref _=>cases j;exact⟨rfl,by simp⟩
  |ty _=>cases j;exact⟨rfl,by simp⟩
 ·cases F;cases y with
  |non=>cases j;exact⟨rfl,by simp⟩
  |bl c=>cases j;exact⟨rfl,by lia⟩
  |int _=>obtain⟨t,rfl⟩:=j;exact⟨rfl,by simp⟩
  |str _=>obtain⟨t,rfl⟩:=j;exact⟨rfl,by simp⟩
  |byt _=>obtain⟨t,rfl⟩:=j;exact⟨rfl,by simp⟩
  |flt _=>obtain⟨t,rfl⟩:=j;exact⟨rfl,by simp⟩
  |ref _=>cases j;exact⟨rfl,by simp⟩
  |ty _=>cases j;exact⟨rfl,by simp⟩
 ·cases j;cases x with
  |non=>cases F;exact⟨rfl,by simp⟩
  |bl c=>cases F;exact⟨rfl,by simp⟩
  |int _=>obtain⟨t,rfl⟩:=F;exact⟨rfl,by simp⟩
  |str _=>obtain⟨t,rfl⟩:=F;exact⟨rfl,by simp⟩
  |byt _=>obtain⟨t,rfl⟩:=F;exact⟨rfl,by simp⟩
  |flt _=>obtain⟨t,rfl⟩:=F;exact⟨rfl,by simp⟩
  |ref _=>cases F;exact⟨rfl,by simp⟩
  |ty _=>cases F;exact⟨rfl,by simp⟩
 ·cases j;cases x with
  |non=>cases F;exact⟨rfl,by simp⟩
  |bl c=>cases F;exact⟨rfl,by lia⟩
  |int _=>obtain⟨t,rfl⟩:=F;exact⟨rfl,by simp⟩
  |str _=>obtain⟨t,rfl⟩:=F;exact⟨rfl,by simp⟩
  |byt _=>obtain⟨t,rfl⟩:=F;exact⟨rfl,by simp⟩
  |flt _=>obtain⟨t,rfl⟩:=F;exact⟨rfl,by simp⟩
  |ref _=>cases F;exact⟨rfl,by simp⟩
  |ty _=>cases F;exact⟨rfl,by simp⟩
def AO  : Cc X (ce .Is) (xB ua):=by
 intro j s Y H x y v u Q I R J h;obtain⟨c,q⟩:=h;obtain⟨O,F⟩:=EE R J c;refine wpAny_is_plain O ⟨.bl _,H,I,?_,q⟩;rw[F];rfl
def CU  : Cc X (ce .IsNot) (xB la):=by
 intro j s Y H x y v u Q I R J h;obtain⟨c,q⟩:=h;obtain⟨O,F⟩:=EE R J c;refine wpAny_isNot_plain O ⟨.bl _,H,I,?_,q⟩;rw[F];rfl
def DC       (F:RU K H x v)(j:RU K H y I)(h:Ig x y k):((v=.non\/∃b,v=.bl b)\/(I=.non\/∃b,I=.bl b))/\k (decide (v=I)):=by
 have e:∀{a b:V},a≠b->k ua->k (decide (a=b)):=λn q=>by lia
 cases x<;>try exact h.elim
 ·cases y
  case non=>have O:k la:=h;cases F;cases j;lia
  all_goals first
   |exact h.elim
   |(cases F;obtain⟨a,J,rfl,_⟩:=j;exact⟨.inl (.inl rfl),e (λz=>nomatch z) h⟩)
   |(cases F;cases j;exact⟨.inl (.inl rfl),e (λz=>nomatch z) h⟩)
 ·cases y<;>first
   |exact h.elim
   |(cases F;cases j;exact⟨.inr (.inl rfl),e (λz=>nomatch z) h⟩)
   |(cases F;cases j;rename_i b c;exact⟨.inl (.inr ⟨_,rfl⟩),by rw[decide_eq_decide.mpr (⟨λz=>V.bl.inj z,λz=>z ▸ rfl⟩:V.bl b=.bl c↔b=c)];exact h⟩)
 ·cases y<;>first
   |exact h.elim
   |(cases F;cases j;exact⟨.inr (.inl rfl),e (λz=>nomatch z) h⟩)
   |(cases F;cases j;exact⟨.inr (.inr ⟨_,rfl⟩),e (λz=>nomatch z) h⟩)
 ·cases y<;>first
   |exact h.elim
   |(cases F;cases j;exact⟨.inr (.inl rfl),e (λz=>nomatch z) h⟩)
   |(cases F;cases j;exact⟨.inr (.inr ⟨_,rfl⟩),e (λz=>nomatch z) h⟩)
 ·cases y<;>first
   |exact h.elim
   |(cases j;obtain⟨a,J,rfl,_⟩:=F;exact⟨.inr (.inl rfl),e (λz=>nomatch z) h⟩)
   |(cases j;obtain⟨a,J,rfl,_⟩:=F;exact⟨.inr (.inr ⟨_,rfl⟩),e (λz=>nomatch z) h⟩)
 ·cases y<;>first
   |exact h.elim
   |(cases F;cases j;exact⟨.inr (.inl rfl),e (λz=>nomatch z) h⟩)
   |(cases F;cases j;exact⟨.inr (.inr ⟨_,rfl⟩),e (λz=>nomatch z) h⟩)
def wC  {X: Cx}(I:RU X.K H x v)(F:RU X.K H y j)(J:HR X.K H G)(h:eqU x y G k) :
  (scal v j=la/\k (decide (v=j)))\/∃d e,DV X.K H v d/\DV X.K H j e/\d.canLay0=la/\e.canLay0=la/\d.depth<=100/\k (ie d e):=by
 have g:(∃d e,DU G x d/\DU G y e/\Small d/\Small e/\k (ie d e))->(scal v j=la/\k (decide (v=j)))\/∃d e,DV X.K H v d/\DV X.K H j e/\d.canLay0=la/\e.canLay0=la/\d.depth<=100/\k (ie d e):=
  λ⟨d,e,Y,O,⟨s1,s2⟩,⟨R,_⟩,q⟩=>.inr ⟨d,e,Y.dv J I,O.dv J F,s1,R,s2,q⟩
 have e:∀{p:Prop} [Decidable p],¬p->k ua->k (decide p):=λn q=>by lia
 cases x<;>try exact g h
 all_goals
  cases y<;>first
   |exact g h
   |(cases I;cases F;exact .inl ⟨rfl,e (λz=>V.noConfusion z) h⟩)
   |(cases I;cases F;exact .inl ⟨rfl,by simp only[V.bl.injEq,V.int.injEq,V.str.injEq];exact h⟩)
def MU      (r:Pb K H us vs):vs.isEmpty=us.isEmpty:=by
 have:=r.length;cases us<;>cases vs<;>simp_all
def eQ  {X: Cx}(I:RU X.K H x v)(F:RU X.K H y J)(O:HR X.K H G)(h:yJ x y G k):eqU x y G k\/(∃a z kvs,v=.ref a/\J=.str z/\H a=ia (.dK kvs)/\k ua)\/(∃a b xs,v=.ref a/\J=.ref b/\Bd X.K H a xs/\Bd X.K H b []/\k xs.isEmpty)\/∃a z xs,v=.ref a/\J=.str z/\(Bd X.K H a xs\/Ae X.K H a xs)/\k ua:=by
 cases x<;>try exact .inl h
 all_goals cases y<;>try exact .inl h
 ·obtain⟨a,j,rfl,s1,r1⟩:=I;cases F;exact .inr (.inr (.inr ⟨a,_,j,rfl,rfl,.inl (.of s1),h⟩))
 ·rename_i Y;cases Y<;>try exact .inl h
  obtain⟨a,j,rfl,s1,r1⟩:=I;obtain⟨b,Z,rfl,s2,r2⟩:=F;cases r2;refine .inr (.inr (.inl ⟨a,b,j,rfl,rfl,.of s1,.of s2,?_⟩));rw[MU r1];exact h
 ·rcases h with⟨kvs,g,q⟩|⟨xs,g,q⟩|h
  ·cases I;cases F;obtain⟨l,e,R⟩:=O _ _ g;exact .inr (.inl ⟨_,_,l,rfl,rfl,e,q⟩)
  ·cases I;cases F;obtain⟨j,e,R⟩:=O.lst g;exact .inr (.inr (.inr ⟨_,_,j,rfl,rfl,.inr (.of e),q⟩))
  ·exact .inl h
def Hj       (r:RU K H x v)(e:kU x=ia k):v=kV k:=by
 cases x with
 |int i=>cases r;cases e;rfl
 |str i=>cases r;cases e;rfl
 |_=>cases e
theorem nu    : ∀{xs } {vs } {ks },Pb K H xs vs->Dl xs=ia ks->vs=ks.map kV
 |[],_,_,r,e=>by cases r;cases e;rfl
 |x::xs,_,ks,r,e=>by
  obtain⟨v,I,rfl,r1,F⟩:=r;rw[Dl]at e;cases y:kU x with
  |none=>lia
  |some k=>
   cases j:Dl xs with
   |none=>lia
   |some l=>
    rw[y,j]at e;cases e;rw[Hj r1 y,nu F j];rfl
def Mu      (r:RU K H x v)(e:flat x=la):lh v=la:=by
 cases x<;>first|(cases r;rfl)|exact absurd (show ua=la from e) (by decide)
theorem Uu    : ∀{xs } {vs },Pb K H xs vs->xs.all flat=la->vs.all lh=la
 |[],_,r,_=>by cases r;rfl
 |x::xs,_,r,e=>by
  obtain⟨v,y,rfl,r1,j⟩:=r;rw[Ci,Be]at e;rw[Ci,Mu r1 e.1,Uu j e.2];rfl
def xN      (r:RU K H x v)(j:RU K H y I)(e:flat x=la)(F:flat y=la):Zi v I=Lg x y:=by
 cases x<;>first|(exact absurd (show ua=la from e) (by decide))|(cases y<;>first|(exact absurd (show ua=la from F) (by decide))|(cases r;cases j;rfl))
theorem au      (r:RU K H x v)(e:flat x=la):∀{xs } {vs },Pb K H xs vs->xs.all flat=la->Zq v vs=xs.any λy=>Lg y x
 |[],_,j,_=>by cases j;rfl
 |y::xs,_,j,e'=>by
  obtain⟨J,I,rfl,r1,j⟩:=j;rw[Ci,Be]at e';have F:=au r e j e'.2;unfold Zq at F ⊢;rw[tj,tj,xN r1 r e'.1 e,F]
theorem Vn {κ:Type}[DecidableEq κ]{K:Nb}{H:Hp}(k:κ):∀{kvs:List (κ×U)} {l:List (κ×V)},Jd K H kvs l->match dGet kvs k with|some u=>∃v,valV l k=ia v/\RU K H u v|none=>valV l k=Aa
 |[],_,r=>by cases r;exact rfl
 |(k',u)::kvs,_,r=>by
  obtain⟨v,y,rfl,r1,j⟩:=r;by_cases e:k'=k
  ·subst e;have:dGet ((k',u)::kvs) k'=ia u:=by simp[dGet,qj]
   rw[this];exact⟨v,Yu rfl,r1⟩
  ·have:dGet ((k',u)::kvs) k=dGet kvs k:=by simp[dGet,qj,e]
   rw[this,Xu (p:=(k',v)) e];exact Vn k j
def Oy   [DecidableEq κ](k:κ)(r:Jd K H kvs l):(valV l k).isSome=(dGet kvs k).isSome:=by
 have:=Vn k r
 grind
def rDIn  (j:Bool):R2:=λx y H Q=>∃a o,y=.ref a/\DGet H a x o/\Q (.bl (if j then !o.isSome else o.isSome)) H
def xP  (hu:X.A.units+1<bc):Cc X (ce .In) (rDIn ua):=by
 intro j s Y H x y v u Q I O F h;obtain⟨a,o,rfl,g,q⟩:=h;cases F;exact d_in hu I g O λR J=>⟨.bl o.isSome,H,J,rfl,q⟩
def gV  (hu:X.A.units+1<bc):Cc X (ce .NotIn) (rDIn la):=by
 intro j s Y H x y v u Q I O F h;obtain⟨a,o,rfl,g,q⟩:=h;cases F;exact cQ hu I g O λR J=>⟨.bl (!o.isSome),H,J,rfl,q⟩
def BC  {X: Cx}(I:RU X.K H x v)(ry:RU X.K H y v')(J:HR X.K H G)(h:Jg x y G k) :
  (∃i j,v=.str i/\v'=.str j/\k (!(Zv j i 0 j.length 1).isEmpty))\/(∃p xs,v'=.ref p/\(Ae X.K H p xs\/Bd X.K H p xs)/\lh v=la/\xs.all lh=la/\k (Zq v xs))\/
   (∃a o,v'=.ref a/\DGet H a v o/\k o.isSome)\/∃(p:Ba) (vs:List V) (d:Wa) (Y:List Wa),v'=.ref p/\(Ae X.K H p vs\/Bd X.K H p vs)/\DV X.K H v d/\kg X.K H vs Y/\d.canLay0=la/\d.depth<=100/\(∀e∈Y,e.canLay0=la)/\k (Y.any λe=>ie e d):=by
 unfold Jg at h;split at h
 ·cases I;cases ry;exact .inl ⟨_,_,rfl,rfl,h⟩
 ·obtain⟨a,vs,rfl,e,F⟩:=ry;obtain⟨d,Y,hd,xa,sd,Z,q⟩:=h;exact .inr (.inr (.inr ⟨a,vs,d,Y,rfl,.inr (.of e),hd.dv J I,xa.dv J F,sd.1,sd.2,λe he=>(Z e he).1,q⟩))
 ·obtain⟨a,vs,rfl,e,F⟩:=ry;obtain⟨R,O,q⟩:=h;exact .inr (.inl ⟨a,vs,rfl,.inr (.of e),Mu I R,Uu F O,by rw[au I R F O];exact q⟩)
 ·cases ry;rename_i a;split at h
  ·rename_i ys g;obtain⟨vs,e,F⟩:=J.lst g;rcases h with⟨R,O,q⟩|⟨d,Y,hd,xa,sd,Z,q⟩
   ·exact .inr (.inl ⟨a,vs,rfl,.inl (.of e),Mu I R,Uu F O,by rw[au I R F O];exact q⟩)
   ·exact .inr (.inr (.inr ⟨a,vs,d,Y,rfl,.inl (.of e),hd.dv J I,xa.dv J F,sd.1,sd.2,λe he=>(Z e he).1,q⟩))
  ·rename_i ys g;obtain⟨ob,vs,e,F⟩:=J a _ g;obtain⟨R,O,q⟩:=h;exact .inr (.inl ⟨a,vs,rfl,.inl (.inl (.inr ⟨ob,e⟩)),Mu I R,Uu F O,by rw[au I R F O];exact q⟩)
  ·rename_i za g;obtain⟨l,e,F⟩:=J a _ g;split at h
   ·rename_i y ek;have:=Hj I ek;subst this;exact .inr (.inr (.inl ⟨a,_,rfl,DGet.k e,by rw[Oy y F];exact h⟩))
   lia
  ·rename_i za g;obtain⟨l,e,F⟩:=J a _ g;split at h
   ·rename_i xs;obtain⟨b,vs,rfl,eb,rb⟩:=I;split at h
    ·rename_i y ek;have:=nu rb ek;subst this;exact .inr (.inr (.inl ⟨a,_,rfl,DGet.t e eb,by rw[Oy y F];exact h⟩))
    lia
   lia
  ·rename_i o za g;obtain⟨l,e,F⟩:=J a _ g;split at h
   ·rename_i y ek;have:=Hj I ek;subst this;exact .inr (.inr (.inl ⟨a,_,rfl,.inl ⟨l,y,.inr ⟨o,e⟩,rfl,rfl⟩,by rw[Oy y F];exact h⟩))
   lia
  lia
 lia
def Pu     (h:ordU o x y k):(∃i j,x=.int i/\y=.int j)\/(o=.LtE/\∃i j,x=.str i/\y=.str j):=by
 cases o<;>try exact h.elim
 all_goals cases x<;>try exact h.elim
 all_goals cases y<;>try exact h.elim
 all_goals lia
def Dn   (hr:Room k X.A) o:Om X o:=by
 have hu:X.A.units+1<bc:=by have:=hr.un;lia
 cases o with
 |Eq=>
  refine⟨_,oN.or ((yP hr).or ((wW hr).or ((NV hr).or (bW hr)))),λx y v v' G H k Z R O Y h q=>?_⟩;rcases eQ R O Y h with h|⟨a,z,kvs,I,F,J,h4⟩|⟨a,b,xs,I,F,J,h4,h5⟩|⟨a,z,xs,I,F,J,h4⟩
  ·rcases wC R O Y h with⟨I,F⟩|⟨d,e,I,F,J,h4,h5,h6⟩
   ·exact .inl ⟨I,q _ F⟩
   ·exact .inr (.inl ⟨d,e,I,F,J,h4,h5,q _ h6⟩)
  ·exact .inr (.inr (.inl ⟨a,z,kvs,I,F,J,q _ h4⟩))
  ·exact .inr (.inr (.inr (.inl ⟨a,b,xs,I,F,J,h4,q _ h5⟩)))
  ·exact .inr (.inr (.inr (.inr ⟨a,z,xs,I,F,J,q _ h4⟩)))
 |NotEq=>
  refine⟨_,pM.or (DO hr),λx y v v' G H k Z R O Y h q=>?_⟩;rcases wC R O Y h with⟨I,F⟩|⟨d,e,I,F,J,h4,h5,h6⟩
  ·exact .inl ⟨I,q _ F⟩
  ·exact .inr ⟨d,e,I,F,J,h4,h5,q _ h6⟩
 |Is=>
  refine⟨_,AO,λx y v v' G H k Z R O Y h q=>?_⟩;obtain⟨I,F⟩:=DC R O h;exact⟨I,q _ F⟩
 |IsNot=>
  refine⟨_,CU,λx y v v' G H k Z R O Y h q=>?_⟩;obtain⟨I,F⟩:=DC R O h;exact⟨I,q _ F⟩
 |In=>
  refine⟨_,BU.or ((AU (X:=X)).or ((xP hu).or (zO hr))),λx y v v' G H k Z R O Y h q=>?_⟩;rcases BC R O Y h with⟨i,j,I,F,J⟩|⟨p,xs,I,F,J,h4,h5⟩|⟨a,o,I,F,J⟩|⟨p,vs,d,ds,I,F,J,h4,h5,h6,h7,h8⟩
  ·grind
  ·exact .inr (.inl ⟨p,xs,I,F,J,h4,q _ h5⟩)
  ·exact .inr (.inr (.inl ⟨a,o,I,F,q _ J⟩))
  ·exact .inr (.inr (.inr ⟨p,vs,d,ds,I,F,J,h4,h5,h6,h7,q _ h8⟩))
 |NotIn=>
  refine⟨_,dW.or ((cW (X:=X)).or ((gV hu).or (FU hr))),λx y v v' G H k Z R O Y h q=>?_⟩;rcases BC R O Y h with⟨i,j,I,F,J⟩|⟨p,xs,I,F,J,h4,h5⟩|⟨a,o,I,F,J⟩|⟨p,vs,d,ds,I,F,J,h4,h5,h6,h7,h8⟩
  ·grind
  ·exact .inr (.inl ⟨p,xs,I,F,J,h4,q _ h5⟩)
  ·exact .inr (.inr (.inl ⟨a,o,I,F,q _ J⟩))
  ·exact .inr (.inr (.inr ⟨p,vs,d,ds,I,F,J,h4,h5,h6,h7,q _ h8⟩))
 |Lt=>
  refine⟨_,oM,λx y v v' G H k Z R O Y h q=>?_⟩;obtain⟨i,j,rfl,rfl⟩|⟨z,_⟩:=Pu h
  rotate_left
  ·cases z
  cases R;cases O;exact⟨_,_,rfl,rfl,q _ h⟩
 |LtE=>
  refine⟨_,nM.or EU,λx y v v' G H k Z R O Y h q=>?_⟩;obtain⟨i,j,rfl,rfl⟩|⟨_,i,j,rfl,rfl⟩:=Pu h
  ·cases R;cases O;exact .inl ⟨_,_,rfl,rfl,q _ h⟩
  ·cases R;cases O;exact .inr ⟨_,_,rfl,rfl,q _ h⟩
 |Gt=>
  refine⟨_,qN,λx y v v' G H k Z R O Y h q=>?_⟩;obtain⟨i,j,rfl,rfl⟩|⟨z,_⟩:=Pu h
  rotate_left
  ·cases z
  cases R;cases O;exact⟨_,_,rfl,rfl,q _ h⟩
 |GtE=>
  refine⟨_,pN,λx y v v' G H k Z R O Y h q=>?_⟩;obtain⟨i,j,rfl,rfl⟩|⟨z,_⟩:=Pu h
  rotate_left
  ·cases z
  cases R;cases O;exact⟨_,_,rfl,rfl,q _ h⟩

def GN   (Z:Om X o)(ha:PE X a (lE X ta))(hb:PE X b (lE X tb))(R:Ev o b=ua) :
  PE X (.Compare a [o] [b] pos) (lE X λj G Q E=>ta j G (λx J=>tb j J (λy I=>cmpU o x y I λc=>Q (.bl c) I) E) E):=by
 obtain⟨r,h1,O⟩:=Z;exact(WQ h1 ha hb R).imp λσ H Y h=>lE.two h λx y v v' G H' Q rx ry F q lv=>O x y v v' G H' _ Y rx ry F q λc q=>lv.bl F q
def DQ   (ho:Om X o)(za:Om X o')(ha:PE X a (lE X ta))(hb:PE X b (lE X tb))(hc:PE X c (lE X tc))(hm:uv [o,o'] [b,c]=ua) :
  PE X (.Compare a [o,o'] [b,c] pos) (lE X λF G Q E=>ta F G (λx G1=>tb F G1 (λy O=>cmpU o x y O λt=>if t=la then tc F O (λz G3=>cmpU o' y z G3 λt'=>Q (.bl t') G3) E else Q (.bl ua) O) E) E):=by
 obtain⟨r,h1,h2⟩:=ho;obtain⟨r',xa,ja⟩:=za;refine(aT h1 xa ha hb hc hm).imp λσ H Q0 h=>?_;obtain⟨F,G,Q,E,I,hG,h,lv,lx⟩:=h;refine⟨F,G,_,E,I,hG,h,λx v G1 H1 rx J R h1=>?_,lx⟩;refine⟨F,G1,_,E,I.ts (R.ts hG),J,h1,λy v' O H2 ry j Y h3=>?_,lx.fr R⟩;refine h2 x y v v' O H2 _ _ (rx.ts (Y.ts J)) ry j h3 λt q=>⟨t,rfl,?_⟩;cases t with
 |false=>
  rw[if_neg Ld]at q ⊢;exact(lv.fr (R.trans Y)).bl j q
 |true=>
  rw[if_pos rfl]at q ⊢;refine⟨F,O,_,E,(I.ts (R.ts hG)).ts (Y.ts J),j,q,λz v3 G3 H3 rz Z f3 h4=>?_,lx.fr (R.trans Y)⟩;exact ja y z v' v3 G3 H3 _ Q0 (ry.ts (f3.ts j)) rz Z h4 λc q=>(lv.fr ((R.trans Y).trans f3)).bl Z q
def Hu  {X: Cx}(y:RU X.K H x v)(I:HR X.K H G)(h:truU x G k):∃b,TruV X.K v H b/\k b:=by
 cases x<;>try exact h.elim
 ·cases y;exact⟨_,rfl,h⟩
 ·cases y;exact⟨_,rfl,h⟩
 ·cases y;exact⟨_,rfl,h⟩
 ·cases y;exact⟨_,⟨h.1,rfl⟩,h.2⟩
 ·obtain⟨a,F,rfl,e,j⟩:=y;exact⟨_,.inr (.inl ⟨F,.of e,rfl⟩),by rw[<- j.isEmpty];exact h⟩
 ·cases y;unfold truU at h;dsimp only at h;split at h
  ·rename_i g;obtain⟨F,e,j⟩:=I.lst g;exact⟨_,.inl ⟨F,.of e,rfl⟩,by rw[<- j.isEmpty];exact h⟩
  ·rename_i g;obtain⟨O,F,e,j⟩:=I _ _ g;exact⟨_,.inl ⟨F,.inl (.inr ⟨O,e⟩),rfl⟩,by rw[<- j.isEmpty];exact h⟩
  ·rename_i J g;obtain⟨l,e,j⟩:=I _ _ g;refine⟨_,.inr (.inr ⟨l,e,rfl⟩),?_⟩;cases J with
   |nil=>cases j;exact h
   |cons p r=>obtain⟨v,R,rfl,_⟩:=j;exact h
  lia
def RN  (Y:PE X a (lE X ta))(Z:∀j,se a X.env j=(do let v <- j;re a.pos;Ec [v] (Ii v))):PT X a (lT X λy G Q E=>ta y G (λx F=>truU x F λb=>Q b F) E):=by
 refine(qU Y Z).imp λσ H Q0 h=>?_;obtain⟨y,G,Q,E,J,O,h,lv,lx⟩:=h;refine⟨y,G,_,E,J,O,h,λx v F H1 rx I f1 R=>?_,lx⟩;obtain⟨b,h2,h3⟩:=Hu rx I R
 grind
def HP   (ho:Om X o)(ha:PE X a (lE X ta))(hb:PE X b (lE X tb))(hm:Ev o b=ua) :
  PT X (.Compare a [o] [b] pos) (lT X λI G Q E=>ta I G (λx R=>tb I R (λy j=>cmpU o x y j λc=>truU (.bl c) j λc=>Q c j) E) E):=by
 obtain⟨r,Z,h2⟩:=ho;refine(kR Z ha hb hm).imp λσ H Q0 h=>?_;obtain⟨I,G,Q,E,J,hG,h,lv,lx⟩:=h;refine⟨I,G,_,E,J,hG,h,λx v R H1 rx O Y Z=>?_,lx⟩;refine⟨I,R,_,E,J.ts (Y.ts hG),O,Z,λy v' j H2 ry F f2 h3=>?_,lx.fr Y⟩;exact h2 x y v v' j H2 _ _ (rx.ts (f2.ts O)) ry F h3 λt q=>⟨t,rfl,lv t j H2 F (Y.trans f2) q⟩
def tS   (ho:Om X o)(ja:Om X o')(ha:PE X a (lE X ta))(hb:PE X b (lE X tb))(hc:PE X c (lE X tc))(hm:uv [o,o'] [b,c]=ua) :
  PT X (.Compare a [o,o'] [b,c] pos) (lT X λI G Q E=>ta I G (λx G1=>tb I G1 (λy F=>cmpU o x y F λt=>if t=la then tc I F (λz Y=>cmpU o' y z Y λt'=>truU (.bl t') Y λc=>Q c Y) E else truU (.bl ua) F λc=>Q c F) E) E):=by
 obtain⟨r,h1,h2⟩:=ho;obtain⟨r',za,va⟩:=ja;refine(pU h1 za ha hb hc hm).imp λσ H Q0 h=>?_;obtain⟨I,G,Q,E,J,hG,h,lv,lx⟩:=h;refine⟨I,G,_,E,J,hG,h,λx v G1 H1 rx O R h1=>?_,lx⟩;refine⟨I,G1,_,E,J.ts (R.ts hG),O,h1,λy v' F H2 ry j Z h3=>?_,lx.fr R⟩;refine h2 x y v v' F H2 _ _ (rx.ts (Z.ts O)) ry j h3 λt q=>⟨t,rfl,?_⟩;cases t with
 |false=>
  rw[if_neg Ld]at q ⊢;exact⟨ua,rfl,lv ua F H2 j (R.trans Z) q⟩
 |true=>
  rw[if_pos rfl]at q ⊢;refine⟨I,F,_,E,(J.ts (R.ts hG)).ts (Z.ts O),j,q,λz v3 Y H3 rz xa f3 h4=>?_,lx.fr (R.trans Z)⟩;exact va y z v' v3 Y H3 _ _ (ry.ts (f3.ts j)) rz xa h4 λc q=>⟨c,rfl,lv c Y H3 xa ((R.trans Z).trans f3) q⟩
def VQ  {rest:List La}(ha:PE X a sa)(hb:PE X (.BoolOp .And (b::rest) pos) sb):PE X (.BoolOp .And (a::b::rest) pos) (λF H Q=>sa F H λx y=>∃k,TruV X.K x y k/\if k=la then sb F y Q else Q x y):=by
 intro j s F H Q I h;refine PyProof.Rows.BoolOp_and (Mb (ha j s F H _ I h) λv s1 ⟨x,y,Y,r1,k,hk,q1⟩=>?_);refine Mb (xu j s1 F y x v (λc J=>c=k/\J=y) Y r1 ⟨k,hk,rfl,rfl⟩) λc s2 ⟨J,O,Z,R⟩=>?_;subst Z R;cases c with
 |true=>exact hb j s2 F J Q O q1
 |false=>exact⟨x,J,O,r1,q1⟩
def YO  {rest:List La}(ha:PE X a sa)(hb:PE X (.BoolOp .Or (b::rest) pos) sb):PE X (.BoolOp .Or (a::b::rest) pos) (λF H Q=>sa F H λx y=>∃k,TruV X.K x y k/\if k=la then Q x y else sb F y Q):=by
 intro j s F H Q I h;refine PyProof.Rows.BoolOp_or (Mb (ha j s F H _ I h) λv s1 ⟨x,y,Y,r1,k,hk,q1⟩=>?_);refine Mb (xu j s1 F y x v (λc J=>c=k/\J=y) Y r1 ⟨k,hk,rfl,rfl⟩) λc s2 ⟨J,O,Z,R⟩=>?_;subst Z R;cases c with
 |true=>exact⟨x,J,O,r1,q1⟩
 |false=>exact hb j s2 F J Q O q1
def wO  {rest:List La}(ha:PE X a (lE X ta))(hb:PE X (.BoolOp .And (b::rest) pos) (lE X tb)):PE X (.BoolOp .And (a::b::rest) pos) (lE X λy G Q E=>ta y G (λx F=>truU x F λc=>if c=la then tb y F Q E else Q x F) E):=by
 refine(VQ ha hb).imp λσ H Q0 h=>?_;obtain⟨y,G,Q,E,I,R,h,Y,lx⟩:=h;refine⟨y,G,_,E,I,R,h,λx v F H1 Z j J h1=>?_,lx⟩;obtain⟨k,h2,O⟩:=Hu Z j h1;refine⟨k,h2,?_⟩;cases k with
 |true=>rw[if_pos rfl]at O ⊢;exact⟨y,F,Q,E,I.ts (J.ts R),j,O,Y.fr J,lx.fr J⟩
 |false=>rw[if_neg Ld]at O ⊢;exact(Y.fr J).here Z j O
def u_or  {rest:List La}(ha:PE X a (lE X ta))(hb:PE X (.BoolOp .Or (b::rest) pos) (lE X tb)):PE X (.BoolOp .Or (a::b::rest) pos) (lE X λy G Q E=>ta y G (λx F=>truU x F λc=>if c=la then Q x F else tb y F Q E) E):=by
 refine(YO ha hb).imp λσ H Q0 h=>?_;obtain⟨y,G,Q,E,I,R,h,Y,lx⟩:=h;refine⟨y,G,_,E,I,R,h,λx v F H1 Z j J h1=>?_,lx⟩;obtain⟨k,h2,O⟩:=Hu Z j h1;refine⟨k,h2,?_⟩;cases k with
 |true=>rw[if_pos rfl]at O ⊢;exact(Y.fr J).here Z j O
 |false=>rw[if_neg Ld]at O ⊢;exact⟨y,F,Q,E,I.ts (J.ts R),j,O,Y.fr J,lx.fr J⟩
def ON  (ha:PE X a (lE X ta)):PE X (.UnaryOp .Not a pos) (lE X λJ G Q E=>ta J G (λx O=>truU x O λb=>Q (.bl (!b)) O) E):=by
 intro j s Z H Q0 I h;obtain⟨J,G,Q,E,R,hG,h,lv,lx⟩:=h;refine PyProof.Rows.UnaryOp_ (Mb (ha j s Z H (λv y=>∃k,TruV X.K v y k/\Q0 (.bl (!k)) y) I ⟨J,G,_,E,R,hG,h,λx v O y rx F f1 h1=>?_,lx⟩) λv s1 ⟨x,y,I1,r1,k,hk,q1⟩=>?_)
 ·obtain⟨k,h2,h3⟩:=Hu rx F h1;exact⟨k,h2,(lv.fr f1).bl F h3⟩
 ·refine PyProof.Rows.not_of (Mb (xu j s1 Z y x v (λc Y=>c=k/\Y=y) I1 r1 ⟨k,hk,rfl,rfl⟩) λc s2 ⟨Y,I2,e1,e2⟩=>?_);subst e1 e2;exact⟨.bl (!c),Y,I2,rfl,q1⟩
def KP  {tB: UT}(hc:PT X c (lT X tA)){tC:UT}(ha:PT X a (lT X tB))(hb:PT X b (lT X tC)):PT X (.IfExp c a b pos) (lT X λF G Q E=>tA F G (λt j=>if t=la then tB F j Q E else tC F j Q E) E):=by
 intro y s σ H Q0 I h;obtain⟨F,G,Q,E,Y,hG,h,lv,lx⟩:=h;show wpAny _ _ (do if <- se c X.env (Xa c X.env) then se a X.env (Xa a X.env) else se b X.env (Xa b X.env)) _ _ s
 refine ub (Mb (hc y s σ H (λt Z=>∃j,HR X.K Z j/\Fr H G Z j/\if t=la then tB F j Q E else tC F j Q E) I ⟨F,G,_,E,Y,hG,h,λt j Z J O h1=>⟨j,J,O,h1⟩,lx⟩) λt s1 ⟨Z,I1,j,J,O,h1⟩=>?_)
 cases t with
 |true=>exact ha y s1 σ Z Q0 I1 ⟨F,j,Q,E,Y.ts (O.ts hG),J,h1,λb G2 H2 R f2 h2=>lv b G2 H2 R (O.trans f2) h2,lx.fr O⟩
 |false=>exact hb y s1 σ Z Q0 I1 ⟨F,j,Q,E,Y.ts (O.ts hG),J,h1,λb G2 H2 R f2 h2=>lv b G2 H2 R (O.trans f2) h2,lx.fr O⟩
def MP  (ha:PT X a (lT X tA)):PT X (.UnaryOp .Not a pos) (lT X λj G Q E=>tA j G (λb y=>Q (!b) y) E):=by
 refine(YC ha).imp λσ H Q0 h=>?_;obtain⟨j,G,Q,E,I,J,h,Z,lx⟩:=h;exact⟨j,G,_,E,I,J,h,λb y R F O Y=>Z (!b) y R F O Y,lx⟩
def BQ  {tB: UT}{rest:List La}(ha:PT X a (lT X tA))(hb:PW X (.BoolOp .And (b::rest) pos) (lT X tB)):PW X (.BoolOp .And (a::b::rest) pos) (lT X λj G Q E=>tA j G (λc F=>if c=la then tB j F Q E else Q ua F) E):=by
 refine(pw_and ha hb).imp λσ H Q0 h=>?_;obtain⟨j,G,Q,E,y,R,h,lv,lx⟩:=h;refine⟨j,G,_,E,y,R,h,λc F H1 O J Y=>?_,lx⟩;cases c with
 |false=>grind
 |true=>rw[if_pos rfl]at Y ⊢;exact⟨j,F,Q,E,y.ts (J.ts R),O,Y,λb G2 H2 I Z h2=>lv b G2 H2 I (J.trans Z) h2,lx.fr J⟩
def PN  {tB: UT}{rest:List La}(ha:PT X a (lT X tA))(hb:PW X (.BoolOp .Or (b::rest) pos) (lT X tB)):PW X (.BoolOp .Or (a::b::rest) pos) (lT X λj G Q E=>tA j G (λc F=>if c=la then Q la F else tB j F Q E) E):=by
 refine(pw_or ha hb).imp λσ H Q0 h=>?_;obtain⟨j,G,Q,E,y,R,h,lv,lx⟩:=h;refine⟨j,G,_,E,y,R,h,λc F H1 O J Y=>?_,lx⟩;cases c with
 |true=>grind
 |false=>rw[if_neg Ld]at Y ⊢;exact⟨j,F,Q,E,y.ts (J.ts R),O,Y,λb G2 H2 I Z h2=>lv b G2 H2 I (J.trans Z) h2,lx.fr J⟩
def IN  (Z:PT X c (lT X tA))(ha:PE X a (lE X ta))(hb:PE X b (lE X tb)):PE X (.IfExp c a b pos) (lE X λj G Q E=>tA j G (λt I=>if t=la then ta j I Q E else tb j I Q E) E):=by
 refine(cT Z ha hb).imp λσ H Q0 h=>?_;obtain⟨j,G,Q,E,y,R,h,Y,lx⟩:=h;refine⟨j,G,_,E,y,R,h,λc I H1 J F O=>?_,lx⟩;cases c with
 |true=>rw[if_pos rfl]at O ⊢;exact⟨j,I,Q,E,y.ts (F.ts R),J,O,Y.fr F,lx.fr F⟩
 |false=>rw[if_neg Ld]at O ⊢;exact⟨j,I,Q,E,y.ts (F.ts R),J,O,Y.fr F,lx.fr F⟩
end Z

namespace L2
open PySem PySem.Spec PyProof.Rows

def vO  (K:Nb)(R I:TE):TE:=λJ H Q=>R J H λx O=>I J O λy j=>(∃a F,x=.ref a/\Ae K j a F/\
 ((y=.int 1/\∀p,j p=Aa->Q (.ref p) (upd j p (.lst F)))\/(y=.int (-1)/\∀p,j p=Aa->Q (.ref p) (upd j p (.lst F.reverse)))))\/
 ∃a F,x=.ref a/\Bd K j a F/\y=.int (-1)/\∀p,j p=Aa->Q (.ref p) (upd j p (.tup F.reverse))
def YQ  {st: La}(he:PE X e te)(hs:PE X st xa):PE X (.Subscript e (.Slice Aa Aa (ia st) p2) pos) (vO X.K te xa):=by
 intro j s Y H Q I h;refine Vo (Mb (he j s Y H _ I h) λv s1 ⟨x,H1,I1,r1,q1⟩=>?_);refine wpAny_Slice ?_;rw[dA,evalPart_some];refine Wb (Wb ?_);refine Mb (hs j s1 Y H1 _ I1 q1) λu F ⟨y,H3,I3,r3,q3⟩=>?_;have J:Oa X j Y H3 { F with heap:=F.heap.push { cls:=.type "slice",data:=.fields #[.none,.none,u] } }:=I3.kept (t':=F.toks) λb ob q=>Nc _ q
 rcases q3 with⟨a,Z,rfl,hx,q3⟩|⟨a,Z,rfl,hx,rfl,q⟩
 ·cases r1;obtain⟨za,r,O,hz⟩:=J.list hx;have R:=r.length;show wpAny (Ka X.prog X.w) X.A (Gv e (.Slice Aa Aa (ia st) p2) (.ref a) (.ref F.heap.objs.size)) (EP X j Y Q) X.xe { F with heap:=F.heap.push { cls:=.type "slice",data:=.fields #[.none,.none,u] } }
  refine uk (ops:=[.ref a,.ref F.heap.objs.size]) O.isList.typeIs Kf.lookup ?_ (by with_unfolding_all rfl)
  rcases q3 with⟨rfl,q⟩|⟨rfl,q⟩
  ·obtain⟨t,rfl⟩:=r3;refine DA O.isList (je.new ..) .none .none (.int 1 t) (by decide) ?_ (by simp_all)
   rw[tT];refine⟨.ref _,_,J.laid (t':=F.toks) (o:=.lst Z) (λb ob q=>Nc _ q) (Fb _) ?_,rfl,q _ (J.hok.fresh (Fb _))⟩;exact⟨hz,_,0,r,Df _ rfl⟩
  ·obtain⟨t,rfl⟩:=r3;refine DA O.isList (je.new ..) .none .none (.int (-1) t) (by decide) ?_ (by simp_all)
   rw[vU];refine⟨.ref _,_,J.laid (t':=F.toks) (o:=.lst Z.reverse) (λb ob q=>Nc _ q) (Fb _) ?_,rfl,q _ (J.hok.fresh (Fb _))⟩;exact⟨by simp_all,_,0,r.rev,Df _ rfl⟩
 ·cases r1;obtain⟨t,rfl⟩:=r3;obtain⟨za,r,O,hz⟩:=J.tuple hx;have R:=r.length;show wpAny (Ka X.prog X.w) X.A (Gv e (.Slice Aa Aa (ia st) p2) (.ref a) (.ref F.heap.objs.size)) (EP X j Y Q) X.xe { F with heap:=F.heap.push { cls:=.type "slice",data:=.fields #[.none,.none,.int (-1) t] } }
  refine uk (ops:=[.ref a,.ref F.heap.objs.size]) O.typeIs vj.lookup ?_ (by with_unfolding_all rfl)
  refine HT.getItem_tuple_rev O (je.new ..) ?_ (by lia)
  refine⟨.ref _,_,J.laid (t':=F.toks) (o:=.tup Z.reverse) (λb ob q=>Nc _ q) (Fb _) ?_,rfl,q _ (J.hok.fresh (Fb _))⟩;exact⟨by simp_all,_,r.rev,TupD.new _ _⟩
end L2
namespace Z
open PySem L2
section
variable {X:Cx}{pos:Pos}{a b e:La}{es:List La}{ta tb te:UE}{ts:UA}
def Mj  : PA X [] (lA X λ_ G Q _=>Q [] G):=by
 refine Ln.imp λO H J h=>?_;obtain⟨I,G,Q,E,y,j,h,F,lx⟩:=h;exact F [] [] G H rfl j (Fr.refl _ _) h
def Ui  (ha:PE X e (lE X te))(hr:PA X es (lA X ts))(hs:gc (e::es) X.env=(ua,Xa e X.env)::gc es X.env):PA X (e::es) (lA X λj G Q E=>te j G (λx R=>ts j R (λxs J=>Q (x::xs) J) E) E):=by
 refine(Vi ha hr hs).imp λσ H Q0 h=>?_;obtain⟨j,G,Q,E,y,hG,h,lv,lx⟩:=h;refine⟨j,G,_,E,y,hG,h,λx v R H1 rx F Y h1=>?_,lx⟩;refine⟨j,R,_,E,y.ts (Y.ts hG),F,h1,λxs vs J H2 O I Z h2=>?_,lx.fr Y⟩;exact lv (x::xs) (v::vs) J H2 ⟨v,vs,rfl,rx.ts (Z.ts F),O⟩ I (Y.trans Z) h2
def UN   (h:PA X es (lA X ts)):PE X (.Tuple es k pos) (lE X λj G Q E=>ts j G (λus y=>us.length<=db/\Q (.tup us) y) E):=
 (Lx h).imp λZ H O h=>lE.many h λus R G Y Q r F q J=>⟨by rw[<- r.length];exact q.1,λp I=>J.tup I r F q.2⟩
def JN  (h:PA X es (lA X ts)):PE X (.List es pos) (lE X λj G Q E=>ts j G (λus y=>us.length<=db/\newO y (.lst us) Q) E):=
 (WC h).imp λZ H O h=>lE.many h λus R G Y Q r F q J=>⟨by rw[<- r.length];exact q.1,λp I=>J.lst I r F q.2⟩
def rDix  : R2:=λx y H Q=>∃a v,x=.ref a/\DGet H a y (ia v)/\Q v H
def oR  (hu:X.A.units+1<bc):Hi X rDix:=by
 intro J j O s σ H x y v u Q I rx Y h R;obtain⟨a,w,rfl,g,q⟩:=h;cases rx;exact PyProof.Rows.tail_any (SV I g) PySem.F.slot_dict_getitem.lookup (oU hu I g Y λw' s3 Z F=>⟨w,H,Z,F,q⟩) R
def EC {H:Hp}{G:Gp}{y:U}{F:V}{Q:K1}{j:VK}{a:Ba}{xs:List U}{vs:List V}(h:match y with|.int i=>(match atI xs i with|some u=>Q u G|none=>False)|_=>False)
  (R:RU X.K H y F) (I:HR X.K H G) (Y:LV X H G Q j) (O:Ae X.K H a vs) (rs:Pb X.K H xs vs):Ow X.K (.ref a) F H j:=by
 cases y with
 |int i=>
  cases R;dsimp only at h;split at h
  ·rename_i u e;obtain⟨w,J,r⟩:=rs.atI e;exact .inl ⟨_,vs,_,w,rfl,rfl,O,J,Y.here r I h⟩
  lia
 |_=>lia
def CP        (rx:RU X.K H x v)(J:RU X.K H y v')(j:HR X.K H G)(h:bf x y G Q)(O:LV X H G Q Q0):Ow X.K v v' H Q0\/rDix v v' H Q0:=by
 cases x<;>try exact h.elim
 ·cases y<;>try exact h.elim
  cases rx;cases J;obtain⟨h1,h⟩:=h;split at h
  ·rename_i c e1;exact .inl (.inr (.inr ⟨_,_,c,rfl,rfl,h1,e1,O.str j h⟩))
  lia
 ·cases y<;>try exact h.elim
  obtain⟨a,Z,rfl,e,F⟩:=rx;cases J;unfold bf at h;dsimp only at h;split at h
  ·rename_i u e1;obtain⟨w,I,r⟩:=F.atI e1;exact .inl (.inr (.inl ⟨a,Z,_,w,rfl,rfl,.of e,I,O.here r j h⟩))
  lia
 ·cases rx;unfold bf at h;dsimp only at h;split at h
  ·rename_i g;obtain⟨Z,e,F⟩:=j.lst g;exact .inl (EC h J j O (.of e) F)
  ·rename_i g;obtain⟨ob,Z,e,F⟩:=j _ _ g;exact .inl (EC h J j O (.inl (.inr ⟨ob,e⟩)) F)
  ·rename_i R g;obtain⟨l,e,F⟩:=j _ _ g;split at h
   ·rename_i k Y;have:=Hj J Y;subst this;split at h
    ·rename_i u eu;have:=Vn k F;rw[eu]at this;obtain⟨w,I,r⟩:=this;exact .inr ⟨_,w,rfl,by rw[<- I];exact DGet.k e,O.here r j h⟩
    lia
   lia
  ·rename_i R g;obtain⟨l,e,F⟩:=j _ _ g;split at h
   ·rename_i ys;obtain⟨b,bs,rfl,eb,rb⟩:=J;split at h
    ·rename_i k Y;have:=nu rb Y;subst this;split at h
     ·rename_i u eu;have:=Vn k F;rw[eu]at this;obtain⟨w,I,r⟩:=this;exact .inr ⟨_,w,rfl,by rw[<- I];exact DGet.t e eb,O.here r j h⟩
     lia
    lia
   lia
  ·rename_i o R g;obtain⟨l,e,F⟩:=j _ _ g;split at h
   ·rename_i k Y;have:=Hj J Y;subst this;split at h
    ·rename_i u eu;have:=Vn k F;rw[eu]at this;obtain⟨w,I,r⟩:=this;exact .inr ⟨_,w,rfl,by rw[<- I];exact .inl ⟨l,k,.inr ⟨o,e⟩,rfl,rfl⟩,O.here r j h⟩
    lia
   lia
  lia
def u_ix  (hu:X.A.units+1<bc)(Y:PE X a (lE X ta))(Z:PE X b (lE X tb))(hs:Wx b):PE X (.Subscript a b pos) (lE X λj G Q E=>ta j G (λx F=>tb j F (λy J=>bf x y J Q) E) E):=
 (qM ((DP (X:=X)).or (oR hu)) Y Z hs).imp λσ H Q0 h=>lE.two h λx y v v' G H' Q rx O I q R=>CP rx O I q R
def u_no  : PO X Aa (lO X λ_ G Q _=>Q Aa G):=dR.imp λO H J h=>by
 obtain⟨I,G,Q,E,y,j,h,F,lx⟩:=h;exact F Aa G H j (Fr.refl _ _) h
def u_so (R:PE X e (lE X te)):PO X (ia e) (lO X λj G Q E=>te j G (λx F=>match x with|.int i=>Q (ia i) F|_=>False) E):=(eR R).imp λσ H Z h=>by
 obtain⟨j,G,Q,E,y,J,h,lv,lx⟩:=h;refine⟨j,G,_,E,y,J,h,λx v F H1 Y O f1 I=>?_,lx⟩;dsimp only at I;split at I
 ·cases Y
  grind
 lia
def u_sl     (ha:PE X e (lE X te))(hl:PO X lo (lO X tl))(hh:PO X hi (lO X th)) :
  PE X (.Subscript e (.Slice lo hi Aa p2) pos) (lE X λO G Q E=>te O G (λx G1=>tl O G1 (λl G2=>th O G2 (λh G3=>Wh x l h G3 Q) E) E) E):=by
 refine(eT (dh.or (YR (X:=X)) (dh.or XR uQ)) ha hl hh).imp λσ H Q0 h=>?_;obtain⟨O,G,Q,E,R,hG,h,lv,lx⟩:=h;refine⟨O,G,_,E,R,hG,h,λx v G1 H1 rx Y f1 h1=>?_,lx⟩;refine⟨O,G1,_,E,R.ts (f1.ts hG),Y,h1,λl G2 H2 Z f2 h2=>?_,lx.fr f1⟩;refine⟨O,G2,_,E,(R.ts (f1.ts hG)).ts (f2.ts Y),Z,h2,λu G3 H3 j f3 F=>?_,lx.fr (f1.trans f2)⟩;have I:=lv.fr ((f1.trans f2).trans f3);have J:=rx.ts ((f2.ts Y).trans (f3.ts Z));cases x<;>try exact F.elim
 ·cases J;exact .inr (.inr ⟨_,rfl,F.1,I.str j F.2⟩)
 ·obtain⟨a,y,rfl,ea,rs⟩:=J;by_cases z:HT.sIx y.length 0 l=0/\HT.sIx y.length y.length u=y.length
  ·refine .inl (.inr ⟨a,y,rfl,.of ea,z,?_⟩);refine I.here (w:=.tup _) ⟨a,y,rfl,ea,?_⟩ j F;have e2:cutV y l u=y:=by unfold cutV;simp_all
   have:=rs.cut l u
   lia
  ·exact .inl (.inl ⟨a,y,rfl,.of ea,z,λp hp=>I.tup hp (rs.cut l u) j F⟩)
 ·cases J;unfold Wh at F;dsimp only at F;split at F
  ·rename_i us eu;obtain⟨y,sq,rs⟩:=j.ls eu;exact .inr (.inl ⟨_,y,rfl,sq,λp hp=>I.lst hp (rs.cut l u) j F⟩)
  lia
def QN    (ha:PE X a (lE X ta))(hb:PE X st (lE X tb)):PE X (.Subscript a (.Slice Aa Aa (ia st) p2) pos) (lE X λZ G Q E=>ta Z G (λx G1=>tb Z G1 (λy G2=>revU x y G2 Q) E) E):=by
 refine(YQ ha hb).imp λσ H Q0 h=>lE.two h λx y v v' G H' Q Y R I q O=>?_;cases x<;>try exact q.elim
 all_goals cases y<;>try exact q.elim
 ·obtain⟨a,J,rfl,ea,F⟩:=Y;cases R;obtain⟨rfl,q⟩:=q;exact .inr ⟨a,J,rfl,.of ea,rfl,λp j=>O.tup j F.reverse I q⟩
 ·cases Y;cases R;unfold revU at q;dsimp only at q;split at q
  ·rename_i us eu;obtain⟨J,sq,F⟩:=I.ls eu;obtain⟨hi,q⟩:=q;rcases hi with rfl|rfl
   ·exact .inl ⟨_,J,rfl,sq,.inl ⟨rfl,λp j=>O.lst j F I q⟩⟩
   ·exact .inl ⟨_,J,rfl,sq,.inr ⟨rfl,λp j=>O.lst j F.reverse I q⟩⟩
  lia
end
end Z

namespace L2
open PySem PySem.Spec PyProof.Rows

end L2
namespace Z
open PySem L2
noncomputable def bltN  : Blt->Str
 |.len => "len" |.repr => "repr" |.min => "min" |.max => "max" |.sum => "sum" |.all => "all" |.any => "any" |.sorted => "sorted" |.int => "int" |.str => "str" |.isi => "isinstance"
noncomputable def bltV  : Blt->Da
 |.len=>.builtin "len" |.repr=>.builtin "repr" |.min=>.builtin "min" |.max=>.builtin "max" |.sum=>.builtin "sum" |.all=>.builtin "all" |.any=>.builtin "any" |.sorted=>.builtin "sorted" |.int=>.type "int" |.str=>.type "str" |.isi=>.builtin "isinstance"
theorem nE    : ∀ns:List Int,Pb K H (ns.map .int) (ns.map V.int)
 |[]=>rfl
 |_::r=>⟨_,_,rfl,rfl,nE r⟩
theorem HD     : ∀{kvs:List (κ×U)} {l },Jd K H kvs l->kvs.map (·.1)=l.map (·.1)
 |[],_,h=>by cases h;rfl
 |(k,u)::r,_,h=>by
  obtain⟨v,y,rfl,_,j⟩:=h;rw[Sd,Sd,HD j]

def Pb.one      (r:Pb K H [u] vs):∃v,vs=[v]/\RU K H u v:=by
 obtain⟨v,y,rfl,r1,j⟩:=r;cases j
 lia
def Pb.two      (r:Pb K H [u,w] vs):∃v j,vs=[v,j]/\RU K H u v/\RU K H w j:=by
 obtain⟨v,F,rfl,r1,y⟩:=r;obtain⟨j,rfl,r2⟩:=y.one
 lia
def uR   K:∀t∈["NoneType", "bool", "int", "str", "list", "tuple", "dict"],∀c∈["bool", "int", "str", "list", "tuple", "dict"],Nv K (.type t) (.type c)=ia (t==c||(t == "bool" && c == "int")):=by
 simp only[List.forall_mem_cons,Ve,false_implies,implies_true,and_true];refine⟨?_,?_,?_,?_,?_,?_,?_⟩<;>refine⟨?_,?_,?_,?_,?_,?_⟩<;>rfl
def qS     (h:Ks x G=ia n):n∈["NoneType", "bool", "int", "str", "list", "tuple", "dict"]:=by
 unfold Ks at h;split at h<;>first|(cases h;decide)|(split at h<;>first|(cases h;decide)|cases h)|cases h
def nR  {X: Cx}(r:RU X.K H x v)(j:HR X.K H G)(h:isiU x G t=ia b):∃F,TyOf X.K H v F/\Nv X.K F (.type t)=ia b:=by
 unfold isiU at h;split at h
 ·rename_i n en;split at h
  ·rename_i I;cases h;refine⟨.type n,?_,uR X.K n (qS en) t I⟩;unfold Ks at en;split at en
   ·cases en;cases r;exact .non
   ·cases en;cases r;exact .bl _
   ·cases en;cases r;exact .int _
   ·cases en;cases r;exact .str _
   ·cases en;obtain⟨a,y,rfl,e,_⟩:=r;exact .tup e
   ·cases r;split at en
    ·rename_i g;cases en;obtain⟨y,e,_⟩:=j.lst g;exact .lst e
    ·rename_i g;cases en;obtain⟨y,e,_⟩:=j _ _ g;exact .dK e
    ·rename_i g;cases en;obtain⟨y,e,_⟩:=j _ _ g;exact .dT e
    lia
   lia
  lia
 lia
def zL  (X:Cx)(b:Blt):Prop:=∃r,mf X (bltV b) r/\∀j F G H Q y,Pb X.K H j F->HR X.K H G->bltU b j G Q->LV X H G Q y->r F H y
def rN   (hr:Room k X.A)(hc:X.calm=la) b:zL X b:=by
 cases b with
 |len=>
  refine⟨_,mf.or (vT (X:=X)) jU,λI vs G H Q Z r F h J=>?_⟩
  change lenU I G Q at h
  obtain _|⟨x,t⟩:=I<;>try exact h.elim
  cases x<;>try exact h.elim
  all_goals obtain _|⟨_,_⟩:=t<;>try exact h.elim
  all_goals obtain⟨v,rfl,r1⟩:=r.one
  ·cases r1;exact .inl ⟨_,_,rfl,⟨h.1,rfl⟩,J.int F h.2⟩
  ·obtain⟨a,Y,rfl,e,O⟩:=r1;exact .inl ⟨_,_,rfl,.inr ⟨Y,.of e,rfl⟩,by rw[<- O.length];exact J.int F h⟩
  ·cases r1;unfold lenU at h;dsimp only at h;split at h
   ·rename_i g;obtain⟨Y,e,O⟩:=F.lst g;exact .inl ⟨_,_,rfl,.inl ⟨Y,.of e,rfl⟩,by rw[<- O.length];exact J.int F h⟩
   ·rename_i g;obtain⟨ob,Y,e,O⟩:=F _ _ g;exact .inl ⟨_,_,rfl,.inl ⟨Y,.inl (.inr ⟨ob,e⟩),rfl⟩,by rw[<- O.length];exact J.int F h⟩
   ·rename_i R g;obtain⟨l,e,O⟩:=F _ _ g;refine .inr ⟨_,l,rfl,e,?_⟩;have:∀{R:List (Sb×U)} {l:List (Sb×V)},Jd X.K H R l->R.length=l.length:=by
     intro R
     induction R with
     |nil=>intro l r;cases r;rfl
     |cons p q ih=>intro l r;obtain⟨v,l',rfl,_,O⟩:=r;simp[ih O]
    rw[<- this O];exact J.int F h
   ·exact h.elim
 |repr=>
  refine⟨_,tV hr,λI vs G H Q Z r F h J=>?_⟩
  change Ol I G Q at h
  obtain _|⟨x,_|⟨_,_⟩⟩:=I<;>try exact h.elim
  obtain⟨v,rfl,r1⟩:=r.one;obtain⟨d,h1,h2,h3⟩:=h;exact⟨v,d,rfl,h1.dv F r1,h2,J.str F h3⟩
 |min=>
  refine⟨_,lU hc,λI vs G H Q Z r F h J=>?_⟩
  change minU I G Q at h
  obtain _|⟨x,t⟩:=I<;>try exact h.elim
  cases x<;>try exact h.elim
  obtain _|⟨y,t⟩:=t<;>try exact h.elim
  cases y<;>try exact h.elim
  obtain _|⟨_,_⟩:=t<;>try exact h.elim
  obtain⟨v,v',rfl,r1,r2⟩:=r.two;cases r1;cases r2;exact⟨_,_,rfl,J.int F h⟩
 |max=>exact⟨λ_ _ _=>False,λ_ _ _ _ _ _ _ _ _ h=>h.elim,λ_ _ _ _ _ _ _ _ h _=>h.elim⟩
 |sum=>
  refine⟨_,wT hc,λI vs G H Q Z r F h J=>?_⟩
  change sumU I G Q at h
  obtain _|⟨x,t⟩:=I<;>try exact h.elim
  cases x<;>try exact h.elim
  all_goals obtain _|⟨_,_⟩:=t<;>try exact h.elim
  obtain⟨v,rfl,r1⟩:=r.one;cases r1;unfold sumU at h;dsimp only at h;split at h
  ·rename_i g;obtain⟨Y,e,O⟩:=F.lst g;split at h
   ·rename_i ns en;have:=O.ints en;subst this;exact⟨_,ns,rfl,.of e,J.int F h⟩
   ·exact h.elim
  ·exact h.elim
 |any=>exact⟨λ_ _ _=>False,λ_ _ _ _ _ _ _ _ _ h=>h.elim,λ_ _ _ _ _ _ _ _ h _=>h.elim⟩
 |all=>exact⟨λ_ _ _=>False,λ_ _ _ _ _ _ _ _ _ h=>h.elim,λ_ _ _ _ _ _ _ _ h _=>h.elim⟩
 |sorted=>
  refine⟨_,iW hc (by have:=hr.un;lia),λI vs G H Q Z r F h J=>?_⟩
  change Rn I G Q at h
  unfold Rn at h;split at h<;>first|exact h.elim|skip
  obtain⟨v,rfl,r1⟩:=r.one;cases r1;split at h<;>first|exact h.elim|skip
  ·rename_i I g;obtain⟨Y,e,O⟩:=F.lst g;obtain⟨ks,za,ja,hl,hk,q⟩:=h;refine⟨_,Y,ks,rfl,.inl (.of e),by rw[<- O.length];exact hl,za,by rw[<- O.length];exact ja,?_,λl π hn hp hs=>?_⟩
   ·rcases hk with⟨ns,rfl,rfl⟩|hk
    ·refine λi v k e1 e2=>?_;rw[Dd]at e2;cases en:ns[i]? with
     |none=>rw[en]at e2;cases e2
     |some n=>
      rw[en]at e2;cases e2;obtain⟨v',e3,r3⟩:=O.get (i:=i) (u:=.int n) (by rw[Dd,en];rfl)
      rw[e1]at e3;cases e3;exact⟨n,r3,rfl⟩
    ·exact hk.elim
   ·rw[<- O.length]at hp hs;refine J.lst hn ?_ F (q π hp hs);have:∀l:List Nat,(∀i∈l,i<I.length)->Pb X.K H (l.map λi=>I.getD i .non) (l.map λi=>Y.getD i .non):=λl=>by
     induction l with
     |nil=>intro _;rfl
     |cons i l ih=>
      intro xa;have hi:=xa i (by simp)
      obtain⟨v',e3,r3⟩:=O.get (Ic hi);refine⟨_,_,rfl,?_,ih λj hj=>xa j (Uc _ hj)⟩;refine(?_:RU X.K H (I.getD i .non) (Y.getD i .non));rw[uj,Ic hi,uj,e3];exact r3
    exact this π λi hi=>Va.mp (hp.mem_iff.mp hi)
 |int=>
  refine⟨_,eU.or sW,λI vs G H Q Z r F h J=>?_⟩
  change intU I G Q at h
  obtain _|⟨x,t⟩:=I<;>try exact h.elim
  cases x<;>try exact h.elim
  all_goals obtain _|⟨_,_⟩:=t<;>try exact h.elim
  all_goals obtain⟨v,rfl,r1⟩:=r.one
  all_goals cases r1
  ·exact .inl (.inr ⟨_,rfl,J.int F h⟩)
  ·exact .inl (.inl ⟨_,rfl,J.int F h⟩)
  ·obtain⟨n,h1,h2,h⟩:=h;exact .inr ⟨_,n,rfl,h1,h2,J.int F h⟩
 |str=>exact⟨λ_ _ _=>False,λ_ _ _ _ _ _ _ _ _ h=>h.elim,λ_ _ _ _ _ _ _ _ h _=>h.elim⟩
 |isi=>
  refine⟨_,RV,λI vs G H Q Z r F h J=>?_⟩
  change Gj I G Q at h
  obtain _|⟨x,_|⟨y,t⟩⟩:=I<;>try exact h.elim
  cases y<;>try exact h.elim
  obtain _|⟨_,_⟩:=t<;>try exact h.elim
  rename_i t;obtain⟨v,v',rfl,r1,r2⟩:=r.two;cases r2;unfold Gj at h;dsimp only at h;split at h
  ·rename_i b eb;obtain⟨tv,h1,h2⟩:=nR r1 F eb;exact⟨v,t,tv,b,rfl,h1,h2,J.bl F h⟩
  ·exact h.elim
def uT   b:Di (bltN b)=ia (bltV b):=by
 cases b with
 |len=>exact PySem.boot_len
 |repr=>exact(by with_unfolding_all rfl)
 |min=>exact PyProof.Rows.boot_min
 |max=>exact PyProof.Rows.boot_max
 |sum=>exact PyProof.Rows.boot_sum
 |any=>exact PyProof.Rows.boot_any
 |all=>exact PyProof.Rows.boot_all
 |sorted=>exact PyProof.Rows.boot_sorted
 |int=>exact PyProof.Rows.boot_int
 |str=>exact PyProof.Rows.boot_str
 |isi=>exact mL
def iO   b:bltN b ≠ "__name__" /\ (bltN b==("__debug__" : Str))=ua:=by cases b<;>decide
def yO       (hb:zL X b)(R:Gl X (bltN b))(Y:X.mg (bltN b)=Aa)(ha:PA X (e::es) (lA X ts))
  (he:gc (e::es) X.env=(ua,Xa e X.env)::gc es X.env) (y:(Xb pos (gc es X.env)).any (·.1)=ua) :
  PE X (.Call (.Name (bltN b) p) (e::es) [] pos) (lE X λJ G Q E=>ts J G (λus O=>bltU b us O Q) E):=by
 obtain⟨r,Z,h2⟩:=hb;have j:∀I H F,lE X (λJ G Q E=>ts J G (λus O=>bltU b us O Q) E) I H F->Lw r (lA X ts) I H F:=λI H F h=>lE.many h λus vs G H' Q rs hG q lv=>h2 us vs G H' Q F rs hG q lv;have hv:=uT b;obtain⟨n1,n2⟩:=iO b;cases b
 all_goals first
  |exact(Vu Z R Y hv ha n1 n2 he y).imp j
  |exact(Zu Z R Y hv ha n1 n2 he y).imp j
noncomputable def mthN  : Mth->Str
 |.append => "append" |.extend => "extend" |.insert => "insert" |.pop => "pop" |.reverse => "reverse" |.index => "index" |.join => "join" |.get => "get" |.split => "split" |.setd => "setdefault" |.clear => "clear" |.count => "count" |.upper => "upper"
section
variable {X:Cx}
def Pb.mk        (r:RU K H u v)(rs:Pb K H us vs):Pb K H (u::us) (v::vs):=⟨v,vs,rfl,r,rs⟩
structure TW (X:Cx)(m:Mth)(T id:String):Prop where
 pa:PlainAttrs T
 sl:Slot T (mthN m) id
 ty:typeOf (.builtin id)=pure (.type "method_descriptor")
def Km  (X:Cx)(m:Mth):Prop:=∀x I T y,Ef m x I=ia (T,y)->TW X m T y/\(∀v j,RU X.K j x v->HR X.K j I->Hw X.K T v j)/\
 ∃r,Lm X y r/\∀F v O G H Q J,RU X.K H x v->Pb X.K H F O->HR X.K H G->Ue m x F G Q->LV X H G Q J->r v O H J
def Vx     (g:G a=ia (.lst us)):∀v j,RU X.K j (.loc a) v->HR X.K j G->Hw X.K "list" v j:=λv j r F=>by
 cases r;obtain⟨y,e,_⟩:=F.lst g;exact .inl ⟨rfl,y,.of e⟩
def SU  : Km X .append:=by
 intro x Z T id h;dsimp only[Ef]at h;cases x<;>try (cases h;done)
 dsimp only at h;split at h
 ·rename_i g;cases h;refine⟨⟨LA,PySem.F.slot_list_append,PySem.F.type_list_append⟩,Vx g,_,oF,λus v vs G H Q Q0 Y J j h R=>?_⟩;cases Y;dsimp only[Ue]at h;obtain _|⟨_,_|⟨_,_⟩⟩:=us<;>try exact h.elim
  unfold Xx at h;dsimp only at h;split at h
  ·rename_i F;obtain⟨I,e,r⟩:=j.lst F;obtain⟨y,rfl,O⟩:=J.one;refine⟨_,I,y,rfl,rfl,e,by rw[<- r.length];exact h.1,?_⟩
   exact R.wl F (r.append (Pb.mk (us:=[]) (vs:=[]) O rfl)) j (w:=.non) rfl h.2
  ·exact h.elim
 ·cases h
def uU  (K:Nb):V->List V->Hp->VK->Prop:=λx F H Q=>∃l b y j,x=.ref l/\F=[.ref b]/\H l=ia (.lst y)/\(H b=ia (.lst j)\/Bd K H b j)/\y.length+j.length<=db/\Q .non (upd H l (.lst (y++j)))
open PySem.AutoSeq1 in
def iQ {o2:Obj}(l:Ba)(items:Array Da)(n:Nat)(b:Ba)(j:Array Da)(n2:Nat)(xa:¬(!items.isEmpty&&Ho (items.size+j.size))=la)(I:items.size<=db)(O:items.size+j.size<=db+1)(F:o2.cls=.type "tuple")(y:o2.data=.seq j n2) :
  Meets (Tb.«list.extend» ⟨[.ref l,.ref b],[]⟩) (λ_ R s=>s.heap.get? l=ia { cls:=.type "list",dict:=Aa,data:=.seq items n,slots:=#[] }/\s.heap.get? b=ia o2/\R (.ok (.ret cf)) { s with heap:=s.heap.update l (fj λx=>x++j),toks:=s.toks }):=
 .of_wp λZ w A R s h=>by
  obtain⟨hp,g,d,tk,os⟩:=s;obtain⟨Y,hb,h⟩:=h;obtain⟨c2,d2,za,ja⟩:=o2;dsimp only at F y;subst F y;have f1:=idx_int;have f2:=sub_tuple_tuple;have f3:=sub_list_list;have f4:=sub_tuple_list;have f5:=sub_list_tuple;have J:(items++j).size<=db+1:=by rw[Array.size_append];exact O
  wp_walk using (wpAny_updateSeq Y rfl (hz:=I) (_hz':=J)),Eb Y,Eb hb
  exact⟨_,rfl,h⟩
def EV  : Yr X "list.extend" (uU X.K):=by
 intro J s σ H x vs v us Q I rx rv h;obtain⟨l,b,xs,zs,rfl,rfl,Z,hB,hz,q⟩:=h;rcases hB with hB|hB
 ·exact QU J s σ H _ _ v us Q I rx rv ⟨l,b,xs,zs,rfl,rfl,Z,hB,hz,q⟩
 cases rx;obtain⟨u,rfl,ru⟩:=rv.one;cases ru;obtain⟨z,y,n,r,hl,e⟩:=I.lstM Z;obtain⟨j,r2,⟨o2,e2,R,n2,O⟩,xa⟩:=I.tuple hB;have l2:=r2.length;have Y:y.toArray.size+j.toArray.size<=db:=by rw[Zc,Zc];lia
 have F:¬(!y.toArray.isEmpty&&Ho (y.toArray.size+j.toArray.size))=la:=by
  rw[Iy Y,Bool.and_false];exact Ld
 refine uh CK ⟨_,e,rfl⟩ PySem.F.entry_list_extend (PySem.F.args_list_extend_2 _ _)
  (iQ (o2:=o2) l y.toArray n b j.toArray n2 F (by rw[Zc];lia) (by lia) R O) ⟨e,e2,?_⟩
 refine⟨.non,_,I.lset (its':=y++j) Z e (by simp) (r.append r2) ?_,rfl,q⟩
 rw[Xf]
 lia
def TU  : Km X .extend:=by
 intro x G1 T id h;dsimp only[Ef]at h;cases x<;>try (cases h;done)
 dsimp only at h;split at h
 ·rename_i g;cases h;refine⟨⟨LA,CK,PySem.F.type_list_extend⟩,Vx g,_,EV,λus v vs G H Q Q0 rx Y j h Z=>?_⟩;cases rx;dsimp only[Ue]at h;obtain _|⟨y0,t⟩:=us<;>try exact h.elim
  obtain _|⟨_,_⟩:=t<;>try (cases y0<;>exact h.elim)
  cases y0<;>try exact h.elim
  case tup ys=>
   unfold Mq at h;dsimp only at h;split at h
   ·rename_i I;obtain⟨J,e,r⟩:=j.lst I;obtain⟨y,rfl,R⟩:=Y.one;obtain⟨b,O,rfl,sq,F⟩:=R;refine⟨_,_,J,O,rfl,rfl,e,.inr (.of sq),by rw[<- r.length,<- F.length];exact h.1,?_⟩
    exact Z.wl I (r.append F) j (w:=.non) rfl h.2
   ·exact h.elim
  unfold Mq at h;dsimp only at h;split at h
  ·rename_i I g3;obtain⟨J,e,r⟩:=j.lst I;obtain⟨O,e',F⟩:=j.lst g3;obtain⟨y,rfl,R⟩:=Y.one;cases R;refine⟨_,_,J,O,rfl,rfl,e,.inl e',by rw[<- r.length,<- F.length];exact h.1,?_⟩
   exact Z.wl I (r.append F) j (w:=.non) rfl h.2
  ·exact h.elim
 ·cases h
def rP  : Km X .pop:=by
 intro x G1 T id h;dsimp only[Ef]at h;cases x<;>try (cases h;done)
 dsimp only at h;split at h
 ·rename_i g;cases h;refine⟨⟨LA,PySem.F.slot_list_pop,PySem.F.type_list_pop⟩,Vx g,_,Lm.or (mt_pop (X:=X)) OT,λZ v vs G H Q Q0 rx R I h Y=>?_⟩;cases rx;dsimp only[Ue]at h;obtain _|⟨y0,t⟩:=Z
  ·unfold popU at h;dsimp only at h;split at h
   ·rename_i j;obtain⟨O,e,r⟩:=I.lst j;cases R;split at h
    ·rename_i u eu;obtain⟨y,J,F⟩:=r.get eu;rw[r.length]at J;exact .inl ⟨_,O,y,rfl,rfl,e,J,Y.wl j r.dropLast I F h⟩
    ·exact h.elim
   ·exact h.elim
  ·cases y0<;>try exact h.elim
   obtain _|⟨_,_⟩:=t<;>try exact h.elim
   unfold popU at h;dsimp only at h;split at h
   ·rename_i j;obtain⟨O,e,r⟩:=I.lst j;obtain⟨y,rfl,F⟩:=R.one;cases F;obtain⟨h1,h2,h⟩:=h;split at h
    ·rename_i k ek;split at h
     ·rename_i u eu;obtain⟨y,J,F⟩:=r.get eu;exact .inr ⟨_,O,_,k,y,rfl,rfl,e,h1,h2,by rw[<- r.length];exact ek,J,Y.wl j (r.erase k) I F h⟩
     ·exact h.elim
    ·exact h.elim
   ·exact h.elim
 ·cases h
def Jd.put   [DecidableEq κ](r:RU K H u v):∀{kvs } {l:List (κ×V)},Jd K H kvs l->Jd K H (dPut kvs k u) (putK l k v):=by
 intro kvs l h;have any:∀{kvs:List (κ×U)} {l:List (κ×V)},Jd K H kvs l->(kvs.any λj=>decide (j.1=k))=l.any λj=>decide (j.1=k):=by
  intro kvs
  induction kvs with
  |nil=>intro l h;cases h;rfl
  |cons p q I=>intro l h;obtain⟨w,J,rfl,_,F⟩:=h;grind
 have repl:∀{kvs:List (κ×U)} {l:List (κ×V)},Jd K H kvs l->Jd K H (kvs.map λj=>if j.1=k then (j.1,u) else j) (l.map λj=>if j.1=k then (j.1,v) else j):=by
  intro kvs
  induction kvs with
  |nil=>intro l h;cases h;rfl
  |cons p q I=>
   intro l h;obtain⟨O,R⟩:=p;obtain⟨w,J,rfl,y,F⟩:=h;simp only[Sd];by_cases e:O=k
   ·rw[if_pos e,if_pos e];exact⟨v,_,rfl,r,I F⟩
   ·rw[if_neg e,if_neg e];exact⟨w,_,rfl,y,I F⟩
 have snoc:∀{kvs:List (κ×U)} {l:List (κ×V)},Jd K H kvs l->Jd K H (kvs++[(k,u)]) (l++[(k,v)]):=by
  intro kvs
  induction kvs with
  |nil=>intro l h;cases h;exact⟨v,[],rfl,r,rfl⟩
  |cons p q I=>intro l h;obtain⟨O,R⟩:=p;obtain⟨w,J,rfl,y,F⟩:=h;exact⟨w,_,rfl,y,I F⟩
 unfold dPut putK
 grind
theorem Jd.length     : ∀{kvs:List (κ×U)} {l },Jd K H kvs l->kvs.length=l.length
 |[],_,h=>by cases h;rfl
 |(_,_)::_,_,h=>by obtain⟨v,y,rfl,_,j⟩:=h;simp[j.length]
theorem qy    : ∀{k:List Sb} {bs },Pb K H (k.map Ku) bs->bs=k.map kV
 |[],_,h=>h
 |.inl z::k,_,h=>by
  obtain⟨v,y,rfl,r,j⟩:=h;rw[show v=.int z from r,qy j];rfl
 |.inr x::k,_,h=>by
  obtain⟨v,y,rfl,r,j⟩:=h;rw[show v=.str x from r,qy j];rfl
def rGet  : V->List V->Hp->VK->Prop:=λx j H Q=>∃a y d o,x=.ref a/\j=[y,d]/\DGet H a y o/\Q (o.getD d) H
def MC  (hu:X.A.units+1<bc):Lm X "dict.get" rGet:=by
 intro j s σ H x vs R us Q I Z J h;obtain⟨a,y,d,o,rfl,rfl,g,q⟩:=h;cases(show R=Ie a from Z);obtain⟨u,r,rfl,O,rr⟩:=Vals.two J;exact sN hu I g O rr λw' s' Y F=>⟨_,_,Y,F,q⟩
def GD   [DecidableEq κ](k:κ)(y:Jd K H kvs l)(rd:RU K H d w):RU K H ((dGet kvs k).getD d) ((valV l k).getD w):=by
 have j:=Vn k y;cases e:dGet kvs k with
 |none=>rw[e]at j;rw[show valV l k=Aa from j];exact rd
 |some u=>rw[e]at j;obtain⟨v,I,F⟩:=j;rw[I];exact F
def qP  (hu:X.A.units+1<bc):Km X .get:=by
 intro x G1 T id h;dsimp only[Ef]at h;split at h<;>first|contradiction|skip
 have Y:∀(F:List U) (v:V) (J:List V) (G:Gp) (H:Hp) (Q:K1) (I:VK) (a:Ba),RU X.K H (.loc a) v->Pb X.K H F J->HR X.K H G->getU (.loc a) F G Q->LV X H G Q I->rGet v J H I:=λF v J G H Q I a Z R j h O=>by
  cases Z;obtain _|⟨y,_|⟨w,_|⟨_,_⟩⟩⟩:=F<;>try exact h.elim
  unfold getU at h;dsimp only at h;obtain⟨y',va,rfl,ry,ja⟩:=R;obtain⟨w',rfl,xa⟩:=ja.one;split at h<;>first|exact h.elim|skip
  ·rename_i za g2;split at h<;>first|exact h.elim|skip
   rename_i k ek;obtain⟨l,e,rk⟩:=j _ _ g2;have:=Hj ry ek;subst this;exact⟨_,_,_,_,rfl,rfl,.k e,O.here (GD k rk xa) j h⟩
  ·rename_i za g2;obtain⟨k,rfl,h⟩:=h;obtain⟨l,e,rk⟩:=j _ _ g2;obtain⟨b,bs,rfl,eb,rb⟩:=ry;rw[qy rb]at eb;exact⟨_,_,_,_,rfl,rfl,.t e eb,O.here (GD k rk xa) j h⟩
 split at h<;>first|contradiction|skip
 ·rename_i g;cases h;refine⟨⟨Yv,uw,NK⟩,λv H1 r j=>?_,_,MC hu,λF v J G H Q I Z R j h O=>Y F v J G H Q I _ Z R j h O⟩;cases r;obtain⟨l,e,_⟩:=j _ _ g;exact .inr (.inr (.inl ⟨rfl,.inl ⟨l,e⟩⟩))
 ·rename_i g;cases h;refine⟨⟨Yv,uw,NK⟩,λv H1 r j=>?_,_,MC hu,λF v J G H Q I Z R j h O=>Y F v J G H Q I _ Z R j h O⟩;cases r;obtain⟨l,e,_⟩:=j _ _ g;exact .inr (.inr (.inl ⟨rfl,.inr ⟨l,e⟩⟩))
def NC  (hu:X.A.units+1<bc) m:Km X m:=by
 cases m with
 |append=>exact SU
 |extend=>exact TU
 |insert=>intro x y T j h;cases h
 |pop=>exact rP
 |reverse=>intro x y T j h;cases h
 |index=>intro x y T j h;cases h
 |join=>intro x y T j h;cases h
 |split=>intro x y T j h;cases h
 |setd=>intro x y T j h;cases h
 |clear=>intro x y T j h;cases h
 |count=>intro x y T j h;cases h
 |upper=>intro x y T j h;cases h
 |get=>exact qP hu
variable {m:Mth}{o e:La}{es:List La}{to:UE}{ts:UA}{apos cpos:Pos}
def LP (hm:Km X m)(ho:PE X o (lE X to))(ha:PA X (e::es) (lA X ts))(xa:Qh o (mthN m) X.env (Xa o X.env)=Xa o X.env)
  (ja:((Xb cpos (gc (e::es) X.env)).all (λx=>!x.1)&&(backToKw cpos (keywordEach [] X.env)).all (λx=>x.1.isSome)
   && decide ((e::es).length+([]:List Hs).length+(if ([]:List Hs).isEmpty then 0 else 1)<30))=la)
  (Y:(apos.endLine==cpos.line)=la) (hs:gc (e::es) X.env=(ua,Xa e X.env)::gc es X.env) (va:(Xb cpos (gc es X.env)).any (·.1)=ua) :
  PE X (.Call (.Attribute o (mthN m) apos) (e::es) [] cpos) (lE X λς G Q E=>to ς G (λx j=>match Ef m x j with|some _=>ts ς j (λus y=>Ue m x us y Q) E|none=>False) E):=by
 intro F s σ H Q0 I h;obtain⟨ς,G,Q,E,za,hG,h,lv,lx⟩:=h;refine PySem.wpAny_Call_method_late xa ja Y rfl (Mb (ho F s σ H (λv O=>∃x j T id,RU X.K O x v/\HR X.K O j/\Fr H G O j/\Ef m x j=ia (T,id)/\ts ς j (λus y=>Ue m x us y Q) E) I
  ⟨ς,G,_,E,za,hG,h,λx v j O rx J f1 h1=>?_,lx⟩) λv s1 ⟨xv,O,I1,r1,x,j,T,id,rx,J,f1,em,h1⟩=>?_)
 ·dsimp only at h1;split at h1
  ·rename_i p ep;exact⟨x,j,p.1,p.2,rx,J,f1,ep,h1⟩
  ·exact h1.elim
 ·obtain⟨k,ya,r,ka,wa⟩:=hm x j T id em;obtain⟨t1,t2⟩:=QC I1 r1 (ya xv O rx J);refine⟨T,id,k.pa,k.sl,k.ty,t1,t2,?_⟩;have hA:=ha cpos F s1 σ O (λvs Z=>∃us y,Pb X.K Z us vs/\HR X.K Z y/\Fr O j Z y/\Ue m x us y Q) I1 ⟨ς,j,_,E,za.ts (f1.ts hG),J,h1,λus vs y Z rs R f2 h2=>⟨us,y,rs,R,f2,h2⟩,lx.fr f1⟩;rw[hs]at hA ⊢;refine ww (by simp_all) (Calls.evalArgs_plain ?_)
  exact Mb hA λus s2 ⟨vs,Z,I2,r2,ws,y,rs,R,f2,h2⟩=>ka F s2 σ Z xv vs v us Q0 I2 r1 r2 (wa ws xv vs y Z Q Q0 (rx.ts (f2.ts J)) rs R h2 (lv.fr (f1.trans f2)))
def uS (hm:Km X m)(ho:PE X o (lE X to))(R:Qh o (mthN m) X.env (Xa o X.env)=Xa o X.env)(O:(apos.endLine==cpos.line)=la) :
  PE X (.Call (.Attribute o (mthN m) apos) [] [] cpos) (lE X λς G Q E=>to ς G (λx j=>match Ef m x j with|some _=>Ue m x [] j Q|none=>False) E):=by
 intro F s σ H Q0 I h;obtain⟨ς,G,Q,E,ja,hG,h,lv,lx⟩:=h;refine PySem.wpAny_Call_method0_late R O (Mb (ho F s σ H (λv J=>∃x j T id,RU X.K J x v/\HR X.K J j/\Fr H G J j/\Ef m x j=ia (T,id)/\Ue m x [] j Q) I
  ⟨ς,G,_,E,ja,hG,h,λx v j J Z y f1 Y=>?_,lx⟩) λv s1 ⟨xv,J,I1,r1,x,j,T,id,Z,y,f1,em,Y⟩=>?_)
 ·dsimp only at Y;split at Y
  ·rename_i p ep;exact⟨x,j,p.1,p.2,Z,y,f1,ep,Y⟩
  ·exact Y.elim
 ·obtain⟨k,xa,r,va,za⟩:=hm x j T id em;obtain⟨t1,t2⟩:=QC I1 r1 (xa xv J Z y);exact⟨T,id,k.pa,k.sl,k.ty,t1,t2,ww rfl (SA (va F s1 σ J xv [] v [] Q0 I1 r1 .nil (za [] xv [] j J Q Q0 Z rfl y Y (lv.fr f1))))⟩
end
end Z

namespace L2
open PySem PySem.Spec PyProof.Rows

def iSeq  (K:Nb)(F:TE):TI:=λI H R=>F I H λx j=>∃a,x=.ref a/\(((∃y,Ae K j a y)/\R (vL K a) j)\/((∃y,Bd K j a y)/\R (uL K a) j))
def bP    (hl:PE X l tl):PI X tg l (iSeq X.K tl):=by
 intro F s σ H R I h;refine Mb (hl F s σ H _ I h) λv s1 ⟨x,O,j,r1,q1⟩=>?_;obtain⟨a,e,⟨⟨Y,J⟩,q⟩|⟨⟨Y,J⟩,q⟩⟩:=q1
 ·subst e;cases r1;obtain⟨y,Z,p,hz⟩:=j.list J;refine wpAny_pyIter_list p.isList ?_;refine⟨s1.heap.objs.size,[s1.heap.objs.size],_,_,O,rfl,j.kept (t':=s1.toks) λb o e=>Nc _ e,QV a _,⟨_,Df _ rfl,rfl,rfl⟩,λb hb=>?_,q⟩;have e:b=s1.heap.objs.size:=by simp_all
  subst e;exact j.fpOk (Fb _) (j.hok.fresh (Fb _))
 ·subst e;cases r1;obtain⟨y,Z,p,hz⟩:=j.tuple J;refine wpAny_pyIter_tuple (show s1.heap.IsTuple a y.toArray from p) ?_;refine⟨s1.heap.objs.size,[s1.heap.objs.size],_,_,O,rfl,j.kept (t':=s1.toks) λb o e=>Nc _ e,qV a _,⟨_,Df _ rfl,rfl,rfl⟩,λb hb=>?_,q⟩;have e:b=s1.heap.objs.size:=by simp_all
  subst e;exact j.fpOk (Fb _) (j.hok.fresh (Fb _))
def PI.imp    (h:PI X tg iter t)(i:∀y H R,t' y H R->t y H R):PI X tg iter t':=λj s y H R I q=>h j s y H R I (i y H R q)
def PG.imp    (h:PG X j t)(i:∀v F H Q,t' v F H Q->t v F H Q):PG X j t':=λy s F H v u Q I r q=>h y s F H v u Q I r (i v F H Q q)
def Bh.imp    (h:Bh X ts t)(i:∀v y H Q,t' v y H Q->t v y H Q):Bh X ts t':=λj s y H v u Q I r q=>h j s y H v u Q I r (i v y H Q q)
def PIfs.imp    (h:PIfs X ifs t)(i:∀y H Q,t' y H Q->t y H Q):PIfs X ifs t':=λj s y H Q I q=>h j s y H Q I (i y H Q q)
end L2
namespace Z
open PySem L2
abbrev UI:=Sg->Gp->(List U->(Gp->Prop)->Gp->Prop)->KX->Prop
def El  (K:Nb)(J:L2.It)(H:Hp)(G:Gp)(xs:List U)(ok:Gp->Prop):Prop:=∀i y F,TS H y->HR K y F->ok F->
 (∀u,xs[i]?=ia u->J.go i y/\∀v j,J.yld i y v j->RU K j u v/\HR K j F/\Fr y F j F)/\(i=xs.length->J.stop i y)
def El.mono        (h:El K J H G xs ok)(t:TS H H2):El K J H2 G2 xs ok:=λi F j y=>h i F j (t.trans y)
section
variable (X:Cx)
def lI (t:UI):TI:=λO H R=>∃F G Q E,SR X.K H F O/\HR X.K H G/\t F G Q E/\(∀I ok j y J,HR X.K y j->Fr H G y j->El X.K J y j I ok->Q I ok j->R J y)/\LX X O H G E
def lG  (K:Nb)(t:U->Sg->(Sg->Prop)->Prop):TG:=λv J H I=>∃u F k,RU K H u v/\SR K H F J/\t u F k/\∀j y,SR K H j y->k j->I y H
def Cq  (K:Nb)(t:List U->Sg->(Sg->Prop)->Prop):fk:=λO R H J=>∃F I k,Pb K H F O/\SR K H I R/\t F I k/\∀j y,SR K H j y->k j->J y H
end
section
variable {X:Cx}{tg:La}{pos:Pos}{te ta tb:UE}
def u_ie   (hl:PE X l (lE X te)):PI X tg l (lI X λς G Q E=>te ς G (λx G1=>eg x G1 λxs ok=>Q xs ok G1) E):=by
 refine(bP hl).imp λσ H R h=>?_;obtain⟨ς,G,Q,E,za,hG,h,lv,lx⟩:=h;refine⟨ς,G,_,E,za,hG,h,λx v G1 H1 rx J f1 Y=>?_,lx⟩;dsimp only at Y;unfold eg at Y;split at Y
 ·obtain⟨a,F,rfl,ea,rs⟩:=rx;refine⟨a,rfl,.inr ⟨⟨F,.of ea⟩,lv _ _ _ H1 _ J f1 (λi H' G' f hr _=>?_) Y⟩⟩;have e':H' a=ia (.tup F):=f a _ ea;refine⟨λu eu=>?_,λe=>⟨F,.of e',by rw[e,rs.length];lia⟩⟩
  obtain⟨w,ew,j⟩:=rs.get eu;refine⟨⟨F,w,.of e',ew⟩,λv xa y=>?_⟩;obtain⟨rfl,y⟩:=y;have:=y F (.of e');rw[ew]at this;cases this;exact⟨j.ts f,hr,Fr.refl _ _⟩
 ·cases rx;rename_i a;split at Y
  ·rename_i us eu;obtain⟨F,sq,rs⟩:=J.ls eu;refine⟨_,rfl,.inl ⟨⟨F,sq⟩,lv _ _ _ H1 _ J f1 (λi H' G' f hr ok=>?_) Y⟩⟩;obtain⟨I,O,Z⟩:=hr.ls ok;refine⟨λu eu=>?_,λe=>⟨I,O,by rw[e,Z.length];lia⟩⟩
   obtain⟨w,ew,j⟩:=Z.get eu;refine⟨⟨I,w,O,ew⟩,λv xa y=>?_⟩;obtain⟨rfl,y⟩:=y;have:=y I O;rw[ew]at this;cases this;exact⟨j,hr,Fr.refl _ _⟩
  lia
 lia
def IE      lo n:El K (Zr lo n) H G (rngU lo n) λ_=>True:=by
 intro i R O f J _;have I:(rngU lo n).length=n:=by simp[rngU]
 refine⟨λu eu=>?_,λe=>by rw[I]at e;exact Wv e.symm⟩
 have j:i<n:=by grind
 refine⟨j,λv F y=>?_⟩;obtain⟨rfl,rfl⟩:=y;have:(rngU lo n)[i]?=ia (.int (lo+i)):=by simp[rngU,Dd,dw j]
 rw[this]at eu;cases eu;exact⟨rfl,J,Fr.refl _ _⟩
def u_r1 {a:La}{p:Pos}(hg:Gl X "range")(hm:X.mg "range" = Aa)(ha:PE X a (lE X ta))(hs:gc [a] X.env=[(ua,Xa a X.env)]):PI X tg (.Call (.Name "range" p) [a] [] pos) (lI X λI G Q E=>ta I G (λx F=>match x with
   |.int j=>-(2 ^ 62)<=j/\j<2 ^ 62/\Q (rngU 0 j.toNat) (λ_=>True) F
   |_=>False) E):=by
 refine(HU hg hm (Ui ha Mj hs) hs).imp λσ H R h=>?_;obtain⟨I,G,Q,E,O,Z,h,lv,lx⟩:=h;refine⟨I,G,λY F=>match Y with|[x]=>(match x with|.int j=>-(2 ^ 62)<=j/\j<2 ^ 62/\Q (rngU 0 j.toNat) (λ_=>True) F|_=>False)|_=>False,E,O,Z,h,λY vs F H1 rs J f1 y=>?_,lx⟩
 dsimp only at y;split at y
 ·obtain⟨v,rfl,r⟩:=rs.one;split at y
  ·cases r;exact⟨_,rfl,y.1,y.2.1,lv _ _ F H1 _ J f1 (IE 0 _) y.2.2⟩
  lia
 lia
def u_r2 {a b:La}{p:Pos}(hg:Gl X "range")(hm:X.mg "range" = Aa)(ha:PE X a (lE X ta))(hb:PE X b (lE X tb))(hs:gc [a,b] X.env=[(ua,Xa a X.env),(ua,Xa b X.env)])(J:gc [b] X.env=[(ua,Xa b X.env)]) :
  PI X tg (.Call (.Name "range" p) [a,b] [] pos) (lI X λO G Q E=>ta O G (λx I=>tb O I (λy G2=>match x,y with
   |.int i,.int j=>-(2 ^ 62)<=i/\i<2 ^ 62/\-(2 ^ 62)<=j/\j<2 ^ 62/\Q (rngU i (j-i).toNat) (λ_=>True) G2
   |_,_=>False) E) E):=by
 refine(IU hg hm (Ui ha (Ui hb Mj J) (by lia)) hs J).imp λσ H R h=>?_
 obtain⟨O,G,Q,E,Y,hG,h,lv,lx⟩:=h;refine⟨O,G,λus I=>match us with|[x,y]=>(match x,y with|.int i,.int j=>-(2 ^ 62)<=i/\i<2 ^ 62/\-(2 ^ 62)<=j/\j<2 ^ 62/\Q (rngU i (j-i).toNat) (λ_=>True) I|_,_=>False)|_=>False,E,Y,hG,h,λus vs I H1 rs Z f1 F=>?_,lx⟩
 dsimp only at F;split at F
 ·obtain⟨v,v',rfl,r,r'⟩:=rs.two;split at F
  ·cases r;cases r';exact⟨_,_,rfl,⟨F.1,F.2.1,F.2.2.1,F.2.2.2.1⟩,lv _ _ I H1 _ Z f1 (IE _ _) F.2.2.2.2⟩
  lia
 lia
theorem Ru  : ∀{n i } {xs } {u:U},(Lj n xs)[i]?=ia u->∃x,xs[i]?=ia x/\u=.tup [.int ((n+i:Nat):Int),x]
 |_,_,[],_,h=>by simp[Lj]at h
 |n,0,x::xs,_,h=>by
  simp[Lj]at h
  simp_all
 |n,i+1,_::xs,_,h=>by
  obtain⟨x,j,y⟩:=Ru (n:=n+1) (i:=i) (xs:=xs) (by simpa[Lj]using h)
  grind
theorem Su  : ∀n (xs:List U),(Lj n xs).length=xs.length
 |_,[]=>rfl
 |n,_::xs=>by simp[Lj,Su (n+1) xs]
def JP      (hg:Gl X "enumerate")(hm:X.mg "enumerate" = Aa)(ha:PE X l (lE X ta))(hs:gc [l] X.env=[(ua,Xa l X.env)]) :
  PI X (.Tuple za x1 ja) (.Call (.Name "enumerate" p) [l] [] pos) (lI X λO G Q E=>ta O G (λx j=>kr x j λxs ok=>Q xs ok j) E):=by
 refine(gT hg hm (Ui ha Mj hs) hs).imp λσ H R h=>?_;obtain⟨O,G,Q,E,Y,hG,h,lv,lx⟩:=h;refine⟨O,G,λus j=>match us with|[x]=>kr x j λxs ok=>Q xs ok j|_=>False,E,Y,hG,h,λus vs j H1 rs xa f1 F=>?_,lx⟩
 dsimp only at F;split at F
 ·obtain⟨v,rfl,r⟩:=rs.one;unfold kr at F;split at F
  ·obtain⟨a,I,rfl,ea,rr⟩:=r;refine⟨a,rfl,⟨I,ea⟩,lv _ _ _ H1 _ xa f1 (λi H' G' f hr _=>?_) F⟩;have Z:H' a=ia (.tup I):=f a _ ea;refine⟨λu eu=>?_,λe=>⟨I,Z,by rw[e,Su,rr.length]⟩⟩
   obtain⟨x,ex,rfl⟩:=Ru eu;obtain⟨w,ew,J⟩:=rr.get ex;refine⟨⟨I,w,Z,ew⟩,λv va y=>?_⟩;obtain⟨ys,z,q,hq,hz,rfl,hn,rfl⟩:=y;rw[Z]at hq;cases hq;rw[ew]at hz;cases hz;refine⟨⟨q,_,rfl,sf,⟨_,_,rfl,by rw[Tz];rfl,⟨_,_,rfl,(J.ts f).ts (TS.new hn),rfl⟩⟩⟩,hr.newT hn,Fr.new hn⟩
  ·exact F.elim
 lia
theorem Jd.len     : ∀{kvs:List (κ×U)} {l },Jd K H kvs l->kvs.length=l.length
 |[],_,h=>by cases h;rfl
 |(_,_)::_,_,h=>by
  obtain⟨v,y,rfl,_,j⟩:=h;simp[Jd.len j]
theorem Jd.val     : ∀{kvs } {l } {i:Nat} {p:κ×V},Jd K H kvs l->l[i]?=ia p->∃u,kvs[i]?=ia (p.1,u)/\RU K H u p.2
 |[],_,_,_,h,e=>by cases h;simp at e
 |(_,_)::_,_,0,_,h,e=>by
  obtain⟨v,y,rfl,r,_⟩:=h
  grind
 |(_,_)::_,_,i+1,_,h,e=>by
  obtain⟨v,y,rfl,_,j⟩:=h;simp at e;simpa using Jd.val j e
def RC {f:List (Sb×U)->List U}{J:Ba->Obj->L2.It}{l:La}{ti:TI}(hl:PI X tg l ti)(xa:ti=λσ H R=>lE X te σ H λx Y=>∃a kvs,x=.ref a/\Held Y a kvs λo Z=>R (J a o) Z)
  (hw:∀{a o kvs} {Z:Hp} {O:Gp},HR X.K Z O->O a=ia (.frk o kvs)->El X.K (J a o) Z O (f kvs) λO=>O a=ia (.frk o kvs)):PI X tg l (lI X λς G Q E=>te ς G (λx G1=>mh f x G1 Q) E):=by
 subst xa;refine hl.imp λσ H R h=>?_;obtain⟨ς,G,Q,E,za,hG,h,lv,lx⟩:=h;refine⟨ς,G,_,E,za,hG,h,λx v G1 Y rx j f1 y=>?_,lx⟩;dsimp only at y;unfold mh at y;split at y
 ·cases rx;rename_i a;split at y
  ·rename_i kvs g;obtain⟨l,e,rk⟩:=j _ _ g;refine⟨a,l,rfl,.inl e,λo _=>?_⟩;have F:HR X.K (upd Y a (.frz o (.dK l))) (Ad G1 a (.frk o kvs)):=j.write g ⟨l,sf,rk.ts (TS.write j g)⟩;exact lv _ _ _ _ _ F (f1.trans (Fr.write g)) (hw F rf) (y o _ ⟨rfl⟩)
  ·rename_i o kvs g;obtain⟨l,e,rk⟩:=j _ _ g;refine⟨a,l,rfl,.inr ⟨o,e⟩,λo' ho=>?_⟩;cases ho o e;have I:upd Y a (.frz o (.dK l))=Y:=by
    funext b;unfold upd
    lia
   rw[I];exact lv _ _ _ _ _ j f1 (hw j g) y
  lia
 lia
def u_dv    (hd:PE X d (lE X te))(hb:Qh d "values" X.env (Xa d X.env)=Xa d X.env)(hl:(apos.endLine==pos.line)=la):PI X tg (.Call (.Attribute d "values" apos) [] [] pos) (lI X λς G Q E=>te ς G (λx G1=>mh Gh x G1 Q) E):=by
 refine RC (J:=pB) (xM hd hb hl) rfl λ{a o xa H' G'} _ _=>λi H2 G2 f R ok=>?_;obtain⟨I,O,j⟩:=R _ _ ok;refine⟨λu eu=>?_,λz=>⟨I,O,by rw[z,Gh,Hb,j.len];lia⟩⟩
 have hi:i<I.length:=by
  have:=(Ea.mp eu).1;rw[Gh,Hb,j.len]at this
  lia
 refine⟨⟨I,O,hi⟩,λv Z y=>?_⟩;obtain⟨rfl,l2,k,Y,ek⟩:=y;rw[O]at Y;cases Y;obtain⟨u2,F,ru⟩:=j.val ek;rw[Gh,Dd,F]at eu;cases eu;exact⟨ru,R,Fr.refl _ _⟩
def u_di      (hd:PE X d (lE X te))(hb:Qh d "items" X.env (Xa d X.env)=Xa d X.env)(hl:(apos.endLine==pos.line)=la):PI X (.Tuple Y x1 xa) (.Call (.Attribute d "items" apos) [] [] pos) (lI X λς G Q E=>te ς G (λx G1=>mh Oj x G1 Q) E):=by
 refine RC (J:=qB) (wM hd hb hl) rfl λ{a o ja H' G'} _ _=>λi H2 G2 f Z ok=>?_;obtain⟨I,O,j⟩:=Z _ _ ok;refine⟨λu eu=>?_,λz=>⟨I,O,by rw[z,Oj,Hb,j.len];lia⟩⟩
 have hi:i<I.length:=by
  have:=(Ea.mp eu).1;rw[Oj,Hb,j.len]at this
  lia
 refine⟨⟨I,O,hi⟩,λv za y=>?_⟩;obtain⟨l2,k,x,p,e2,ek,rfl,R,rfl⟩:=y;rw[O]at e2;cases e2;obtain⟨u2,F,ru⟩:=j.val ek;rw[Oj,Dd,F]at eu;cases eu;exact⟨⟨p,_,rfl,sf,⟨_,_,rfl,by cases k<;>rfl,⟨_,_,rfl,ru.ts (TS.new R),rfl⟩⟩⟩,Z.newT R,Fr.new R⟩
def SR.set        (h:SR K H ς σ)(r:RU K H u v) i:SR K H (ς.set i (ia u)) (σ.set i (ia v)):=by
 refine⟨by simp[h.1],λj w e=>?_⟩
 by_cases F:j=i
 ·subst F;by_cases y:j<ς.length
  ·rw[Fi y]at e;cases e;exact⟨v,Fi (by rw[<- h.1];exact y),r⟩
  simp_all
 ·rw[Ah (Ta F)]at e ⊢;exact h.2 j w e
def u_tn    (y:X.N.Nodup)(F:X.N[i]?=ia x)(J:Mm X.env.scope x)(I:X.fn x=la\/X.env.scope.names.lookup x=ia .local):PG X (.Name x pos) (lG X.K (Yc (.n i))):=by
 refine(zy y F J I).imp λv R H Q h=>?_;obtain⟨u,O,k,r,j,h,q⟩:=h;exact q _ _ (j.set r i) h
def u_tt {y:List La}{k n:Nat}{ts:bh}(O:X.calm=la)(h:Bh X y (Cq X.K (tgsU ts)))(Z:(ng y X.env).length=n)(I:(ng y X.env).findIdx? (·.1)=Aa)(hl:∀us j k,tgsU ts us j k->us.length=n) :
  PG X (.Tuple y k pos) (lG X.K (Yc (.t ts))):=by
 refine(aP O h Z I).imp λv σ H Q h=>?_;obtain⟨u,j,k,r,F,h,q⟩:=h;cases u with
 |tup us=>
  obtain⟨a,Y,rfl,e,J⟩:=r;have R:tgsU ts us j k:=h;exact⟨a,Y,rfl,.of e,by rw[<- J.length];grind,us,j,k,J,F,R,q⟩
 |_=>exact h.elim
def TN  : Bh X [] (Cq X.K (tgsU .nil)):=by
 refine aR.imp λI J H Q h=>?_;obtain⟨y,F,k,r,j,h,q⟩:=h;obtain⟨rfl,h⟩:=h;cases r;exact⟨rfl,q _ _ j h⟩
def SN {e:La}{j:List La}{t:Tg}{ts:bh}(h1:PG X e (lG X.K (Yc t)))(R:Bh X j (Cq X.K (tgsU ts)))(hs:(ng (e::j) X.env).map (·.2)=Jc e X.env::(ng j X.env).map (·.2)) :
  Bh X (e::j) (Cq X.K (tgsU (.cons t ts))):=by
 refine(fT h1 R hs).imp λvs σ H Q h=>?_;obtain⟨y,O,k,r,F,h,q⟩:=h;cases y with
 |nil=>exact h.elim
 |cons u y=>
  obtain⟨v,vr,rfl,r1,rs⟩:=r;exact⟨v,vr,rfl,u,O,_,r1,F,h,λI Y J Z=>⟨y,I,k,rs,J,Z,q⟩⟩
end
def Ej  (K:Nb)(t:UE):TE:=λI H J=>∃F G Q,SR K H F I/\HR K H G/\t F G Q (λ_ _=>False)/\∀w v y j,RU K j w v->HR K j y->Fr H G j y->Q w y->J v j
def ci  (K:Nb)(t:Sg->Gp->(Bool->Gp->Prop)->Prop):TT:=λI H J=>∃F G Q,SR K H F I/\HR K H G/\t F G Q/\∀b j y,HR K y j->Fr H G y j->Q b j->J b y
def LX.no      : LX X σ H G λ_ _=>False:=λ_ _ _ _ _ _ _ _ _ _ h=>h.elim
def Ej.of     (h:PE X e (lE X t)):PE X e (Ej X.K t):=h.imp λR H O ⟨j,G,Q,I,y,J,F⟩=>⟨j,G,Q,_,I,y,J,F,LX.no⟩
def ci.of     (h:PT X e (lT X t)):PT X e (ci X.K λj G Q=>t j G Q λ_ _=>False):=h.imp λR H O ⟨j,G,Q,I,y,J,F⟩=>⟨j,G,Q,_,I,y,J,F,LX.no⟩
mutual
noncomputable def xj:Tg->List Nat
 |.n i=>[i]
 |.t ts=>tgsS ts
noncomputable def tgsS:bh->List Nat
 |.nil=>[]
 |.cons t ts=>xj t++tgsS ts
end
def As  (y F:Sg):Prop:=y.length=F.length/\∀(j:Nat) (w:U),y[j]?=ia (ia w)->F[j]?=ia (ia w)
mutual
theorem dD {y:Sg}:∀{t:Tg} {u:U} {F:Sg} {k:Sg->Prop},(∀i∈xj t,∀w,y[i]?≠ia (ia w))->As y F->Yc t u F k->Yc t u F λI=>k I/\As y I
 |.n i,u,F,k,hf,he,h=>by
  refine⟨h,by simp[he.1],λj w e=>?_⟩
  have O:j≠i:=λz=>hf i (by simp[xj]) w (z ▸ e)
  rw[Ah (Ta O)]
  exact he.2 j w e
 |.t ts,u,F,k,hf,he,h=>by
  cases u with
  |tup us=>exact xE (ts:=ts) (us:=us) (λi J=>hf i J) he h
  |_=>exact h
theorem xE {y:Sg}:∀{ts:bh} {us:List U} {F:Sg} {k:Sg->Prop},(∀i∈tgsS ts,∀w,y[i]?≠ia (ia w))->As y F->tgsU ts us F k->tgsU ts us F λj=>k j/\As y j
 |.nil,us,F,k,_,he,h=>⟨h.1,h.2,he⟩
 |.cons t ts,us,F,k,hf,he,h=>by
  cases us with
  |nil=>exact h
  |cons u r=>
   have:=dD (t:=t) (u:=u) (λi I=>hf i (by simp[tgsS,I])) he h
   refine Gu this λj ⟨O,J⟩=>xE (λi I=>hf i (by simp[tgsS,I])) J O
theorem Gu:∀{t:Tg} {u:U} {j:Sg} {k k':Sg->Prop},Yc t u j k->(∀j,k j->k' j)->Yc t u j k'
 |.n _,_,_,_,_,h,i=>i _ h
 |.t ts,u,j,_,_,h,i=>by
  cases u with
  |tup us=>exact VE (ts:=ts) (us:=us) h i
  |_=>exact h
theorem VE:∀{ts:bh} {us:List U} {j:Sg} {k k':Sg->Prop},tgsU ts us j k->(∀j,k j->k' j)->tgsU ts us j k'
 |.nil,_,_,_,_,h,i=>⟨h.1,i _ h.2⟩
 |.cons t ts,us,j,_,_,h,i=>by
  cases us with
  |nil=>exact h
  |cons u r=>exact Gu (t:=t) h λy F=>VE F i
end
def SR.ext      (h:SR K H ς σ)(e:As j ς):SR K H j σ:=⟨e.1.trans h.1,λi u q=>h.2 i u (e.2 i u q)⟩
theorem SR.pick      (h:SR K H ς σ)(pick:List (Option Nat)):SR K H (Yg pick ς) (pick.map λo=>o.bind λj=>(σ[j]?).join):=by
 refine⟨by simp[Yg],λi u e=>?_⟩
 unfold Yg at e;rw[Dd]at e ⊢;cases q:pick[i]? with
 |none=>simp_all
 |some o=>
  rw[q]at e;cases o with
  |none=>simp at e
  |some j=>
   simp only[aB,Option.bind_some,Option.some.injEq]at e ⊢;have y:ς[j]?=ia (ia u):=by
    grind
   obtain⟨v,F,r⟩:=h.2 j u y
   simp_all
section
variable {K:Nb}{H:Hp}{G:Gp}
def HR.newH  (h:HR K H G)(e:H p=Aa):HR K (upd H p o) G:=⟨λa j q=>by
 have m:=h a j q;obtain⟨F,y⟩:=m.there;exact m.keep (Dc (sg y e)) (TS.new e),h.tab.new e⟩
def TS.hid     (e:H p=ia (.lst ys)):TS H (upd H p o):=⟨λa y h=>by
 have:a≠p:=λz=>by lia
 rw[Dc this];exact h,λa j h=>by
 have:a≠p:=λz=>by lia
 rw[Dc this];exact h⟩
def HR.hid  (h:HR K H G)(e:H p=ia (.lst ys))(g:G p=Aa):HR K (upd H p o) G:=⟨λa j q=>by
 have:a≠p:=λz=>by lia
 exact(h a j q).keep (Dc this) (TS.hid e),h.tab.upd (λy z=>by lia) λj z=>by lia⟩
def HR.know  (h:HR K H G)(e:H p=ia (.lst ys))(r:Pb K H us ys):HR K H (Ad G p (.lst us)):=⟨λa j q=>by
 by_cases z:a=p
 ·subst z;rw[rf]at q;cases q;exact⟨ys,e,r⟩
 ·rw[oh z]at q;exact h a j q,h.tab⟩
end
section
variable {X:Cx}{pick:List (Option Nat)}{ti:UI}{t:Tg}{tc:Sg->Gp->(Bool->Gp->Prop)->Prop}{te:UE}{σ:St}{H:Hp}{Q0:VK}
abbrev fx  (pick:List (Option Nat))(ti:UI)(t:Tg)(Z:Sg->Gp->(Bool->Gp->Prop)->Prop)(te:UE):UE:=λj G Q E=>ti j G (λy ok R=>y.length<=db/\Oi ok (λx Y k=>Yc t x (Yg pick j) λF=>Z F Y (λb I=>if b=la then te F I (λu G4=>k (ia u) G4) (λ_ _=>False) else k Aa I)) y [] R
   λJ O=>newO O (.lst J) Q) E
structure js (D:Ba)(H:Hp)(G:Gp)(H':Hp)(G':Gp):Prop where
 go:∀a o,a≠D->H a=ia o->G a=Aa->(nt:noTb o=la:=by rfl)->H' a=ia o/\G' a=Aa
instance {D:Ba} {H H':Hp} {G G':Gp}:CoeFun (js D H G H' G') λ_=>∀a o,a≠D->H a=ia o->G a=Aa->(nt:noTb o=la:=by rfl)->H' a=ia o/\G' a=Aa:=⟨@js.go D H G H' G'⟩
def mP            {kk:List U->Gp->Prop}{QQ:St->List V->Hp->Prop}
  (free:∀i∈xj t,∀w,F[i]?≠ia (ia w)) (wk:El X.K J H1 G1 xs ok) (ka:HR X.K H1 G1) (yc:H1 D=ia (.lst jb)) (yd:G1 D=Aa) (qd:Pb X.K H1 acc0 jb) (xe:SR X.K H1 F wc) (hl:acc0.length+xs.length<=db)
  (h1:Oi ok (λx G2 k=>Yc t x F λτ=>tc τ G2 (λb Z=>if b=la then te τ Z (λu G4=>k (ia u) G4) (λ_ _=>False) else k Aa Z)) xs acc0 G1 kk)
  (vc:∀qc za wa O j,SR X.K j F qc->HR X.K j O->js D H1 G1 j O->j D=ia (.lst wa)->O D=Aa->Pb X.K j za wa->kk za O->QQ qc wa j) :
  Gx J (lG X.K (Yc t)) (ci X.K tc) (Kz (Ej X.K te) D) QQ wc jb H1:=by
 refine⟨λi m τ ys j=>m=xs.length-i/\i<=xs.length/\∃I O,SR X.K j F τ/\HR X.K j O/\js D H1 G1 j O/\j D=ia (.lst ys)/\O D=Aa/\Pb X.K j I ys/\I.length<=acc0.length+i/\
  Oi ok (λx G2 k=>Yc t x F λτ=>tc τ G2 (λb Z=>if b=la then te τ Z (λu G4=>k (ia u) G4) (λ_ _=>False) else k Aa Z)) (xs.drop i) I O kk,⟨xs.length,by simp,He _,acc0,G1,xe,ka,⟨λ_ _ _ a b _=>⟨a,b⟩⟩,yc,yd,qd,by lia,by simp_all⟩,?_⟩
 rintro i m τ ys j ⟨rfl,hi,I,O,sr,hr,f,eD,gD',ra,hal,hc⟩;have ts:TS H1 j:=⟨λa zs e=>(f a _ (λz=>by lia) e (ka.tupNone e)).1,λa zs e=>(f a _ (λz=>by lia) e (ka.codNone e)).1⟩
 by_cases Y:i<xs.length
 ·rw[jB Y]at hc;obtain⟨ja,hb⟩:=hc;obtain⟨w1,_⟩:=wk i j O ts hr ja;obtain⟨go,yl⟩:=w1 xs[i] (by simp[Y])
  refine .inr ⟨go,λv jc y=>?_⟩;obtain⟨rx,R,f2⟩:=yl v jc y;have vd:=sr.ts (f2.ts hr);refine⟨xs[i],F,_,rx,vd,dD free ⟨rfl,λ_ _ e=>e⟩ hb,λxc qe va ⟨hk,he⟩=>?_⟩;refine⟨xc,O,_,va,R,hk,λb Z H3 xa f3 h3=>?_⟩;have kb:js D H1 G1 H3 Z:=⟨λa o n h g nt=>let ⟨a1,a2⟩:=f a o n h g nt;let ⟨b1,b2⟩:=f2 a o a1 a2 nt;f3 a o b1 b2 nt⟩
  have yb:SR X.K H3 F qe:=(va.ext he).ts (f3.ts R);obtain⟨kc,zd⟩:=f2 D _ eD gD';obtain⟨zb,zc⟩:=f3 D _ kc zd;have wb:=(ra.ts (f2.ts hr)).ts (f3.ts R);cases b with
  |false=>
   rw[if_neg Ld]at h3;dsimp only;rw[if_neg Ld];exact⟨xs.length-(i+1),by lia,rfl,Y,I,Z,yb,xa,kb,zb,zc,wb,by lia,h3⟩
  |true=>
   rw[if_pos rfl]at h3;dsimp only;rw[if_pos rfl];refine⟨xc,Z,_,va.ts (f3.ts R),xa,h3,λu v G4 H4 ru jd f4 h4=>?_⟩;obtain⟨ya,xb⟩:=f4 D _ zb zc;have xd:=wb.ts (f4.ts xa);have vb:=TS.hid (o:=.lst (ys++[v])) ya;refine⟨ya,by rw[<- ra.length];lia,xs.length-(i+1),by lia,rfl,Y,I++[u],G4,(yb.ts (f4.ts xa)).ts vb,jd.hid ya xb,?_,sf,xb,(xd.append (Pb.mk (us:=[]) (vs:=[]) ru rfl)).ts vb,by grind,h4⟩
   refine⟨λa o n ha ga nt=>?_⟩;obtain⟨x1,x2⟩:=kb a o n ha ga nt;obtain⟨y1,y2⟩:=f4 a o x1 x2 nt;exact⟨by rw[Dc n];exact y1,y2⟩
 ·have e:i=xs.length:=by lia
  subst e;rw[zJ]at hc;obtain⟨ja,q⟩:=hc;obtain⟨_,w2⟩:=wk xs.length j O ts hr ja;exact .inl ⟨w2 rfl,vc τ I ys O j sr hr f eD gD' ra q⟩
def JU  {is:List Nat}(y:is.all (λi=>(pick[i]?).join.isNone)=la) ς:∀i∈is,∀w,(Yg pick ς)[i]?≠ia (ia w):=λi j w e=>by
 have:=Mg.mp y i j;unfold Yg at e;rw[Dd]at e;cases q:pick[i]? with
 |none=>simp_all
 |some o=>
  simp_all
def IC  (hp:(xj t).all (λi=>(pick[i]?).join.isNone)=la)(h:lE X (fx pick ti t tc te) σ H Q0):Jw pick (lI X ti) (lG X.K (Yc t)) (ci X.K tc) (Ej X.K te) σ H Q0:=by
 obtain⟨Z,G,Q,E,y,hG,h,lv,lx⟩:=h;refine⟨Z,G,_,E,y,hG,h,λxs ok G1 H1 J F f1 wk O=>?_,lx⟩;obtain⟨hl,O⟩:=O;intro D j;refine mP (acc0:=[]) (JU hp Z) (wk.mono (TS.new j)) (F.newH j) sf (F.nope j) rfl (((y.ts (f1.ts hG)).ts (TS.new j)).pick pick) (by simp_all) O λza Y xa G' H' sr hr f eD R ra q=>?_
 refine lv (.loc D) (.ref D) _ H' rfl (hr.know eD ra) ?_ (q.at D R);refine⟨λa o ha ga nt=>?_⟩;obtain⟨I,x2⟩:=f1 a o ha ga nt;obtain⟨y1,y2⟩:=f a o (sg I j) (by rw[Dc (sg I j)];exact I) x2 nt
 exact⟨y1,by rw[oh (sg I j)];exact y2⟩

def u_lc  (F:X.calm=la)(S:CScope X N pick scope)(O:PI X tg iter (lI X ti))(J:(xj t).all (λi=>(pick[i]?).join.isNone)=la)
  (I:∀cl C s₀ H₀ j,PG (ke X N scope cl C s₀ H₀ j) tg (lG X.K (Yc t))) (y:∀cl C s₀ H₀ j,PIfs (ke X N scope cl C s₀ H₀ j) ifs (ci X.K tc)) (R:∀cl C s₀ H₀ j,PE (ke X N scope cl C s₀ H₀ j) elt (Ej X.K te))
  (hs:∀x,Oh iter X.env x=pure x):PE X (.ListComp elt [⟨tg,iter,ifs,0⟩] scope pos) (lE X (fx pick ti t tc te)):=
 (rM F S O I y R hs).imp λ_ _ _ h=>IC J h
end
section
variable {X:Cx}{e:La}{te ta tb:UE}{p pos:Pos}
def KN  (hc:X.calm=la)(Y:Gl X "list")(hm:X.mg "list" = Aa)(ha:PE X e (lE X te))(R:gc [e] X.env=[(ua,Xa e X.env)]) :
  PE X (.Call (.Name "list" p) [e] [] pos) (lE X λI G Q E=>te I G (λx F=>mkDU x F Q) E):=by
 refine(Zu (sV hc) Y hm pL (Ui ha Mj R) (by decide) (by decide) R rfl).imp λσ H Q0 h=>?_
 obtain⟨I,G,Q,E,J,hG,h,lv,lx⟩:=h;refine⟨I,G,λO F=>match O with|[x]=>mkDU x F Q|_=>False,E,J,hG,h,λO vs F H1 Z y f1 j=>?_,lx⟩
 dsimp only at j;split at j
 ·obtain⟨v,rfl,r⟩:=Z.one;unfold mkDU at j;split at j
  ·cases r;split at j
   ·rename_i xa g;obtain⟨ns,hk,q⟩:=j;obtain⟨l,e,rk⟩:=y _ _ g;refine⟨_,l,ns,rfl,e,?_,λp hp=>(lv.fr f1).lst hp (nE _) y q⟩;rw[<- HD rk];exact hk
   lia
  lia
 lia
def LN  (hg:Gl X "list")(hm:X.mg "list" = Aa)(ha:PE X e (lE X te))(he:gc [e] X.env=[(ua,Xa e X.env)]) :
  PE X (.Call (.Name "list" p) [e] [] pos) (lE X λO G Q E=>te O G (λx F=>eg x F λxs _=>newO F (.lst xs) Q) E):=by
 refine(Zu (gW (X:=X)) hg hm pL (Ui ha Mj he) (by decide) (by decide) he rfl).imp λσ H Q0 h=>?_
 obtain⟨O,G,Q,E,R,hG,h,Z,lx⟩:=h;refine⟨O,G,λI F=>match I with|[x]=>(eg x F λxs _=>newO F (.lst xs) Q)|_=>False,E,R,hG,h,λI vs F H1 rs y f1 j=>?_,lx⟩
 dsimp only at j;split at j
 ·obtain⟨v,rfl,r⟩:=rs.one;unfold eg at j;split at j
  ·obtain⟨a,Y,rfl,ea,rr⟩:=r;exact⟨a,Y,rfl,.inr (.of ea),λl J=>(Z.fr f1).lst J rr y j⟩
  ·cases r;split at j
   ·rename_i I eu;obtain⟨Y,sq,rr⟩:=y.ls eu;exact⟨_,Y,rfl,.inl sq,λl J=>(Z.fr f1).lst J rr y j⟩
   lia
  lia
 lia
def MN  (hg:Gl X "tuple")(hm:X.mg "tuple" = Aa)(ha:PE X e (lE X te))(he:gc [e] X.env=[(ua,Xa e X.env)]) :
  PE X (.Call (.Name "tuple" p) [e] [] pos) (lE X λO G Q E=>te O G (λx F=>eg x F λxs _=>Q (.tup xs) F) E):=by
 refine(Zu (tW (X:=X)) hg hm PyProof.Rows.boot_tuple (Ui ha Mj he) (by decide) (by decide) he rfl).imp λσ H Q0 h=>?_
 obtain⟨O,G,Q,E,R,hG,h,Y,lx⟩:=h;refine⟨O,G,λJ F=>match J with|[x]=>(eg x F λxs _=>Q (.tup xs) F)|_=>False,E,R,hG,h,λJ vs F H1 rs y Z j=>?_,lx⟩
 dsimp only at j;split at j
 ·obtain⟨v,rfl,r⟩:=rs.one;unfold eg at j;split at j
  ·obtain⟨a,I,rfl,ea,rr⟩:=r;exact⟨a,I,rfl,.inr ⟨.of ea,(Y.fr Z).here (w:=.tup _) ⟨a,I,rfl,ea,rr⟩ y j⟩⟩
  ·cases r;split at j
   ·rename_i J eu;obtain⟨I,sq,rr⟩:=y.ls eu;exact⟨_,I,rfl,.inl ⟨sq,λl hl=>(Y.fr Z).tup hl rr y j⟩⟩
   lia
  lia
 lia
def DS     i n:Pb K H (rngU i n) ((md n).map λk:Nat=>V.int (i+(k:Int))):=by
 unfold rngU
 induction (md n)with
 |nil=>rfl
 |cons a r j=>exact⟨_,_,rfl,rfl,j⟩
def NP {J y:Pos}{a:La}(hc:X.calm=la)(xa:Gl X "list")(va:X.mg "list" = Aa)(O:Gl X "range")(R:X.mg "range" = Aa)(ha:PE X a (lE X ta))(hs:gc [a] X.env=[(ua,Xa a X.env)])
  (ja:gc [.Call (.Name "range" J) [a] [] y] X.env=[(ua,Xa (.Call (.Name "range" J) [a] [] y) X.env)]) :
  PE X (.Call (.Name "list" p) [.Call (.Name "range" J) [a] [] y] [] pos) (lE X λY G Q E=>ta Y G (λx I=>match x with
   |.int j=>0<=j/\j<=1000000/\newO I (.lst (rngU 0 j.toNat)) Q
   |_=>False) E):=by
 refine(eW hc xa va O R (Ui ha Mj hs) hs ja).imp λσ H Q0 h=>?_;obtain⟨Y,G,Q,E,Z,hG,h,lv,lx⟩:=h;refine⟨Y,G,λus I=>match us with|[x]=>(match x with|.int j=>0<=j/\j<=1000000/\newO I (.lst (rngU 0 j.toNat)) Q|_=>False)|_=>False,E,Z,hG,h,λus vs I H1 rs za f1 F=>?_,lx⟩
 dsimp only at F;split at F
 ·obtain⟨v,rfl,r⟩:=rs.one;split at F
  ·rename_i j;cases r;refine⟨_,rfl,F.1,F.2.1,λl hl=>?_⟩;have:=DS (K:=X.K) (H:=H1) 0 j.toNat;simp only[Int.zero_add]at this;exact(lv.fr f1).lst hl this za F.2.2
  lia
 lia
def u_ty    (F:Gl X x)(j:X.mg x=Aa)(I:Di x=ia (.type n))(y:x ≠ "__name__")(hd:(x==("__debug__" : Str))=ua):PE X (.Name x pos) (lE X λ_ G Q _=>Q (.ty n) G):=
 Sn (u:=.ty n) (ED (v:=.ty n) F j I rfl y hd) λ_=>rfl
def u_gl      (y:Gl X x)(j:X.mg x=ia w)(r:RelV v w)(hr:∀H,RU X.K H u v)(hd:(x==("__debug__" : Str))=ua):PE X (.Name x pos) (lE X λ_ G Q _=>Q u G):=
 Sn (FD y j r hd) hr
def IP  : PE X (.Dict [] [] pos) (lE X λ_ G Q _=>newO G (.dK []) Q):=by
 refine bT.imp λR H O h p j=>?_;obtain⟨J,G,Q,E,F,y,h,I,lx⟩:=h;exact I (.loc p) (.ref p) _ _ rfl (y.newO (mo:=.dK []) j ⟨[],sf,rfl⟩) (Fr.newO j) (h.at p (y.nope j))
theorem Jd.merge    : ∀{j } {m },Jd K H j m->∀{kvs } {l },Jd K H kvs l->Jd K H (j.foldl (λacc y=>dPut acc y.1 y.2) kvs) (Pl l m)
 |[],_,h,_,_,h'=>by cases h;exact h'
 |(k,u)::j,_,h,_,_,h'=>by
  obtain⟨v,I,rfl,r,F⟩:=h;exact Jd.merge F (h'.put r)
def lD  (X:Cx)(t:Sg->Gp->(List (Sb×U)->Gp->Prop)->KX->Prop)(j:List (TE×TE)):Prop:=
 ∀σ H ς G Q E (Q0:List (V×V)->Hp->Prop),SR X.K H ς σ->HR X.K H G->t ς G Q E->LX X σ H G E->
  (∀kvs (l:List (Sb×V)) G' H',Jd X.K H' kvs l->HR X.K H' G'->Fr H G H' G'->Q kvs G'->Q0 (l.map λy=>(kV y.1,y.2)) H')->uu j σ H Q0
def HN      (F:Jm X pos j y R)(hd:lD X t R)(J:j.all (·.isSome)=la)(hl:j.length=y.length)(h0:j≠[])
  (Y:j.length<=15):PE X (.Dict j y pos) (lE X λZ G Q E=>t Z G (λkvs G1=>kvs.length<=15/\newO G1 (.dK (ki kvs)) Q) E):=by
 refine(XQ F J hl h0 Y).imp λσ H Q0 h p F=>?_;obtain⟨Z,G,Q,E,xa,hG,h,lv,lx⟩:=h;have gp:=hG.nope F;refine hd σ _ Z G _ E _ (xa.ts (TS.new F)) (hG.newH F) h (lx.fr (Fr.new F)) λkvs l G' H' r O f q=>?_;obtain⟨e,g⟩:=f p _ sf gp;refine⟨e,l,rfl,by rw[<- r.length];exact q.1,?_⟩
 have ts:TS H' (upd H' p (.dK (Pl [] l))):=⟨λa xs h=>by
  have:a≠p:=λz=>by lia
  rw[Dc this];exact h,λa xs h=>by
  have:a≠p:=λz=>by lia
  rw[Dc this];exact h⟩
 refine lv (.loc p) (.ref p) (Ad G' p (.dK (ki kvs))) _ rfl ⟨λa ob z=>?_,O.tab.upd (λps z=>by lia) λob z=>by lia⟩ ⟨λa o ha ga nt=>?_⟩ (q.2.at p g)
 ·by_cases I:a=p
  ·subst I;rw[rf]at z;cases z;exact⟨_,sf,(Jd.merge r (kvs:=[]) (l:=[]) rfl).ts ts⟩
  ·rw[oh I]at z;exact(O a ob z).keep (Dc I) ts
 ·have I:a≠p:=sg ha F;obtain⟨x1,x2⟩:=f a o (by rw[Dc I];exact ha) ga nt
  exact⟨by rw[Dc I];exact x1,by rw[oh I];exact x2⟩
def kP  : lD X (λ_ G Q _=>Q [] G) []:=λJ H F G Q E I y j h lx q=>q [] [] G H rfl j (Fr.refl _ _) h
def wR {tk tv:UE}{t:Sg->Gp->(List (Sb×U)->Gp->Prop)->KX->Prop}{J:List (TE×TE)}(hr:lD X t J):lD X (λj G Q E=>tk j G (λx G1=>tv j G1 (λy Z=>match kU x with
   |some k=>t j Z (λkvs G3=>Q ((k,y)::kvs) G3) E
   |none=>False) E) E) ((lE X tk,lE X tv)::J):=by
 intro σ H j G Q E Q0 F hG h lx q;refine⟨j,G,_,E,F,hG,h,λx v G1 H1 rx R O h1=>?_,lx⟩;refine⟨j,G1,_,E,F.ts (O.ts hG),R,h1,λy v' Z H2 ry I Y h2=>?_,lx.fr O⟩;dsimp only at h2;split at h2
 ·rename_i k ek;have:=Hj rx ek;subst this;refine hr σ H2 j Z _ E _ ((F.ts (O.ts hG)).ts (Y.ts R)) I h2 (lx.fr (O.trans Y)) λkvs l G3 H3 r xa f3 h3=>?_;exact q ((k,y)::kvs) ((k,v')::l) G3 H3 ⟨v',l,rfl,ry.ts (f3.ts I),r⟩ xa ((O.trans Y).trans f3) h3
 lia
end
end Z

namespace L2
open PySem
end L2
namespace Z
open PySem L2
structure LD (X:Cx)(H:Hp)(G:Gp)(De:En)(D:Ends):Prop where
 nx:∀ς' σ' G' H',SR X.K H' ς' σ'->HR X.K H' G'->Fr H G H' G'->De.nx ς' G'->D.nx σ' H'
 rt:∀w v G' H',RU X.K H' w v->HR X.K H' G'->Fr H G H' G'->De.rt w G'->D.rt v H'
 ex:∀(pins:List (Ba×Obj)) (e:Da) (s':Ja) (x:XV) ς' σ' G' H',Oa X pins σ' H' s'->SR X.K H' ς' σ'->kB X H' s' e x->HR X.K H' G'->Fr H G H' G'->De.ex x ς' G'->X.xe e s'
abbrev US:=En->Sg->Gp->Prop
def lS  (X:Cx)(t:US):L2.TS:=λD F H=>∃y j G,SR X.K H j F/\HR X.K H G/\t y j G/\LD X H G y D

def LD.fr  (h:LD X H G R D)(f:Fr H G H1 G1):LD X H1 G1 R D:=
 ⟨λy j F I a b c=>h.nx y j F I a b (f.trans c),λw v F I a b c=>h.rt w v F I a b (f.trans c),λJ e O x y j F I i a b c d=>h.ex J e O x y j F I i a b c (f.trans d)⟩
def LD.lx  (h:LD X H G Y D)(y:SR X.K H ς σ)(F:HR X.K H G):LX X σ H G λx J=>Y.ex x ς J:=λj e O x R Z I a hr f q=>h.ex j e O x ς σ R Z I (y.ts (f.ts F)) a hr f q
def LD.here  (h:LD X H G F D)(j:SR X.K H ς σ)(y:HR X.K H G)(q:F.nx ς G):D.nx σ H:=h.nx ς σ G H j y (Fr.refl _ _) q
def LD.with    (h:LD X H G O D)(R:∀I F y j,SR X.K j I F->HR X.K j y->Fr H G j y->k I y->J.nx F j)(hr:J.rt=D.rt):LD X H G { O with nx:=k } J:=
 ⟨R,λw v y j a b c d=>by rw[hr];exact h.rt w v y j a b c d,h.ex⟩
section
variable {X:Cx}{st:Qa}{rest:List Qa}{pos:Pos}{e:La}{te:UE}{t u:US}
def s_nil  : Ce X [] (lS X λD y G=>D.nx y G):=Ay.imp λD O H ⟨J,y,G,j,F,h,I⟩=>I.here j F h
def s_cons  (h1:PS X st (lS X t))(R:Ce X rest (lS X u)):Ce X (st::rest) (lS X λD y G=>t { D with nx:=λj I=>u D j I } y G):=by
 refine(Ly h1 R).imp λD σ H ⟨Y,y,G,F,O,h,J⟩=>?_;exact⟨_,y,G,F,O,h,J.with (λj Z I H' a b c d=>⟨Y,j,I,a,b,d,J.fr c⟩) rfl⟩
def s_expr  (Z:PE X e (lE X te))(hs:rh e Aa pos.line X.env=pure ua):PS X (.Expr e pos) (lS X λD y G=>te y G (λ_ F=>D.nx y F) λx F=>D.ex x y F):=
 (iR Z hs).imp λD Y H ⟨De,y,G,j,I,h,J⟩=>⟨y,G,_,_,j,I,h,λw v O R _ hr f q=>J.nx y Y O R (j.ts (f.ts I)) hr f q,J.lx j I⟩
def s_ret  (Y:PE X e (lE X te)):PS X (.Return (ia e) pos) (lS X λD y G=>te y G D.rt λx J=>D.ex x y J):=
 (HQ Y).imp λD σ H ⟨De,y,G,j,F,h,I⟩=>⟨y,G,_,_,j,F,h,λw v O R r Z f q=>I.rt w v O R r Z f q,I.lx j F⟩
def s_if     (Z:PT X c (lT X tc))(ha:Ce X a (lS X t))(hb:Ce X b (lS X u)):PS X (.If c a b pos) (lS X λD y G=>tc y G (λx F=>if x=la then t D y F else u D y F) λx F=>D.ex x y F):=by
 refine(jC Z ha hb).imp λD σ H ⟨R,y,G,j,I,h,J⟩=>⟨y,G,_,_,j,I,h,λb O H' Y f q=>?_,J.lx j I⟩;cases b with
 |true=>rw[if_pos rfl]at q ⊢;exact⟨R,y,O,j.ts (f.ts I),Y,q,J.fr f⟩
 |false=>rw[if_neg Ld]at q ⊢;exact⟨R,y,O,j.ts (f.ts I),Y,q,J.fr f⟩
def VP      (h:lS X (λD F G=>te F G (λu I=>Yc g u F λy=>D.nx y I) λx I=>D.ex x F I) D σ H) :
  lE X te σ H λx H1=>lG X.K (Yc g) x σ H1 D.nx:=by
 obtain⟨De,F,G,j,J,h,R⟩:=h;exact⟨F,G,_,_,j,J,h,λw v Z H' r hr f q=>⟨w,F,_,r,j.ts (f.ts J),q,λy O Y hk=>R.nx y O Z H' Y hr f hk⟩,R.lx j J⟩
def s_asg {j:La}{g:Tg}(Y:PE X e (lE X te))(J:PG X j (lG X.K (Yc g)))(hs:Bi [j] e pos.line X.env=pure ua)(O:vh [j] e X.env=pure Aa)
  (R:(ng [j] X.env).map (·.2)=[Jc j X.env]):PS X (.Assign [j] e pos) (lS X λD y G=>te y G (λu F=>Yc g u y λI=>D.nx I F) λx F=>D.ex x y F):=
 (Mx Y J hs O R).imp λ_ _ _ h=>VP h
def s_lc            
  (hN:X.N.Nodup) (Z:X.N[i]?=ia y) (hy:X.env.scope.names.lookup y=ia .local) (hc:X.calm=la) (S:CScope X N pick scope) (hw:PI X tg iter (lI X ti)) (hp:(xj g).all (λi=>(pick[i]?).join.isNone)=la)
  (hg:∀cl C s₀ H₀ J,PG (ke X N scope cl C s₀ H₀ J) tg (lG X.K (Yc g))) (hi:∀cl C s₀ H₀ J,PIfs (ke X N scope cl C s₀ H₀ J) ifs (ci X.K tc)) (he:∀cl C s₀ H₀ J,PE (ke X N scope cl C s₀ H₀ J) elt (Ej X.K te))
  (xa:rh (.ListComp elt [⟨tg,iter,ifs,0⟩] scope pos) (ia (.Name y py)) F.line X.env=pure la) (hs:∀x,Oh iter X.env x=pure x) :
  PS X (.Assign [.Name y py] (.ListComp elt [⟨tg,iter,ifs,0⟩] scope pos) F) (lS X λD I G=>fx pick ti g tc te I G (λu R=>Yc (.n i) u I λO=>D.nx O R) λx R=>D.ex x I R):=by
 refine(zM hN Z hy hc S hw hg hi he xa hs).imp λD σ H h=>?_;obtain⟨De,I,G,j,Y,h,ld⟩:=h;exact IC hp ⟨I,G,_,_,j,Y,h,λw v G' H' r hr f q=>ld.nx _ _ G' H' ((j.ts (f.ts Y)).set r i) hr f q,ld.lx j Y⟩
def cC  : TSet:=λo i v H Q=>∃a j,o=.ref a/\DPut H a i v j/\Q j
def yU  (hu:X.A.units+1<bc):PSet X cC:=by
 intro j s σ H o i v ov Z u Q I y J F h;obtain⟨a,O,rfl,g,q⟩:=h;cases y;exact QT hu I g J F λY R=>⟨O,R,q⟩
def _root_.L2.PSet.or {t t':TSet}(h:PSet X t)(h':PSet X t'):PSet X λo i v H Q=>t o i v H Q\/t' o i v H Q:=by
 intro j s R H o i v Y J u Q I y O F q;rcases q with q|q
 ·exact h j s R H o i v Y J u Q I y O F q
 ·exact h' j s R H o i v Y J u Q I y O F q
def WR       {Y:Hp->Prop}(rx:RU X.K H x v)(Z:RU X.K H y v')(O:RU X.K H w R)(F:HR X.K H G)(h:setU x y w G k)
  (q:∀G' H',HR X.K H' G'->Fr H G H' G'->k G'->Y H'):dC v v' R H Y\/cC v v' R H Y:=by
 cases x with
 |loc a=>
  cases rx;unfold setU at h;dsimp only at h;split at h
  ·rename_i xs g;obtain⟨vs,e,I⟩:=F.lst g;cases y with
   |int i=>
    cases Z;dsimp only at h;split at h
    ·rename_i j ej;refine .inl ⟨a,vs,i,j,rfl,rfl,e,by rw[<- I.length];exact ej,?_⟩
     exact q _ _ (F.write (mo':=.lst (xs.set j w)) g ⟨_,sf,(I.set O j).ts (TS.write F g)⟩) (Fr.write g) h.at
    lia
   |_=>lia
  ·rename_i J g;obtain⟨l,e,I⟩:=F a _ g;split at h
   ·rename_i k' ek;have:=Hj Z ek;subst this;refine .inr ⟨a,_,rfl,DPut.k e (by rw[<- I.length];exact h.1),?_⟩
    exact q _ _ (F.write (mo':=.dK (dPut J k' w)) g ⟨_,sf,(I.put O).ts (TS.write F g)⟩) (Fr.write g) h.2.at
   lia
  ·rename_i J g;obtain⟨l,e,I⟩:=F a _ g;cases y with
   |tup ys=>
    obtain⟨b,ws,rfl,eb,rb⟩:=Z;dsimp only at h;split at h
    ·rename_i k' ek;have:=nu rb ek;subst this;refine .inr ⟨a,_,rfl,DPut.t e eb (by rw[<- I.length];exact h.1),?_⟩
     exact q _ _ (F.write (mo':=.dT (dPut J k' w)) g ⟨_,sf,(I.put O).ts (TS.write F g)⟩) (Fr.write g) h.2.at
    lia
   |_=>lia
  lia
 |_=>exact h.elim
def s_set {o i:La}{to ti:UE}{j:Pos}(hu:X.A.units+1<bc)(he:PE X e (lE X te))(ho:PE X o (lE X to))(hi:PE X i (lE X ti))(hs:Bi [.Subscript o i j] e pos.line X.env=pure ua)(hw:vh [.Subscript o i j] e X.env=pure Aa)
  (h1:(ng [.Subscript o i j] X.env).map (·.2)=[Jc (.Subscript o i j) X.env]) (ha:∀v,Jc (.Subscript o i j) X.env v=(do
   let ov <- Ec [v] (Xa o X.env)
   let iv <- Ec [v,ov] (Xa i X.env)
   re j
   Ec [v,ov,iv] (Ji ov iv v)
   release [v,ov,iv] [])):PS X (.Assign [.Subscript o i j] e pos) (lS X λD F G=>te F G (λv R=>to F R (λx G2=>ti F G2 (λy G3=>setU x y v G3 λG4=>D.nx F G4) λx R=>D.ex x F R) λx R=>D.ex x F R) λx R=>D.ex x F R):=by
 refine(Mx he (ZO ho hi (PSet.or zU (yU hu)) ha) hs hw h1).imp λD σ H ⟨De,F,G,Z,hG,h,ld⟩=>?_;refine⟨F,G,_,_,Z,hG,h,λw v R H1 ja Y f1 h1=>?_,ld.lx Z hG⟩;have O:=Z.ts (f1.ts hG);refine⟨F,R,_,_,O,Y,h1,λx vx G2 H2 rx I f2 h2=>?_,(ld.fr f1).lx O Y⟩;have J:=O.ts (f2.ts Y);refine⟨F,G2,_,_,J,I,h2,λy vy G3 H3 ry xa f3 h3=>?_,(ld.fr (f1.trans f2)).lx J I⟩;have za:=J.ts (f3.ts I);exact WR (rx.ts (f3.ts I)) ry ((ja.ts (f2.ts Y)).ts (f3.ts I)) xa h3 λG' H' hr f q=>ld.nx F σ G' H' (za.ts (f.ts xa)) hr (((f1.trans f2).trans f3).trans f) q
def VW  (X:Cx)(o:Vl):Prop:=∃r:Cw,sL X o r/\∀x y v F G H Q j,RU X.K H x v->RU X.K H y F->HR X.K H G->Wt o x y G Q->LV X H G Q j->r v F H j
open PySem PySem.Spec PyProof.Rows in
def vW:uf (.type "tuple") (dunderI "add")=pure Aa:=by rw[dm,om];kernel_rfl
open PySem PySem.Spec PyProof.Rows in
def JT {X:Cx}:Cc X (Zl .Add) (kC X.K):=by
 intro ya s σ H x y v u Q I rx ry h;obtain⟨a,b,xs,ys,rfl,rfl,ha,hb,hz,q0,q1,q2⟩:=h;cases rx;cases ry;obtain⟨F,r1,p1,_⟩:=I.tuple ha;obtain⟨j,r2,p2,_⟩:=I.tuple hb;have l1:=r1.length;have l2:=r2.length;obtain⟨⟨ka,dd,wa,sl⟩,O,hc,n,hd⟩:=id p1;obtain⟨⟨va,Y,ja,R⟩,J,za,n2,xa⟩:=id p2;simp only at hc hd za xa;subst hc hd za xa;have e:F.toArray++j.toArray=(F++j).toArray:=by simp
 refine wpAny_inplaceOp_concat ⟨_,O,rfl⟩ ⟨_,J,rfl⟩ vW Vv Fv ?_;by_cases Z:xs=[]
 ·have hv:F=[]:=r1.nil_iff.mpr Z;subst hv;exact uh Jo ⟨_,O,rfl⟩ Ko (Go _ _) (tuple_addW0 a b _ j.toArray n n2 dd Y sl R rfl) ⟨O,J,⟨.ref b,H,I,rfl,q0 Z⟩⟩
 ·have hv:F≠[]:=λz=>Z (r1.nil_iff.mp z);by_cases hy:ys=[]
  ·have hw:j=[]:=r2.nil_iff.mpr hy;exact uh Jo ⟨_,O,rfl⟩ Ko (Go _ _) (tuple_addW1 a b F.toArray j.toArray n n2 dd Y sl R (by simpa using hv) (by simp[hw])) ⟨O,J,⟨.ref a,H,I,rfl,q1 Z hy⟩⟩
  ·have hw:j≠[]:=λz=>hy (r2.nil_iff.mp z);refine uh Jo ⟨_,O,rfl⟩ Ko (Go _ _) (tuple_addW2 a b F.toArray j.toArray n n2 dd Y sl R (by simpa using hv) (by simpa using hw) (by rw[Zc,Zc];lia)) ⟨O,J,?_⟩
   rw[e];refine⟨.ref s.heap.objs.size,_,I.laid (t':=s.toks) (o:=.tup (xs++ys)) (λb ob q=>Nc _ q) (Fb _) ?_,rfl,q2 Z hy _ (I.hok.fresh (Fb _))⟩;exact⟨by rw[Xf];exact hz,_,r1.append r2,TupD.new _ _⟩
def EN   o:VW X o:=by
 cases o with
 |Add=>
  refine⟨_,(Cc.or (UR (X:=X)) (WV.or JT)),λx y v v' G H Q Y J I j h F=>?_⟩;cases x<;>try exact h.elim
  ·cases y<;>try exact h.elim
   cases J;cases I;exact .inl ⟨_,_,rfl,rfl,F.int j h⟩
  ·cases y<;>try exact h.elim
   cases J;cases I;exact .inr (.inl ⟨_,_,rfl,rfl,h.1,F.str j h.2⟩)
  ·cases y<;>try exact h.elim
   rename_i O ys;obtain⟨a,Z,rfl,s1,r1⟩:=J;obtain⟨b,R,rfl,s2,r2⟩:=I;obtain⟨hl,q⟩:=h;refine .inr (.inr ⟨a,b,Z,R,rfl,rfl,.of s1,.of s2,by rw[<- r1.length,<- r2.length];exact hl,λz=>?_,λ_ z=>?_,λ_ _ p hp=>?_⟩)
   ·have:O=[]:=by have:=r1.length;simp_all
    subst this;exact F.here (w:=.tup ys) ⟨b,R,rfl,s2,r2⟩ j q
   ·have:ys=[]:=by have:=r2.length;simp_all
    subst this;rw[im]at q;exact F.here (w:=.tup O) ⟨a,Z,rfl,s1,r1⟩ j q
   ·exact F.tup hp (r1.append r2) j q
 |Sub=>
  refine⟨_,mR (X:=X),λx y v v' G H Q Y J I j h F=>?_⟩;cases x<;>try exact h.elim
  cases y<;>try exact h.elim
  cases J;cases I;exact⟨_,_,rfl,rfl,F.int j h⟩
 |Mult=>
  refine⟨_,VR (X:=X),λx y v v' G H Q Y J I j h F=>?_⟩;cases x<;>try exact h.elim
  cases y<;>try exact h.elim
  cases J;cases I;exact⟨_,_,rfl,rfl,h.1,F.int j h.2⟩
 |_=>exact⟨λ_ _ _ _=>False,λ_ _ _ _ _ _ _ _ _ _ _ _ h=>h.elim,λ_ _ _ _ _ _ _ _ _ _ _ h _=>h.elim⟩
def s_aug      (hN:X.N.Nodup)(hi:X.N[i]?=ia x)(hx:Mm X.env.scope x)(hf:X.fn x=la\/X.env.scope.names.lookup x=ia .local)(he:PE X e (lE X te)) :
  PS X (.AugAssign (.Name x xa) o e pos) (lS X λD F G=>slot F i λx=>te F G (λy I=>Wt o x y I λz R=>D.nx (F.set i (ia z)) R) λx I=>D.ex x F I):=by
 obtain⟨r,h1,h2⟩:=EN (X:=X) o;refine(cP hN hi hx he h1 hf).imp λD σ H ⟨De,F,G,j,O,h,ld⟩=>?_;dsimp only at h;unfold slot at h;split at h
 ·rename_i u eu;obtain⟨v,ev,ru⟩:=j.2 i u eu;refine⟨v,ev,F,G,_,_,j,O,h,λy vy I H1 ry J f1 h1=>?_,ld.lx j O⟩;exact h2 u y v vy I H1 _ _ (ru.ts (f1.ts O)) ry J h1 λw vw R H2 Y Z f2 q=>ld.nx _ _ R H2 (((j.ts (f1.ts O)).ts (f2.ts J)).set Y i) Z (f1.trans f2) q
 lia
def _root_.L2.PGet.or {t t':V->V->Hp->VK->Prop}(h:PGet X t)(h':PGet X t'):PGet X λo i H Q=>t o i H Q\/t' o i H Q:=by
 intro j s O H o i R F Q I y J q;rcases q with q|q
 ·exact h j s O H o i R F Q I y J q
 ·exact h' j s O H o i R F Q I y J q
def s_par2        (hc:X.calm=la)(hN:X.N.Nodup)(hi:X.N[i]?=ia x)(hj:X.N[j]?=ia y)(Z:i≠j)
  (hx:X.env.scope.names.lookup x=ia .local) (hy:X.env.scope.names.lookup y=ia .local) (ha:PA X [a,b] (lA X ts))
  (hw:vh [.Tuple [.Name x px,.Name y py] kt pt] (.Tuple [a,b] k2 I) X.env=pure (ia [x,y])) (hs:Bi [.Tuple [.Name x px,.Name y py] kt pt] (.Tuple [a,b] k2 I) pos.line X.env=pure ua) :
  PS X (.Assign [.Tuple [.Name x px,.Name y py] kt pt] (.Tuple [a,b] k2 I) pos) (lS X λD J G=>ts J G (λus O=>us.length=[i,j].length/\D.nx (([i,j].zip us).foldl (λs p=>s.set p.1 (ia p.2)) J) O) λx O=>D.ex x J O):=by
 refine(GQ hc hN hi hj Z hx hy ha hw hs).imp λD σ H ⟨De,J,G,F,Y,h,ld⟩=>?_;refine⟨J,G,_,_,F,Y,h,λus vs O H1 R xa f1 h1=>?_,ld.lx F Y⟩;obtain⟨h1,h2⟩:=h1
 match us,h1,h2,R with
 |[u,w],_,h2,R=>
  obtain⟨v,v',rfl,r1,r2⟩:=R.two;exact⟨v,v',rfl,ld.nx _ _ O H1 (((F.ts (f1.ts Y)).set r1 i).set r2 j) xa f1 h2⟩
def s_for       (hp:aj (Ka X.prog X.w) X.A X.env X.xe)(hc:X.calm=la)(hi:PI X tg iter (lI X ti))(hg:PG X tg (lG X.K (Yc g)))(hb:Ce X body (lS X tb))
  (hs:∀x,Oh iter X.env x=pure x):PS X (.For tg iter body [] pos) (lS X λD ς G=>ti ς G (λxs ok Z=>forL ok (λx F O k=>Yc g x F λj=>tb { D with nx:=k } j O) xs ς Z D.nx) λx Z=>D.ex x ς Z):=by
 refine(EQ hp hc hi hg hb hs).imp λD σ H ⟨De,ς,G,xa,hG,h,ld⟩=>?_;refine⟨ς,G,_,_,xa,hG,h,λxs ok Z H1 J ja f1 wk h1=>?_,ld.lx xa hG⟩;refine⟨λi m va H'=>m=xs.length-i/\i<=xs.length/\∃I R,SR X.K H' I va/\HR X.K H' R/\Fr H1 Z H' R/\forL ok (λx F O k=>Yc g x F λj=>tb { De with nx:=k } j O) (xs.drop i) I R De.nx,⟨xs.length,by simp,He _,ς,Z,xa.ts (f1.ts hG),ja,Fr.refl _ _,by simp_all⟩,?_⟩
 rintro i m va H' ⟨rfl,hi',I,R,sr,hr,f,hc'⟩;by_cases za:i<xs.length
 ·rw[jB za]at hc';obtain⟨Y,ha⟩:=hc';obtain⟨w1,_⟩:=wk i H' R (f.ts ja) hr Y;obtain⟨go,yl⟩:=w1 xs[i] (by simp[za])
  refine .inr ⟨go,λya H2=>∃j O,SR X.K H2 j ya/\HR X.K H2 O/\Fr H1 Z H2 O/\forL ok (λx F O k=>Yc g x F λj=>tb { De with nx:=k } j O) (xs.drop (i+1)) j O De.nx,λya H2 q=>⟨xs.length-(i+1),by lia,rfl,za,q⟩,λv wa y=>?_⟩
  obtain⟨rx,xb,f2⟩:=yl v wa y;refine⟨xs[i],I,_,rx,sr.ts (f2.ts hr),ha,λj ya zb hk=>?_⟩;have f3:=(f1.trans f).trans f2;refine⟨_,j,R,zb,xb,hk,(ld.fr f3).with (λka jb G3 H3 a b c d=>⟨ka,G3,a,b,(f.trans f2).trans c,d⟩) rfl⟩
 ·have e:i=xs.length:=by lia
  subst e;rw[zJ]at hc';obtain⟨Y,q⟩:=hc';exact .inl ⟨(wk xs.length H' R (f.ts ja) hr Y).2 rfl,ld.nx I va R H' sr hr (f1.trans f) q⟩
def s_wh      (hp:aj (Ka X.prog X.w) X.A X.env X.xe)(hc:PT X c (lT X tc))(hb:Ce X body (lS X tb)) :
  PS X (.While c body [] pos) (lS X λD ς G=>∃W:Nat->Sg->Gp->Prop,(∃m,W m ς G)/\∀m F G1,W m F G1->
   tc F G1 (λt G2=>if t=la then tb { D with nx:=λj I=>∃O,O<m/\W O j I } F G2 else D.nx F G2) λx G1=>D.ex x F G1):=by
 refine(rT hp hc hb).imp λD σ H ⟨De,ς,G,ja,hG,h,ld⟩=>?_;obtain⟨W,⟨m0,w0⟩,xa⟩:=h;refine⟨λm Y H'=>∃j I,SR X.K H' j Y/\HR X.K H' I/\Fr H G H' I/\W m j I,⟨m0,ς,G,ja,hG,Fr.refl _ _,w0⟩,?_⟩;rintro m Y H' ⟨j,I,sr,hr,f,w⟩;refine⟨j,I,_,_,sr,hr,xa m j I w,λb G2 H2 za f2 q=>?_,(ld.fr f).lx sr hr⟩;cases b with
 |true=>
  rw[if_pos rfl]at q ⊢;refine⟨λJ Z=>∃y R,SR X.K Z y J/\HR X.K Z R/\Fr H G Z R/\∃O,O<m/\W O y R,λJ Z ⟨y,R,a,b,c,O,hm,w'⟩=>⟨O,hm,y,R,a,b,c,w'⟩,?_⟩;exact⟨_,j,G2,sr.ts (f2.ts hr),za,q,(ld.fr (f.trans f2)).with (λy J R Z a b c d=>⟨y,R,a,b,(f.trans f2).trans c,d⟩) rfl⟩
 |false=>
  rw[if_neg Ld]at q ⊢;exact ld.nx j Y G2 H2 (sr.ts (f2.ts hr)) za (f.trans f2) q
end
structure Bc where
 N:List Str
 sc:List (Str×Rf)
noncomputable def kd  (c:Bc)(x:Str)(k:Rf):Bool:=c.sc.lookup x==ia k
def Yd  (c:Bc)(x:Str):Bool:=kd c x .globalImplicit && !(x==("__debug__" : Str))
noncomputable def cx  : La->List Str
 |.Name x _=>[x]
 |_=>[]
def mM  : La->List Str
 |.Tuple j _ _=>j.flatMap cx
 |e=>cx e
def gS  : La->List Str
 |.Tuple j _ _=>j.flatMap mM
 |e=>cx e
noncomputable def zE  : List String:=["bool", "int", "str", "list", "tuple", "dict"]
def cOkS  (c:Bc)(N:List Str)(pick:List (Option Nat))(scope:Rc):Bool:=
 decide (scope.kind=.function)&&scope.names.all (λy=>y.2 != .cell||scope.names.lookup y.1==ia .cell)&&scope.names.all (λy=>y.2 != .local||scope.names.lookup y.1==ia .local)
  && scope.names.all (λy=>y.2 != .free||(scope.names.lookup y.1==ia .free&&(kd c y.1 .cell||kd c y.1 .free)))
  && pick.length==N.length&&(N.zip pick).all (λp=>match p.2 with|none=>la|some j=>c.N[j]?==ia p.1&&scope.names.lookup p.1==ia .free)&&decide N.Nodup
noncomputable def Cu  : La->Bool
 |.Call (.Name _ _) [] [] _=>ua
 |_=>la
noncomputable def e0  : La:=.Name "" ⟨0,0,0,0⟩
def hd  : List La->La
 |[]=>e0
 |e::_=>e
def c0  : La->La
 |.BinOp l _ _ _=>l
 |.UnaryOp _ x _=>x
 |.IfExp t _ _ _=>t
 |.Compare l _ _ _=>l
 |.Subscript v _ _=>v
 |.Attribute v _ _=>v
 |.Call f _ _ _=>f
 |.ListComp e _ _ _=>e
 |.FormattedValue v _ _ _=>v
 |_=>e0
def c1  : La->La
 |.BinOp _ _ r _=>r
 |.IfExp _ b _ _=>b
 |.Subscript _ s _=>s
 |_=>e0
def c2  : La->La
 |.IfExp _ _ b _=>b
 |_=>e0
noncomputable def cl  : La->List La
 |.BoolOp _ j _=>j
 |.Compare _ _ j _=>j
 |.Call _ j _ _=>j
 |.List j _=>j
 |.Tuple j _ _=>j
 |.Dict _ j _=>j
 |.JoinedStr j _=>j
 |_=>[]
noncomputable def kk  : La->Nat
 |.Constant _ k _=>k
 |.Tuple _ k _=>k
 |_=>0
def oe  : Option La->La
 |some e=>e
 |none=>e0
def dk  : La->List La
 |.Dict j _ _=>j.map oe
 |_=>[]
def gen1  : La->Dv
 |.ListComp _ (g::_) _ _=>g
 |_=>⟨e0,e0,[],0⟩
noncomputable def Os  : La->Rc
 |.ListComp _ _ s _=>s
 |_=>⟨.module,[],ua,ua,[]⟩
def s0  : La->La
 |.Slice (ia e) _ _ _=>e
 |_=>e0
def s1  : La->La
 |.Slice _ (ia e) _ _=>e
 |_=>e0
def s2  : La->La
 |.Slice _ _ (ia e) _=>e
 |_=>e0
noncomputable def uc  (c:Bc)(i:Nat):Str:=c.N.getD i ""
noncomputable def Yn  : Bool->PySem.BoolOp
 |true=>.And
 |false=>.Or
noncomputable def qg  : Es->Nat
 |.nil=>0
 |.cons _ j=>qg j+1
noncomputable def Lq  : bh->Nat
 |.nil=>0
 |.cons _ ts=>Lq ts+1
noncomputable def uJ  : Tg->Bool
 |.t _=>la
 |.n _=>ua
noncomputable def isLc  : E->Bool
 |.lc ..=>la
 |_=>ua
def cc  (c:Bc)(pick:List (Option Nat))(h:La):Bc:=⟨gS (gen1 h).target++(pick.filterMap id).filterMap (λj=>c.N[j]?),(Os h).names⟩
mutual
noncomputable def unTg (c:Bc):Tg->La->La
 |.n i,h=>.Name (uc c i) h.pos
 |.t ts,h=>.Tuple (Nj c ts (cl h)) (kk h) h.pos
noncomputable def Nj (c:Bc):bh->List La->List La
 |.nil,_=>[]
 |.cons t ts,hs=>unTg c t (hd hs)::Nj c ts hs.tail
end
def Dj  (c:Bc)(i:Nat):Bool:=decide (i<c.N.length)&&(kd c (uc c i) .local||kd c (uc c i) .cell)
mutual
noncomputable def okTg (c:Bc):Tg->Bool
 |.n i=>Dj c i
 |.t ts=>ux c ts
noncomputable def ux (c:Bc):bh->Bool
 |.nil=>la
 |.cons t ts=>okTg c t&&ux c ts
end
section
variable (T:Je)
noncomputable def mv (n:Nat):Str:=match T.funs[n]? with
 |some d=>d.name
 |none => ""
mutual
noncomputable def Yb (c:Bc):E->La->La
 |.v i,h=>.Name (uc c i) h.pos
 |.non,h=>.Constant .none (kk h) h.pos
 |.bl b,h=>.Constant (.bool b) (kk h) h.pos
 |.int i,h=>.Constant (.int i) (kk h) h.pos
 |.str x,h=>.Constant (.str x) (kk h) h.pos
 |.g n,h=>.Name (T.gn.getD n "") h.pos
 |.ty n,h=>.Name (bj n) h.pos
 |.bin o a b,h=>.BinOp (Yb c a (c0 h)) o (Yb c b (c1 h)) h.pos
 |.neg a,h=>.UnaryOp .USub (Yb c a (c0 h)) h.pos
 |.not a,h=>.UnaryOp .Not (Yb c a (c0 h)) h.pos
 |.bop k a es,h=>.BoolOp (Yn k) (Yb c a (hd (cl h))::unEs c es (cl h).tail) h.pos
 |.cmp o a b,h=>.Compare (Yb c a (c0 h)) [o] [Yb c b (hd (cl h))] h.pos
 |.cmp2 o p a b d,h=>.Compare (Yb c a (c0 h)) [o,p] [Yb c b (hd (cl h)),Yb c d (hd (cl h).tail)] h.pos
 |.ife t a b,h=>.IfExp (Yb c t (c0 h)) (Yb c a (c1 h)) (Yb c b (c2 h)) h.pos
 |.tup es,h=>.Tuple (unEs c es (cl h)) (kk h) h.pos
 |.lst es,h=>.List (unEs c es (cl h)) h.pos
 |.dic es,h=>.Dict (eh c es (dk h)) (Pm c es (cl h)) h.pos
 |.ix a b,h=>.Subscript (Yb c a (c0 h)) (Yb c b (c1 h)) h.pos
 |.sl a lo hi,h=>.Subscript (Yb c a (c0 h)) (.Slice (Gw c lo (s0 (c1 h))) (Gw c hi (s1 (c1 h))) Aa (c1 h).pos) h.pos
 |.rev a b,h=>.Subscript (Yb c a (c0 h)) (.Slice Aa Aa (ia (Yb c b (s2 (c1 h)))) (c1 h).pos) h.pos
 |.call n es,h=>.Call (.Name (mv T n) (c0 h).pos) (unEs c es (cl h)) [] h.pos
 |.blt b es,h=>.Call (.Name (bltN b) (c0 h).pos) (unEs c es (cl h)) [] h.pos
 |.meth m o es,h=>.Call (.Attribute (Yb c o (c0 (c0 h))) (mthN m) (c0 h).pos) (unEs c es (cl h)) [] h.pos
 |.lc pick t it ifs d,h=>.ListComp (Yb (cc c pick h) d (c0 h)) [⟨unTg (cc c pick h) t (gen1 h).target,unI c it (gen1 h).iter,unEs (cc c pick h) ifs (gen1 h).ifs,0⟩] (Os h) h.pos
 |.mkD d,h=>.Call (.Name "list" (c0 h).pos) [Yb c d (hd (cl h))] [] h.pos
 |.mkL d,h=>.Call (.Name "list" (c0 h).pos) [Yb c d (hd (cl h))] [] h.pos
 |.mkT d,h=>.Call (.Name "tuple" (c0 h).pos) [Yb c d (hd (cl h))] [] h.pos
 |.rngL d,h=>.Call (.Name "list" (c0 h).pos) [.Call (.Name "range" (c0 (hd (cl h))).pos) [Yb c d (hd (cl (hd (cl h))))] [] (hd (cl h)).pos] [] h.pos
noncomputable def Gw (c:Bc):Eo->La->Option La
 |.no,_=>Aa
 |.so d,h=>ia (Yb c d h)
noncomputable def unEs (c:Bc):Es->List La->List La
 |.nil,_=>[]
 |.cons d es,hs=>Yb c d (hd hs)::unEs c es hs.tail
noncomputable def eh (c:Bc):Es->List La->List (Option La)
 |.cons d (.cons _ es),hs=>ia (Yb c d (hd hs))::eh c es hs.tail
 |_,_=>[]
noncomputable def Pm (c:Bc):Es->List La->List La
 |.cons _ (.cons d es),hs=>Yb c d (hd hs)::Pm c es hs.tail
 |_,_=>[]
noncomputable def AL (c:Bc):Es->List La->List La
 |.nil,_=>[]
 |.cons d es,hs=>(match d with
  |.str x=>.Constant (.str x) (kk (hd hs)) (hd hs).pos
  |d=>.FormattedValue (Yb c d (c0 (hd hs))) (-1) Aa (hd hs).pos)::AL c es hs.tail
noncomputable def unI (c:Bc):It->La->La
 |.e d,h=>Yb c d h
 |.r1 d,h=>.Call (.Name "range" (c0 h).pos) [Yb c d (hd (cl h))] [] h.pos
 |.r2 a b,h=>.Call (.Name "range" (c0 h).pos) [Yb c a (hd (cl h)),Yb c b (hd (cl h).tail)] [] h.pos
 |.enum d,h=>.Call (.Name "enumerate" (c0 h).pos) [Yb c d (hd (cl h))] [] h.pos
 |.dv d,h=>.Call (.Attribute (Yb c d (c0 (c0 h))) "values" (c0 h).pos) [] [] h.pos
 |.di d,h=>.Call (.Attribute (Yb c d (c0 (c0 h))) "items" (c0 h).pos) [] [] h.pos
end
mutual
noncomputable def Kc (c:Bc):E->La->Bool
 |.v i,_=>decide (i<c.N.length)&&(kd c (uc c i) .local||kd c (uc c i) .cell||kd c (uc c i) .free) && !(uc c i==("__debug__" : Str)) && !(uc c i==("__classdict__" : Str))
 |.non,_=>la
 |.bl _,_=>la
 |.int _,_=>la
 |.str _,_=>la
 |.g n,_=>decide (n<T.gs.length)&&decide (n<T.gn.length)&&Yd c (T.gn.getD n "")
 |.ty n,_=>zE.contains n&&Yd c (bj n)
 |.bin _ a b,h=>Kc c a (c0 h)&&Kc c b (c1 h)
 |.neg a,h=>Kc c a (c0 h)
 |.not a,h=>Kc c a (c0 h)
 |.bop _ a es,h=>Kc c a (hd (cl h))&&okEs c es (cl h).tail
 |.cmp o a b,h=>Kc c a (c0 h)&&Kc c b (hd (cl h)) && !behindInMarks o (Yb T c b (hd (cl h)))
 |.cmp2 o p a b d,h=>Kc c a (c0 h)&&Kc c b (hd (cl h))&&Kc c d (hd (cl h).tail) && !lastMarks [o,p] [Yb T c b (hd (cl h)),Yb T c d (hd (cl h).tail)]
 |.ife t a b,h=>Kc c t (c0 h)&&Kc c a (c1 h)&&Kc c b (c2 h)
 |.tup es,h=>okEs c es (cl h)
 |.lst es,h=>okEs c es (cl h)
 |.dic es,h=>ax c es (dk h) (cl h)&&decide (qg es<=30)
 |.ix a b,h=>Kc c a (c0 h)&&Kc c b (c1 h)
 |.sl a lo hi,h=>Kc c a (c0 h)&&Yw c lo (s0 (c1 h))&&Yw c hi (s1 (c1 h))
 |.rev a b,h=>Kc c a (c0 h)&&Kc c b (s2 (c1 h))
 |.call n es,h=>decide (n<T.funs.length)&&Yd c (mv T n)&&okEs c es (cl h)
 |.blt b es,h=>decide (0<qg es)&&Yd c (bltN b)&&okEs c es (cl h)
 |.meth _ o es,h=>Kc c o (c0 (c0 h))&&okEs c es (cl h)&&((c0 h).pos.endLine==h.pos.line)&&decide (qg es<30)&&Cu (Yb T c o (c0 (c0 h)))
 |.lc pick t it ifs d,h=>cOkS c (cc c pick h).N pick (Os h)&&(xj t).all (λi=>(pick[i]?).join.isNone)&&okTg (cc c pick h) t&&Zw c t it (gen1 h).iter&&okEs (cc c pick h) ifs (gen1 h).ifs&&decide (qg ifs<=1)&&Kc (cc c pick h) d (c0 h)
 |.mkD d,h=>Yd c "list" && Kc c d (hd (cl h))
 |.mkL d,h=>Yd c "list" && Kc c d (hd (cl h))
 |.mkT d,h=>Yd c "tuple" && Kc c d (hd (cl h))
 |.rngL d,h=>Yd c "list" && Yd c "range" && Kc c d (hd (cl (hd (cl h))))
noncomputable def Yw (c:Bc):Eo->La->Bool
 |.no,_=>la
 |.so d,h=>Kc c d h
noncomputable def okEs (c:Bc):Es->List La->Bool
 |.nil,_=>la
 |.cons d es,hs=>Kc c d (hd hs)&&okEs c es hs.tail
noncomputable def ax (c:Bc):Es->List La->List La->Bool
 |.nil,_,_=>la
 |.cons d (.cons f es),hs,gs=>Kc c d (hd hs)&&Kc c f (hd gs)&&ax c es hs.tail gs.tail
 |.cons _ .nil,_,_=>ua
noncomputable def eM (c:Bc):Es->List La->Bool
 |.nil,_=>la
 |.cons d es,hs=>(match d with
  |.str x=>decide (x.length<=10000)
  |d=>Kc c d (c0 (hd hs)))&&eM c es hs.tail
noncomputable def Zw (c:Bc)(t:Tg):It->La->Bool
 |.e d,h=>Kc c d h
 |.r1 d,h=>Yd c "range" && Kc c d (hd (cl h))
 |.r2 a b,h=>Yd c "range" && Kc c a (hd (cl h))&&Kc c b (hd (cl h).tail)
 |.enum d,h=>uJ t&&Yd c "enumerate" && Kc c d (hd (cl h))
 |.dv d,h=>Kc c d (c0 (c0 h))&&((c0 h).pos.endLine==h.pos.line)&&Cu (Yb T c d (c0 (c0 h)))
 |.di d,h=>uJ t&&Kc c d (c0 (c0 h))&&((c0 h).pos.endLine==h.pos.line)&&Cu (Yb T c d (c0 (c0 h)))
end
noncomputable def ZC  (ts:List La):Nat:=(ts.head?.map (·.pos.line)).getD 0
def af  (c:Bc)(ts:List La):List Str:=ts.filterMap fun
  |.Name j pos=>if c.sc.lookup j==ia .local&&pos.line==ZC ts then ia j else Aa
  |_=>Aa
noncomputable def mu  : La->Bool
 |.Starred ..=>la
 |_=>ua
def swapped  (c:Bc)(ts vs:List La):Bool:=
 (ts.length==2||ts.length==3)&&vs.length==ts.length && !(vs.any mu)&&(af c ts).length==ts.length&&(af c ts).eraseDups.length==(af c ts).length && !(vs.all (eA 8)) && !(vs.all (constantsAlone 8))
def Wy  (c:Bc)(ts vs:List La):Bool:=
 !(ts.length==2||ts.length==3)||vs.length != ts.length||(!(vs.any mu)&&((af c ts).length != ts.length||(af c ts).eraseDups.length != (af c ts).length||vs.all (eA 8)))
noncomputable def lcSw  (c:Bc)(y:Str)(j p:Pos)(s:Rc):Bool:=c.sc.lookup y==ia .local&&j.line==p.line && !(s.names.any λ(n,k)=>n==y&&(k == .local||k == .cell))
def q0  : Qa->La
 |.Expr e _=>e
 |.Assign _ e _=>e
 |.Return (ia e) _=>e
 |.AugAssign _ _ e _=>e
 |.If e _ _ _=>e
 |.While e _ _ _=>e
 |.For _ e _ _ _=>e
 |_=>e0
def q1  : Qa->La
 |.Assign (t::_) _ _=>t
 |.AugAssign t _ _ _=>t
 |.For t _ _ _ _=>t
 |_=>e0
def qr  : Qa->La
 |.Raise (ia e) _ _=>e
 |_=>e0
def IW  : Qa->La
 |.Try _ (.ExceptHandler (ia t) _ _ _::_) _ _ _=>t
 |_=>e0
noncomputable def KW  : Qa->List Qa
 |.Try _ (.ExceptHandler _ _ b _::_) _ _ _=>b
 |_=>[]
noncomputable def JW  : Qa->Pos
 |.Try _ (.ExceptHandler _ _ _ p::_) _ _ _=>p
 |_=>⟨0,0,0,0⟩
noncomputable def qa  : Qa->List Qa
 |.Try a _ _ _ _=>a
 |.If _ a _ _=>a
 |.While _ a _ _=>a
 |.For _ _ a _ _=>a
 |_=>[]
noncomputable def qb  : Qa->List Qa
 |.If _ _ b _=>b
 |_=>[]
noncomputable def qh  : List Qa->Qa
 |[]=>.Pass ⟨0,0,0,0⟩
 |s::_=>s
noncomputable def unNs  (c:Bc):List Nat->List La->List La
 |[],_=>[]
 |i::is,hs=>.Name (uc c i) (hd hs).pos::unNs c is hs.tail
noncomputable def unCs  : List Nat->List La->List La
 |[],_=>[]
 |k::ks,hs=>.Name (clsN k) (hd hs).pos::unCs ks hs.tail
section
variable (c:Bc)(n:Nat)
def unHL:HL->La->La
 |.v i,h=>.Name (uc c i) h.pos
 |.isiV,h=>.Call (.Name "isinstance" (c0 h).pos) [.Name (uc c n) (hd (cl h)).pos,.Name "ValueError" (hd (cl h).tail).pos] [] h.pos
 |.is1 k,h=>.Call (.Name "isinstance" (c0 h).pos) [.Name (uc c n) (hd (cl h)).pos,.Name (clsN k) (hd (cl h).tail).pos] [] h.pos
 |.isi ks,h=>.Call (.Name "isinstance" (c0 h).pos) [.Name (uc c n) (hd (cl h)).pos,.Tuple (unCs ks (cl (hd (cl h).tail))) (kk (hd (cl h).tail)) (hd (cl h).tail).pos] [] h.pos
def Nl:Bool×HL->La->La
 |(la,l),h=>.UnaryOp .Not (unHL c n l (c0 h)) h.pos
 |(ua,l),h=>unHL c n l h
noncomputable def zu:List (Bool×HL)->List La->List La
 |[],_=>[]
 |a::r,hs=>Nl c n a (hd hs)::zu r hs.tail
def yu (k:Bool)(a:Bool×HL):List (Bool×HL)->La->La
 |[],h=>Nl c n a h
 |b::r,h=>.BoolOp (Yn k) (Nl c n a (hd (cl h))::zu c n (b::r) (cl h).tail) h.pos
def unHA:HA->La->La
 |.str x,h=>.Constant (.str x) (kk h) h.pos
 |.att f,h=>.Attribute (.Name (uc c n) (c0 h).pos) f h.pos
noncomputable def Zt:List HA->List La->List La
 |[],_=>[]
 |a::r,hs=>unHA c n a (hd hs)::Zt r hs.tail
def unHV:HV->La->La
 |.cond k a as,h=>yu c n k a as h
 |.one a,h=>unHA c n a h
 |.bl b,h=>.Constant (.bool b) (kk h) h.pos
 |.tup as,h=>.Tuple (Zt c n as (cl h)) (kk h) h.pos
 |.lst as,h=>.List (Zt c n as (cl h)) h.pos
def wx (i:Nat)(e:HV)(h:Qa):Qa:=.Assign [.Name (uc c i) (q1 h).pos] (unHV c n e (q0 h)) h.pos
def unHS:HS->Qa->Qa
 |.asg i e,h=>wx c n i e h
 |.ifa k a as i e,h=>.If (yu c n k a as (q0 h)) [wx c n i e (qh (qa h))] [] h.pos
noncomputable def Ml:List HS->List Qa->List Qa
 |[],_=>[]
 |s::r,hs=>unHS c n s (qh hs)::Ml r hs.tail
end
section
variable (cs:List Nat)(c:Bc)
def Fh (k:Nat):Bool:=decide (1<=k)&&decide (k<6)&&cs.contains k&&Yd c (clsN k)
def okHL:HL->Bool
 |.v i=>decide (i<c.N.length)&&(kd c (uc c i) .local||kd c (uc c i) .cell||kd c (uc c i) .free) && !(uc c i==("__debug__" : Str)) && !(uc c i==("__classdict__" : Str))
 |.isiV=>Yd c "isinstance" && Yd c "ValueError"
 |.is1 k=>Yd c "isinstance" && Fh cs c k
 |.isi j=>Yd c "isinstance" && j.all (Fh cs c)&&decide (j.length<=8)
def Ql (as:List (Bool×HL)):Bool:=as.all λp=>okHL cs c p.2
def okHA  : HA->Bool
 |.str _=>la
 |.att f=>fldN.contains f
def okHV:HV->Bool
 |.cond _ a j=>okHL cs c a.2&&Ql cs c j
 |.one a=>okHA a
 |.bl _=>la
 |.tup j=>j.all okHA&&decide (j.length<=8)
 |.lst j=>j.all okHA&&decide (j.length<=8)
def okHS (n:Nat):HS->Bool
 |.asg i e=>Dj c i&&decide (i≠n)&&okHV cs c e
 |.ifa _ a j i e=>okHL cs c a.2&&Ql cs c j&&Dj c i&&decide (i≠n)&&okHV cs c e
end
mutual
noncomputable def Qm (c:Bc):S->Qa->Qa
 |.expr d,h=>.Expr (Yb T c d (q0 h)) h.pos
 |.asg t d,h=>.Assign [unTg c t (q1 h)] (Yb T c d (q0 h)) h.pos
 |.asgC i d,h=>.Assign [.Name (uc c i) (q1 h).pos] (Yb T c d (q0 h)) h.pos
 |.setS o i d,h=>.Assign [.Subscript (Yb T c o (c0 (q1 h))) (Yb T c i (c1 (q1 h))) (q1 h).pos] (Yb T c d (q0 h)) h.pos
 |.par is es,h=>.Assign [.Tuple (unNs c is (cl (q1 h))) (kk (q1 h)) (q1 h).pos] (.Tuple (unEs T c es (cl (q0 h))) (kk (q0 h)) (q0 h).pos) h.pos
 |.aug i o d,h=>.AugAssign (.Name (uc c i) (q1 h).pos) o (Yb T c d (q0 h)) h.pos
 |.ite t a b,h=>.If (Yb T c t (q0 h)) (unSs c a (qa h)) (unSs c b (qb h)) h.pos
 |.fr t it b,h=>.For (unTg c t (q1 h)) (unI T c it (q0 h)) (unSs c b (qa h)) [] h.pos
 |.wh t b,h=>.While (Yb T c t (q0 h)) (unSs c b (qa h)) [] h.pos
 |.ret d,h=>.Return (ia (Yb T c d (q0 h))) h.pos
 |.raise k es,h=>.Raise (ia (.Call (.Name (clsN k) (c0 (qr h)).pos) (unEs T c es (cl (qr h))) [] (qr h).pos)) Aa h.pos
 |.tr b k n hs,h=>.Try (unSs c b (qa h)) [.ExceptHandler (ia (.Name (clsN k) (IW h).pos)) (ia (uc c n)) (Ml c n hs (KW h)) (JW h)] [] [] h.pos
noncomputable def unSs (c:Bc):Ss->List Qa->List Qa
 |.nil,_=>[]
 |.cons s r,hs=>Qm c s (qh hs)::unSs c r hs.tail
end
def fM (c:Bc):Tg->E->Qa->Bool
 |.n i,.lc ..,_=>!(kd c (uc c i) .local)
 |.t _,.lc ..,_=>ua
 |.t ts,.tup es,h=>Wy c (Nj c ts (cl (q1 h))) (unEs T c es (cl (q0 h)))
 |_,_,_=>la
noncomputable def okNs  (c:Bc):List Nat->Bool
 |[]=>la
 |i::is=>decide (i<c.N.length)&&kd c (uc c i) .local && !(is.contains i)&&okNs c is
mutual
noncomputable def Wm (c:Bc):S->Qa->Bool
 |.expr d,h=>Kc T c d (q0 h) && !isLc d
 |.asg t d,h=>Kc T c d (q0 h)&&okTg c t&&fM T c t d h
 |.asgC i d,h=>isLc d&&Kc T c d (q0 h)&&decide (i<c.N.length)&&lcSw c (uc c i) (q1 h).pos (q0 h).pos (Os (q0 h))
 |.setS o i d,h=>Kc T c d (q0 h)&&Kc T c o (c0 (q1 h))&&Kc T c i (c1 (q1 h))
 |.par is es,h=>okEs T c es (cl (q0 h))&&okNs c is&&swapped c (unNs c is (cl (q1 h))) (unEs T c es (cl (q0 h)))&&decide (is.length=2)
 |.aug i _ d,h=>Dj c i&&Kc T c d (q0 h)
 |.ite t a b,h=>Kc T c t (q0 h)&&okSs c a (qa h)&&okSs c b (qb h)
 |.fr t it b,h=>okTg c t&&Zw T c t it (q0 h)&&okSs c b (qa h)
 |.wh t b,h=>Kc T c t (q0 h)&&okSs c b (qa h)
 |.ret d,h=>Kc T c d (q0 h)
 |.raise k es,h=>Fh T.cs c k&&decide (0<qg es)&&okEs T c es (cl (qr h))
 |.tr b k n hs,h=>okSs c b (qa h)&&decide (k=0)&&Yd c (clsN k)&&decide (n<c.N.length)&&kd c (uc c n) .local && !(uc c n==("__debug__" : Str)) && !(uc c n==("__classdict__" : Str)) && !hs.isEmpty&&hs.all (okHS T.cs c n)
noncomputable def okSs (c:Bc):Ss->List Qa->Bool
 |.nil,_=>la
 |.cons s r,hs=>Wm c s (qh hs)&&okSs c r hs.tail
end
end
def gi  (K:Nb)(t:List U->Gp->K1->KX->Prop):Sp:=λO H J E0=>∃F G Q E,Pb K H F O/\HR K H G/\t F G Q E/\(∀w v y j,RU K j w v->HR K j y->Fr H G j y->Q w y->J v j)/\
 ∀x y j C I,XD K j C I x->HR K j y->Fr H G j y->E x y->E0 (.ref C) (ia I) j
def xL  (P:Rb)(w:Db)(K:Nb)(mg:Str->Option Da)(base:Za)(k:Nat)(d:Fun)(t:List U->Gp->K1->KX->Prop):Prop:=
 ∃(f:Ba) (fd:Ul),FnOk P w K mg base (zf P w) (k+2) f fd d.ps (gi K t)/\mg d.name=ia (.ref f)/\Lh K (.ref f)=la/\Binds K fd d.ps []
noncomputable def Ti  : List Str:=["len", "repr", "min", "max", "sum", "all", "any", "sorted", "int", "str", "isinstance", "range", "enumerate", "list", "tuple", "bool", "dict", "ValueError", "set", "zip"]
structure Cok (T:Je)(k:Nat)(X:Cx)(c:Bc):Prop where
 hN:X.N=c.N
 nd:c.N.Nodup
 loc:∀x,kd c x .local=la->X.env.scope.names.lookup x=ia .local
 cel:∀x,kd c x .cell=la->X.env.scope.names.lookup x=ia .cell/\X.fn x=la
 fre:∀x,kd c x .free=la->X.env.scope.names.lookup x=ia .cell\/X.env.scope.names.lookup x=ia .free
 glb:∀x,kd c x .globalImplicit=la->Gl X x
 room:Room k X.A
 calm:X.calm=la
 po:aj (Ka X.prog X.w) X.A X.env X.xe
 blt:∀x∈Ti,X.mg x=Aa
 fns:∀(n:Nat) (d:Fun),T.funs[n]?=ia d->xL X.prog X.w X.K X.mg X.base k d (Bb T k n)
 gls:∀(n:Nat) (x:Str) (u:U),T.gn[n]?=ia x->T.gs[n]?=ia u->∃v w,X.mg x=ia w/\RelV v w/\∀H,RU X.K H u v
 room2:Room (k+2) X.A
 cls:∀n∈T.cs,1<=n->∃C,XCls X.K (gK X.K) (clsN n) (clsF n) C
 mgK:∀x v,gK X.K x=ia v->X.mg x=ia v
structure Rg (T:Je)(k:Nat)(X:Cx)(c:Bc):Prop extends Cok T k X c where
 sc:X.env.scope.names=c.sc
 kind:X.env.scope.kind=.function
 stk:X.stack=X.env::X.outer/\X.env.frame=ia X.env.locals
section
variable {T:Je}{k:Nat}{X:Cx}{c:Bc}
def Cok.hu  (h:Cok T k X c):X.A.units+1<bc:=ZM h.room
def Cok.vis  (h:Cok T k X c)(v:(kd c x .local||kd c x .cell||kd c x .free)=la):Sh X.env.scope x:=by
 simp only[qo]at v;rcases v with(v|v)|v
 ·exact .inl (h.loc x v)
 ·exact .inr (.inl (h.cel x v).1)
 ·rcases h.fre x v with z|z
  ·exact .inr (.inl z)
  ·exact .inr (.inr z)
def Cok.store  (h:Cok T k X c)(v:(kd c x .local||kd c x .cell)=la):Mm X.env.scope x/\(X.fn x=la\/X.env.scope.names.lookup x=ia .local):=by
 simp only[qo]at v;rcases v with v|v
 ·exact⟨.inl (h.loc x v),.inr (h.loc x v)⟩
 ·exact⟨.inr (h.cel x v).1,.inl (h.cel x v).2⟩
def Cok.gl  (h:Cok T k X c)(v:Yd c x=la):Gl X x/\(x==("__debug__" : Str))=ua:=by
 unfold Yd at v;rw[Be]at v;exact⟨h.glb x v.1,by lia⟩
end
noncomputable def Hq  : La->Bool
 |.BoolOp ..|.BinOp ..|.UnaryOp ..|.IfExp ..|.Dict ..|.ListComp ..|.Compare ..|.Call ..|.Constant ..|.Subscript ..|.Name ..|.List ..|.Tuple ..|.JoinedStr ..=>la
 |_=>ua
section
variable {T:Je}{c:Bc}
def Of   ir h:Hq (Yb T c ir h)=la:=by cases ir<;>rfl
def Pf   (h:Hq e=la) es env:gc (e::es) env=(ua,Xa e env)::gc es env:=by
 cases e<;>first|rfl|cases h
def PR   (h:Hq e=la):Wx e:=by
 intro o i;cases e<;>first|rfl|cases h
def iF   (h:Hq e=la) env:∀x,Oh e env x=pure x:=by
 intro x;cases e<;>first|rfl|cases h
def xS   it h env:∀x,Oh (unI T c it h) env x=pure x:=by
 cases it with
 |e d=>exact iF (Of d _) env
 |_=>exact λ_=>rfl
def FT   (h:Hq i=la) env tpos:∀v,Jc (.Subscript o i tpos) env v=(Ec [v] (Xa o env) >>= λa=>Ec [v,a] (Xa i env) >>= λb=>re tpos >>= λ_=>Ec [v,a,b] (Ji a b v) >>= λ_=>release [v,a,b] []):=by
 intro v;cases i<;>first|rfl|cases h
def vS   (q:isLc j=ua) h env l:rh (Yb T c j h) Aa l env=pure ua:=by
 cases j<;>first|rfl|cases q
def yS   (q:isLc j=ua) h tg env l:Bi [tg] (Yb T c j h) l env=pure ua:=by
 cases j<;>first|rfl|cases q
def SC   ir h x y p env l:Bi [.Subscript x y p] (Yb T c ir h) l env=pure ua/\vh [.Subscript x y p] (Yb T c ir h) env=pure Aa:=by
 cases ir<;>exact⟨rfl,rfl⟩
def WN   ir h x p env:vh [.Name x p] (Yb T c ir h) env=pure Aa:=by
 cases ir<;>rfl
def wS   t h env:(ng [unTg c t h] env).map (·.2)=[Jc (unTg c t h) env]:=by
 cases t<;>rfl
def Iu   (h:Cu o=la) m env w:Qh o m env w=w:=by
 unfold Qh;split
 ·cases h
 ·rfl
theorem Tn  : ∀j hs env pos ,(Xb pos (gc (unEs T c j hs) env)).any (·.1)=ua/\(Xb pos (gc (unEs T c j hs) env)).all (λx=>!x.1)=la
 |.nil,_,_,_=>⟨rfl,rfl⟩
 |.cons d j,hs,env,pos=>by
  obtain⟨F,y⟩:=Tn j hs.tail env pos;show(Xb pos (gc (Yb T c d (hd hs)::unEs T c j hs.tail) env)).any (·.1)=ua/\(Xb pos (gc (Yb T c d (hd hs)::unEs T c j hs.tail) env)).all (λx=>!x.1)=la;rw[Pf (Of d _)];exact⟨by show(ua||(Xb pos (gc (unEs T c j hs.tail) env)).any (·.1))=ua;lia,by show(!false&&(Xb pos (gc (unEs T c j hs.tail) env)).all (λx=>!x.1))=la;lia⟩
theorem Tx  : ∀j hs ,(unEs T c j hs).length=qg j
 |.nil,_=>rfl
 |.cons _ j,hs=>congrArg (·+ 1) (Tx j hs.tail)
def ba   (h:(a&&b)=la):a=la/\b=la:=by lia
def bn   (h:(!a)=la):a=ua:=by lia
def Gq   (h:decide (i<c.N.length)=la):c.N[i]?=ia (uc c i):=by
 unfold uc
 simp_all
end
theorem yE  : ∀{ts } {us } {ς } {k },tgsU ts us ς k->us.length=Lq ts
 |.nil,us,ς,k,h=>by rw[h.1];rfl
 |.cons t ts,us,ς,k,h=>by
  cases us with
  |nil=>exact h.elim
  |cons u r=>
   have:∃j,tgsU ts r j k:=tg_some h;obtain⟨j,y⟩:=this;show r.length+1=Lq ts+1;rw[yE y]
where
 tg_some {t:Tg} {u:U} {ς:Sg} {P:Sg->Prop} (h:Yc t u ς P):∃ς',P ς':=by
  have:=Gu (k':=λ_=>∃ς',P ς') h λς' h'=>⟨ς',h'⟩;exact tg_const this
 tg_const:∀{t:Tg} {u:U} {ς:Sg} {P:Prop},Yc t u ς (λ_=>P)->P
  |.n _,_,_,_,h=>h
  |.t ts,u,ς,P,h=>by
   cases u with
   |tup us=>exact tgs_const (ts:=ts) (us:=us) h
   |_=>exact h.elim
 tgs_const:∀{ts:bh} {us:List U} {ς:Sg} {P:Prop},tgsU ts us ς (λ_=>P)->P
  |.nil,_,_,_,h=>h.2
  |.cons t ts,us,ς,P,h=>by
   cases us with
   |nil=>exact h.elim
   |cons u r=>exact tg_const (Gu (t:=t) h λς' h'=>tgs_const h')
section
variable {T:Je}{k:Nat}{X:Cx}{c:Bc}
theorem xy  : ∀ts hs env ,(ng (Nj c ts hs) env).length=Lq ts/\(ng (Nj c ts hs) env).findIdx? (·.1)=Aa
 |.nil,_,_=>⟨rfl,rfl⟩
 |.cons t ts,hs,env=>by
  obtain⟨j,y⟩:=xy ts hs.tail env;have e:ng (Nj c (.cons t ts) hs) env=(ua,Jc (unTg c t (hd hs)) env)::ng (Nj c ts hs.tail) env:=by cases t<;>rfl
  rw[e];exact⟨by simp[j,Lq],by simp_all⟩
def Cok.nm   (C:Cok T k X c)(h:decide (i<c.N.length)=la):X.N[i]?=ia (uc c i):=by rw[C.hN];exact Gq h
mutual
theorem Xo (C:Cok T k X c):∀(t:Tg) (h:La),okTg c t=la->PG X (unTg c t h) (lG X.K (Yc t))
 |.n _,_,q=>let s:=C.store (ba q).2;u_tn (by rw[C.hN];exact C.nd) (C.nm (ba q).1) s.1 s.2
 |.t ts,h,q=>u_tt C.calm (sTgs C ts (cl h) q) (xy ts _ X.env).1 (xy ts _ X.env).2 λj y k q=>yE q
theorem sTgs (C:Cok T k X c):∀(ts:bh) (hs:List La),ux c ts=la->Bh X (Nj c ts hs) (Cq X.K (tgsU ts))
 |.nil,_,_=>TN
 |.cons t ts,hs,q=>SN (Xo C t (hd hs) (ba q).1) (sTgs C ts hs.tail (ba q).2) (by cases t<;>rfl)
end
def EB  (X:Cx)(J:St):XK:=λy I F=>∀(j:List (Ba×Obj)) (ea:Ba) (s':Ja),Oa X j J F s'->Lies X.s₀.heap.objs.size X.pn F s'.heap ea y I->X.xe (.ref ea) s'
def ID        {O:St}(F:FnOk X.prog X.w X.K X.mg X.base (zf X.prog X.w) j f fd ps sp)(hr:Room j X.A)(hb:Binds X.K fd ps [])
  (I:Oa X pins O H s) (r:Vals vs us) (h:sp vs H Q (EB X O)):wpAny (Ka X.prog X.w) X.A (call (.ref f) us) (EP X pins O Q) X.xe s:=by
 have Z:(us++[]).length=ps.length:=by rw[im,<- r.length];exact F.len _ _ _ _ h
 have y:=hb s us I.kIn Z;rw[im]at y;refine Oo (Jv (F.run X.A X.stack s H ⟨us,[]⟩ us vs Q (EB X O) hr I.env0 y r h) λr Y J=>?_);cases r with
 |error e=>
  obtain⟨ea,H',R,dx,rfl,I',l,q⟩:=zf.back I J;exact q pins ea Y I' l
 |ok fl=>
  cases fl with
  |ret u=>exact I.after J
  |next=>exact Xl J
  |brk=>exact Xl J
  |cont=>exact Xl J
def JD         {E:KX}(r:Pb X.K H us vs)(F:HR X.K H G)(h:Bb T k n us G Q E)(Y:LV X H G Q Q0)(lx:LX X σ H G E):gi X.K (Bb T k n) vs H Q0 (EB X σ):=
 ⟨us,G,Q,E,r,F,h,Y,λx J Z C O R hr f q j y I I' l=>lx j (.ref y) I x J Z I' ⟨y,C,O,rfl,l,R⟩ hr f q⟩
def CQ         (C:Cok T k X c)(hd:T.funs[n]?=ia d)(hx:d.name=x)(hg:Yd c x=la)(ha:PA X (e::es) (lA X ts))
  (he:gc (e::es) X.env=(ua,Xa e X.env)::gc es X.env) (Y:(Xb pos (gc es X.env)).any (·.1)=ua) :
  PE X (.Call (.Name x p) (e::es) [] pos) (lE X λJ G Q E=>ts J G (λus G1=>Bb T k n us G1 Q E) E):=by
 obtain⟨f,fd,F,hm,hk,hb⟩:=C.fns n d hd;obtain⟨g1,g2⟩:=C.gl hg;rw[hx]at hm;intro j s y H Q0 I ⟨J,G,Q,E,hς,hG,h,lv,lx⟩;refine yo (Nq I g1 hm ?_ g2);have h':lA X ts y H λO R=>gi X.K (Bb T k n) O R Q0 (EB X y):=⟨J,G,_,E,hς,hG,h,λus O G1 R rs Z f1 h1=>JD rs Z h1 (lv.fr f1) (lx.fr f1),lx⟩;refine UK (h₀:=X.base) I.ok.mod.kin hk (Mb (ha pos j s y H _ I h') λus s1 ⟨O,R,I1,r,q⟩=>⟨I1.kIn,?_⟩) he Y;exact ID F C.room2 hb I1 r q
def rS      (C:Cok T k X c)(hd:T.funs[n]?=ia d)(Y:d.name=x)(O:Yd c x=la) :
  PE X (.Call (.Name x p) [] [] pos) (lE X λ_ G Q E=>Bb T k n [] G Q E):=by
 obtain⟨f,fd,F,j,hk,Z⟩:=C.fns n d hd;obtain⟨R,J⟩:=C.gl O;rw[Y]at j;intro y s σ H Q0 I ⟨ς,G,Q,E,hς,hG,h,lv,lx⟩;refine yo (Nq I R j ?_ J);exact PySem.W.callWith_K0 I.kIn hk (ID (us:=[]) (vs:=[]) F C.room2 Z I .nil (JD (show Pb X.K H [] []from rfl) hG h lv lx))
def Cok.comp     (C:Cok T k X c)(h:cOkS c N pick scope=la):CScope X N pick scope/\∀cl A s₀ H₀ J,Cok T k (ke X N scope cl A s₀ H₀ J) ⟨N,scope.names⟩:=by
 unfold cOkS at h;simp only[Be,decide_eq_true_eq]at h;obtain⟨⟨⟨⟨⟨⟨h1,h2⟩,h3⟩,O⟩,h5⟩,h6⟩,R⟩:=h;have F:∀y∈scope.names,y.2=.cell->scope.names.lookup y.1=ia .cell:=λy I hc=>by
  grind
 refine⟨⟨h1,F,λy I hl=>?_,λy I Z=>?_,by lia,λi j x e1 Y=>?_⟩,λcl A s₀ H₀ J=>?_⟩
 ·grind
 ·have:=Mg.mp O y I;rw[Z]at this;simp only[bne_self_eq_false,vA,Be,qo,beq_iff_eq]at this;refine⟨this.1,?_⟩;rcases this.2 with z|z
  ·exact .inl (C.cel _ z).1
  ·exact C.fre _ z
 ·have hz:(N.zip pick)[i]?=ia (x,ia j):=by rw[List.getElem?_zip_eq_some];exact⟨e1,Y⟩
  have:=Mg.mp h6 _ (Hd hz);rw[C.hN]
  lia
 ·refine⟨rfl,R,λx z=>?_,λx z=>?_,λx z=>?_,λx z=>?_,C.room,C.calm,aj.never,C.blt,C.fns,C.gls,C.room2,C.cls,C.mgK⟩
  ·exact Iz (by decide) (eq_of_beq z)
  ·exact⟨Iz (by decide) (eq_of_beq z),z⟩
  ·exact zI (eq_of_beq z)
  ·exact LW (eq_of_beq z)
end
end Z

namespace Z
open PySem L2

def HR.newX  (h:HR K H G)(e:H p=Aa):HR K (upd H p (.xd l)) G:=⟨λa o q=>by
 have m:=h a o q;obtain⟨y,j⟩:=m.there;exact m.keep (Dc (sg j e)) (TS.new e),h.tab.new e⟩
def HR.xdNone  (h:HR K H G)(e:H a=ia (.xd l)):G a=Aa:=by
 cases q:G a with
 |none=>rfl
 |some o=>
  have m:=h a o q;cases o with
  |lst j=>obtain⟨_,y,_⟩:=m;lia
  |fro j=>obtain⟨_,_,y,_⟩:=m;lia
  |dK j=>obtain⟨_,y,_⟩:=m;lia
  |dT j=>obtain⟨_,y,_⟩:=m;lia
  |frd _ j=>obtain⟨_,y,_⟩:=m;lia
  |frk _ j=>obtain⟨_,y,_⟩:=m;lia
def XD.fr    (h:XD K H C dx x)(j:HR K H G)(f:Fr H G H' G'):XD K H' C dx x:=by
 obtain⟨J,F,O,l,y,I,r⟩:=h;exact⟨J,F,O,l,(f dx _ y (j.xdNone y)).1,I,r.ts (f.ts j)⟩
def mU  : ∀k<6,∀f∈clsF k,f∈fldN:=by decide +kernel
def yT   k:∀f∈clsF k,f∈fldN:=by
 by_cases h:k<6
 ·exact mU k h
 ·intro f j;have:clsF k=[]:=by
   unfold clsF;rw[uj,Jr (by show clsA.length<=k;simp only[clsA,Td,ah];lia)];rfl
  simp_all
def aE  : ∀i<6,∀j<6,clsN i=clsN j->i=j:=by decide +kernel
def nU  : ∀i<6,1<=i->clsN i ≠ "PlanError" := by decide +kernel
section
variable {T:Je}{k:Nat}{X:Cx}{c:Bc}
def Du    (h:Fh cs c n=la):1<=n/\n<6/\n∈cs/\Yd c (clsN n)=la:=by
 unfold Fh at h
 simp_all
def s_raise       (C:Cok T k X c)(hn:Fh T.cs c n=la)(ha:PA X (e::es) (lA X ts))(he:gc (e::es) X.env=(ua,Xa e X.env)::gc es X.env)(Z:(Xb cpos (gc es X.env)).any (·.1)=ua) :
  PS X (.Raise (ia (.Call (.Name (clsN n) p) (e::es) [] cpos)) Aa pos) (lS X λD J G=>ts J G (λus j=>us.length=(clsF n).length/\D.ex ⟨n,us⟩ J j) λx j=>D.ex x J j):=by
 obtain⟨n1,n2,n3,n4⟩:=Du hn;obtain⟨Ca,cl⟩:=C.cls n n3 n1;obtain⟨g1,g2⟩:=C.gl n4;refine(LU (k:=k) cl (yT n) C.room2 g1 (C.mgK _ _ cl.m) ha g2 he Z).imp λD σ H ⟨De,J,G,y,Y,h,ld⟩=>?_;refine⟨J,G,_,_,y,Y,h,λus vs j H1 rs F f1 h1=>?_,ld.lx y Y⟩;have hl:vs.length=(clsF n).length:=rs.length.symm.trans h1.1;refine⟨hl,λO ea dx s' hd I l=>?_⟩;have R:Fr H1 j (upd H1 dx (.xd ((clsF n).zip vs))) j:=Fr.new hd;refine ld.ex O (.ref ea) s' ⟨n,us⟩ J σ j _ I ((y.ts (f1.ts Y)).ts (R.ts F)) ⟨ea,Ca,dx,rfl,l,n1,n2,cl,_,sf,?_,?_⟩ (F.newX hd) (f1.trans R) h1.2
 ·exact FJ (by lia)
 ·rw[List.map_snd_zip (by lia)]
  exact rs.ts (R.ts F)
end
structure HC (T:Je)(X:Cx)(c:Bc)(n:Nat)(ea C dx:Ba)(x:XV):Prop where
 hN:X.N=c.N
 nd:c.N.Nodup
 loc:∀y,kd c y .local=la->X.env.scope.names.lookup y=ia .local
 cel:∀y,kd c y .cell=la->X.env.scope.names.lookup y=ia .cell/\X.fn y=la
 fre:∀y,kd c y .free=la->X.env.scope.names.lookup y=ia .cell\/X.env.scope.names.lookup y=ia .free
 glb:∀y,kd c y .globalImplicit=la->Gl X y
 blt:∀y∈Ti,X.mg y=Aa
 cls:∀n∈T.cs,1<=n->∃C,XCls X.K (gK X.K) (clsN n) (clsF n) C
 me:XCls X.K (gK X.K) (clsN x.c) (clsF x.c) C
 lo:1<=x.c
 hi:x.c<6
 pin:XPin X ea C dx
 mgK:∀y v,gK X.K y=ia v->X.mg y=ia v
 en:n<c.N.length/\kd c (uc c n) .local=la/\(uc c n==("__debug__" : Str))=ua/\(uc c n==("__classdict__" : Str))=ua
structure og (X:Cx)(n:Nat)(ea C dx:Ba)(x:XV)(σ:St)(H:Hp)(ς:Sg)(G:Gp):Prop where
 sr:SR X.K H ς σ
 hr:HR X.K H G
 en:σ[n]?=ia (ia (.ref ea))
 xd:XD X.K H C dx x
def hB  (X:Cx)(n:Nat)(I C F:Ba)(x:XV)(f:Sg->Option Bool):TE:=λJ H Q=>∃y G b,og X n I C F x J H y G/\f y=ia b/\∀j,HR X.K j G->Fr H G j G->Q (.bl b) j
def hT  (X:Cx)(n:Nat)(I C F:Ba)(x:XV)(f:Sg->Option Bool):TT:=λJ H Q=>∃y G b,og X n I C F x J H y G/\f y=ia b/\∀j,HR X.K j G->Fr H G j G->Q b j
section
variable {T:Je}{X:Cx}{c:Bc}{n:Nat}{ea C dx:Ba}{x:XV}
def og.fr      (h:og X n ea C dx x σ H ς G)(hr:HR X.K H' G')(f:Fr H G H' G'):og X n ea C dx x σ H' ς G':=⟨h.sr.ts (f.ts h.hr),hr,h.en,h.xd.fr h.hr f⟩
def HC.pe  (h:HC T X c n ea C dx x):PE X (.Name (uc c n) p) (tVar n):=by
 obtain⟨I,y,j,F⟩:=h.en;exact Si (by rw[h.hN];exact Gq (decide_eq_true I)) (.inl (h.loc _ y)) j F
def HC.gl  (h:HC T X c n ea C dx x)(v:Yd c y=la):Gl X y/\(y==("__debug__" : Str))=ua:=by
 unfold Yd at v;rw[Be]at v;exact⟨h.glb y v.1,by lia⟩
def HC.ownC  (h:HC T X c n ea C dx x)(q:Fh T.cs c m=la):∃j,XCls X.K (gK X.K) (clsN m) (clsF m) j/\clsN m ≠ "PlanError" /\ ∀p,PE X (.Name (clsN m) p) (tC (.ref j)):=by
 obtain⟨y,O,J,R⟩:=Du q;obtain⟨j,cl⟩:=h.cls m J y;obtain⟨I,F⟩:=h.gl R;exact⟨j,cl,nU m O y,λp=>FD I (h.mgK _ _ cl.m) rfl F⟩
theorem HC.pcs  (h:HC T X c n ea C dx x):∀{ks },ks.all (Fh T.cs c)=la->∀hs ,∃(xs:List Str) (Cs:List Ba),xs=ks.map clsN/\XMany X (gK X.K) xs Cs/\Cs.length=ks.length/\PA X (unCs ks hs) (λ_ H Q=>Q (Cs.map .ref) H)
 |[],_,_=>⟨[],[],rfl,.nil,rfl,Ln⟩
 |m::ks,q,hs=>by
  simp only[Ci,Be]at q;obtain⟨F,cl,I,pe⟩:=h.ownC q.1;obtain⟨xs,Cs,e,mn,j,y⟩:=h.pcs q.2 hs.tail;subst e;exact⟨_,F::Cs,rfl,.cons cl I mn,by simp[j],Vi (pe _) y⟩
def my  : Di "isinstance" = ia (.builtin "isinstance"):=mL
def HC.isiT  (h:HC T X c n ea C dx x)(g1:Gl X "isinstance")(Y:(("isinstance" : Str)==("__debug__" : Str))=ua){Cs:List Ba}(mn:XMany X (gK X.K) xs Cs)(pa:PA X es (λ_ H Q=>Q (Cs.map .ref) H)) :
  PE X (.Call (.Name "isinstance" p3) [.Name (uc c n) J,.Tuple es j y] [] O) (λR H Q=>R[n]?=ia (ia (.ref ea))/\Cs.length<=8/\∀p,H p=Aa->(∃l,upd H p (.tup (Cs.map .ref)) dx=ia (.xd l))/\Q (.bl (xs.contains (clsN x.c))) (upd H p (.tup (Cs.map .ref)))):=by
 have I:X.mg "isinstance" = Aa:=h.blt _ (by decide)
 have Z:PA X [.Tuple es j y] _:=Vi (Lx pa) Ln (Pf rfl _ _);have a2:PA X [.Name (uc c n) J,.Tuple es j y] _:=Vi (h.pe) Z (Pf rfl _ _);have cr:=gU h.me mn h.pin;have hh:gc [.Name (uc c n) J,.Tuple es j y] X.env=(ua,Xa (.Name (uc c n) J) X.env)::gc [.Tuple es j y] X.env:=Pf rfl _ _;have F:(Xb O (gc [.Tuple es j y] X.env)).any (·.1)=ua:=by rw[Pf rfl];rfl
 refine PE.imp (Vu (p:=p3) (pos:=O) cr g1 I my a2 (by decide) Y hh F) λR H Q ⟨e1,e2,k⟩=>?_
 refine⟨_,e1,?_,λp F=>⟨p,rfl,sf,(k p F).1,(k p F).2⟩⟩;rw[Hb,Og];lia
def HC.lit  (h:HC T X c n ea C dx x)(q:okHL T.cs c l=la) hx:PE X (unHL c n l hx) (hB X n ea C dx x λI=>litH x I l)/\PT X (unHL c n l hx) (hT X n ea C dx x λI=>litH x I l):=by
 have O:PE X (unHL c n l hx) (hB X n ea C dx x λI=>litH x I l):=by
  have Z:X.mg "isinstance" = Aa:=h.blt _ (by decide)
  have xa:X.mg "ValueError" = Aa:=h.blt _ (by decide)
  cases l with
  |v i=>
   have F:((decide (i<c.N.length)&&(kd c (uc c i) .local||kd c (uc c i) .cell||kd c (uc c i) .free) && !(uc c i==("__debug__" : Str)) && !(uc c i==("__classdict__" : Str))))=la:=q;obtain⟨⟨⟨h1,h2⟩,h3⟩,h4⟩:=(⟨⟨ba (ba (ba F).1).1,(ba (ba F).1).2⟩,(ba F).2⟩:((_/\_)/\_)/\_);have vis:Sh X.env.scope (uc c i):=by
    simp only[qo]at h2;rcases h2 with(z|z)|z
    ·exact .inl (h.loc _ z)
    ·exact .inr (.inl (h.cel _ z).1)
    ·exact(h.fre _ z).elim (λz=>.inr (.inl z)) λz=>.inr (.inr z)
   refine(Si (by rw[h.hN];exact Gq h1) vis (bn h3) (bn h4)).imp λσ H Q ⟨I,G,b,st,e,k⟩=>?_
   have e':(match I[i]? with|some (ia (U.bl b))=>ia b|_=>Aa)=ia b:=e
   split at e'
   ·rename_i b' eb;cases e';obtain⟨v,ev,r⟩:=st.sr.2 i _ eb;cases r;exact⟨_,ev,k H st.hr (Fr.refl _ _)⟩
   lia
  |isiV=>
   have F:(Yd c "isinstance" && Yd c "ValueError")=la:=q;obtain⟨Y,R⟩:=h.gl (ba F).1;obtain⟨g3,g4⟩:=h.gl (ba F).2;refine(Vu (iU h.me h.pin) Y Z my (Vi h.pe (Vi (ED (v:=.ty "ValueError") g3 xa (by decide +kernel) rfl (by decide) g4) Ln)) (by decide) R rfl rfl).imp λσ H Q ⟨I,G,b,st,e,k⟩=>?_
   cases(show la=b from Nd e);obtain⟨_,_,_,l,J,_⟩:=st.xd;exact⟨_,st.en,rfl,⟨l,J⟩,k H st.hr (Fr.refl _ _)⟩
  |is1 m=>
   have F:(Yd c "isinstance" && Fh T.cs c m)=la:=q;obtain⟨Y,R⟩:=h.gl (ba F).1;obtain⟨C',cl,np,pe⟩:=h.ownC (ba F).2;refine(Vu (fU h.me cl np h.pin) Y Z my (Vi h.pe (Vi (pe _) Ln)) (by decide) R rfl rfl).imp λσ H Q ⟨I,G,b,st,e,k⟩=>?_
   have eb:decide (x.c=m)=b:=Nd e;have e2:decide (clsN x.c=clsN m)=b:=by
    rw[<- eb];obtain⟨_,m2,_⟩:=Du (ba F).2;by_cases z:x.c=m
    ·simp[z]
    ·have:clsN x.c≠clsN m:=λy=>z (aE _ h.hi _ m2 y)
     lia
   obtain⟨_,_,_,l,J,_⟩:=st.xd;exact⟨_,st.en,rfl,⟨l,J⟩,by rw[e2];exact k H st.hr (Fr.refl _ _)⟩
  |isi ks=>
   have F:(Yd c "isinstance" && ks.all (Fh T.cs c)&&decide (ks.length<=8))=la:=q;obtain⟨Y,R⟩:=h.gl (ba (ba F).1).1;obtain⟨xs,Cs,za,mn,ln,pa⟩:=h.pcs (ba (ba F).1).2 (cl (hd (cl hx).tail));refine PE.imp (h.isiT Y R mn pa) λσ H Q ⟨I,G,b,st,e,k⟩=>?_;have eb:ks.contains x.c=b:=Nd e;have e2:xs.contains (clsN x.c)=b:=by
    rw[<- eb,za];have all:∀m∈ks,m<6:=λm hm=>(Du (Mg.mp (ba (ba F).1).2 m hm)).2.1;rw[Xj];simp only[List.contains_iff_mem,Ia];constructor
    ·rintro⟨m,hm,em⟩;have:=aE _ (all m hm) _ h.hi em
     lia
    lia
   refine⟨st.en,?_,λp hp=>⟨?_,?_⟩⟩
   ·lia
   ·obtain⟨_,_,_,l,J,_⟩:=(st.fr (st.hr.newT hp) (Fr.new hp)).xd;exact⟨l,J⟩
   ·rw[e2];exact k _ (st.hr.newT hp) (Fr.new hp)
 refine⟨O,?_⟩;have tr:∀j,se (unHL c n l hx) X.env j=(do let v <- j;re (unHL c n l hx).pos;Ec [v] (Ii v)):=by
  intro j;cases l<;>rfl
 refine(JQ O tr).imp λσ H Q ⟨I,G,b,st,e,k⟩=>?_;exact⟨I,G,b,st,e,λH' a f=>⟨b,rfl,k H' a f⟩⟩
def HC.litN  (h:HC T X c n ea C dx x)(q:okHL T.cs c p.2=la) hx:PE X (Nl c n p hx) (hB X n ea C dx x λj=>lit1 x j p)/\PT X (Nl c n p hx) (hT X n ea C dx x λj=>lit1 x j p):=by
 obtain⟨F,l⟩:=p;cases F with
 |false=>
  obtain⟨I,y⟩:=h.lit q hx;refine⟨PE.imp I λJ H Q ⟨j,G,b,st,e,k⟩=>⟨j,G,b,st,?_,k⟩,PT.imp y λJ H Q ⟨j,G,b,st,e,k⟩=>⟨j,G,b,st,?_,k⟩⟩ <;>
  ·unfold lit1 at e
   lia
 |true=>
  obtain⟨I,y⟩:=h.lit q (c0 hx);refine⟨PE.imp (XO I) λJ H Q ⟨j,G,b,st,e,k⟩=>⟨j,G,!b,st,?_,λO a f=>⟨!b,rfl,by simp_all⟩⟩,PT.imp (YC y) λJ H Q ⟨j,G,b,st,e,k⟩=>⟨j,G,!b,st,?_,λO a f=>by simp_all⟩⟩ <;>
  ·unfold lit1 at e;dsimp only at e;split at e
   ·simp_all
   lia
theorem HC.conds  (h : HC T X c n ea C dx x) k : ∀ as (a : Bool × HL) hx hs pos , okHL T.cs c a.2 = la -> Ql T.cs c as = la ->
    PE X (.BoolOp (Yn k) (Nl c n a hx :: zu c n as hs) pos) (hB X n ea C dx x λj => wg x j k a as) /\ PW X (.BoolOp (Yn k) (Nl c n a hx :: zu c n as hs) pos) (hT X n ea C dx x λj => wg x j k a as)
  | [], a, hx, hs, pos, q, _ => by
    obtain ⟨Z, R⟩ := h.litN q hx
    cases k with
    | true => exact ⟨qu Z, pw_and1 R⟩
    | false => exact ⟨qu Z, pw_or1 R⟩
  | b :: r, a, hx, hs, pos, q, qs => by
    unfold Ql at qs
    simp only [Ci, Be] at qs
    obtain ⟨Z, R⟩ := h.litN q hx
    obtain ⟨r1, r2⟩ := h.conds k r b (hd hs) hs.tail pos qs.1 qs.2
    have Y : ∀ {j : Sg} {t y : Bool}, lit1 x j a = ia t -> wg x j k a (b :: r) = ia y -> (if t = k then wg x j k b r else ia t) = ia y := λ{j t y} e1 e2 => by
      have e3 : (match lit1 x j a with | some t => if t = k then wg x j k b r else ia t | none => Aa) = ia y := e2
      lia
    have I : ∀ {j : Sg} {y : Bool}, wg x j k a (b :: r) = ia y -> ∃ t, lit1 x j a = ia t := λ{j y} e2 => by
      have e3 : (match lit1 x j a with | some t => if t = k then wg x j k b r else ia t | none => Aa) = ia y := e2
      grind
    cases k with
    | true =>
      refine ⟨PE.imp (SO Z r1) λσ H Q ⟨j, G, y, st, e, kk⟩ => ?_, PW.imp (pw_and R r2) λσ H Q ⟨j, G, y, st, e, kk⟩ => ?_⟩ <;>
      · obtain ⟨t, J⟩ := I e
        have e' := Y J e
        first
          | (refine ⟨j, G, t, st, J, λH' O f => ⟨t, rfl, ?_⟩⟩
             cases t with
             | true => exact ⟨j, G, y, st.fr O f, by lia, λF a b => kk F a (f.trans b)⟩
             | false => simp_all)
          | (refine ⟨j, G, t, st, J, λH' O f => ?_⟩
             cases t with
             | true => exact ⟨j, G, y, st.fr O f, by lia, λF a b => kk F a (f.trans b)⟩
             | false => simp_all)
    | false =>
      refine ⟨PE.imp (uM Z r1) λσ H Q ⟨j, G, y, st, e, kk⟩ => ?_, PW.imp (pw_or R r2) λσ H Q ⟨j, G, y, st, e, kk⟩ => ?_⟩ <;>
      · obtain ⟨t, J⟩ := I e
        have e' := Y J e
        first
          | (refine ⟨j, G, t, st, J, λH' O f => ⟨t, rfl, ?_⟩⟩
             cases t with
             | false => exact ⟨j, G, y, st.fr O f, by lia, λF a b => kk F a (f.trans b)⟩
             | true => simp_all)
          | (refine ⟨j, G, t, st, J, λH' O f => ?_⟩
             cases t with
             | false => exact ⟨j, G, y, st.fr O f, by lia, λF a b => kk F a (f.trans b)⟩
             | true => simp_all)
def HC.cond  (h:HC T X c n ea C dx x) k (a:Bool×HL) as hx (q:okHL T.cs c a.2=la)(y:Ql T.cs c as=la) :
  PE X (yu c n k a as hx) (hB X n ea C dx x λj=>wg x j k a as)/\PT X (yu c n k a as hx) (hT X n ea C dx x λj=>wg x j k a as):=by
 cases as with
 |nil=>exact h.litN q hx
 |cons b r=>let z:=h.conds k (b::r) a (hd (cl hx)) (cl hx).tail hx.pos q y;exact⟨z.1,z.2.pt⟩
def hV  (X:Cx)(n:Nat)(I C F:Ba)(x:XV)(f:Sg->Gp->K1->Prop):TE:=λJ H y=>∃j G Q,og X n I C F x J H j G/\f j G Q/\LV X H G Q y
theorem rE      : ∀{l:List (Str×V)} {us },Pb K H us (l.map (·.2))->((l.map (·.1)).zip us).lookup f=ia u->∃v,l.lookup f=ia v/\RU K H u v
 |[],us,_,e=>by simp at e
 |(y,v)::l,[],r,e=>by simp at e
 |(y,v)::l,w::us,r,e=>by
  obtain⟨F,R,j,r1,I⟩:=r;simp only[Sd,RJ]at j;obtain⟨rfl,rfl⟩:=j;simp only[Sd,jK,lj]at e ⊢;split at e
  ·lia
  ·rename_i z;obtain⟨F,O,J⟩:=rE I e
   simp_all
def XD.get      (y:XD K H C dx x)(e:Uj x (.att f)=ia u):∃l v,H dx=ia (.xd l)/\l.lookup f=ia v/\RU K H u v:=by
 obtain⟨_,_,_,l,O,F,r⟩:=y;have j:((clsF x.c).zip x.fs).lookup f=ia u:=e;rw[<- F]at j;obtain⟨v,J,I⟩:=rE r j
 simp_all
def HC.at  (h:HC T X c n ea C dx x)(q:okHA a=la) hx:PE X (unHA c n a hx) (λF H O=>∃j G u,og X n ea C dx x F H j G/\Uj x a=ia u/\∀v,RU X.K H u v->O v H):=by
 cases a with
 |str y=>exact PE.imp XC λF H Q ⟨j,G,u,st,e,k⟩=>by cases e;exact k _ rfl
 |att f=>
  have J:f∈fldN:=by simpa[okHA]using q
  refine PE.imp (ZQ h.me h.pin J h.pe rfl) λF H Q ⟨j,G,u,st,e,k⟩=>?_;obtain⟨l,v,Y,R,I⟩:=st.xd.get e;exact⟨_,st.en,rfl,l,v,Y,R,k v I⟩
def OR   a hx es env:gc (unHA c n a hx::es) env=(ua,Xa (unHA c n a hx) env)::gc es env:=by cases a<;>rfl
theorem HC.ats  (h:HC T X c n ea C dx x):∀{as } (_:as.all okHA=la) hs ,PA X (Zt c n as hs) (λJ H F=>∃j G us,og X n ea C dx x J H j G/\atsH x as=ia us/\∀vs,Pb X.K H us vs->F vs H)
 |[],_,_=>λpos y s J H F I ⟨j,G,us,st,e,k⟩=>by cases e;exact Ln pos y s J H F I (k [] rfl)
 |a::r,q,hs=>by
  simp only[Ci,Be]at q;refine PA.imp (Vi (h.at q.1 (hd hs)) (h.ats q.2 hs.tail) (OR a _ _ _)) λJ H F ⟨j,G,us,st,e,k⟩=>?_;have Y:(match Uj x a,atsH x r with|some u,ia us=>ia (u::us)|_,_=>Aa)=ia us:=e
  split at Y
  ·rename_i u O e1 e2;cases Y;exact⟨j,G,u,st,e1,λv Z=>⟨j,G,O,st,e2,λvs R=>k (v::vs) ⟨v,vs,rfl,Z,R⟩⟩⟩
  lia
theorem Zx  : ∀{as } {us },atsH x as=ia us->us.length=as.length
 |[],us,e=>by cases e;rfl
 |a::r,us,e=>by
  have j:(match Uj x a,atsH x r with|some u,ia us=>ia (u::us)|_,_=>Aa)=ia us:=e
  split at j
  ·rename_i u y I F;cases j;simp[Zx F]
  lia
def HC.val  (h:HC T X c n ea C dx x)(q:okHV T.cs c e=la) hx:PE X (unHV c n e hx) (hV X n ea C dx x λj G Q=>Xn x j e G Q):=by
 cases e with
 |cond k a F=>
  have O:(okHL T.cs c a.2&&Ql T.cs c F)=la:=q;refine PE.imp (h.cond k a F hx (ba O).1 (ba O).2).1 λZ H Y ⟨j,G,Q,st,e,J⟩=>?_;have y:(match wg x j k a F with|some b=>Q (.bl b) G|none=>False):=e
  split at y
  ·rename_i b eb;exact⟨j,G,b,st,eb,λH' hr f=>J (.bl b) (.bl b) G H' rfl hr f y⟩
  lia
 |one a=>
  refine PE.imp (h.at (show okHA a=la from q) hx) λZ H Y ⟨j,G,Q,st,e,J⟩=>?_;have y:(match Uj x a with|some u=>Q u G|none=>False):=e
  split at y
  ·rename_i u eu;exact⟨j,G,u,st,eu,λv rv=>J.here rv st.hr y⟩
  lia
 |bl b=>exact PE.imp SB λZ H Y ⟨j,G,Q,st,e,J⟩=>J.bl st.hr e
 |tup F=>
  have O:(F.all okHA&&decide (F.length<=8))=la:=q;refine PE.imp (Lx (h.ats (ba O).1 (cl hx))) λZ H Y ⟨j,G,Q,st,e,J⟩=>?_;have y:(match atsH x F with|some R=>Q (.tup R) G|none=>False):=e
  split at y
  ·rename_i R eu;refine⟨j,G,R,st,eu,λvs I=>⟨?_,λp hp=>J.tup hp I st.hr y⟩⟩;have:=of_decide_eq_true (ba O).2;rw[<- I.length,Zx eu,Og];lia
  lia
 |lst F=>
  have O:(F.all okHA&&decide (F.length<=8))=la:=q;refine PE.imp (WC (h.ats (ba O).1 (cl hx))) λZ H Y ⟨j,G,Q,st,e,J⟩=>?_;have y:(match atsH x F with|some R=>newO G (.lst R) Q|none=>False):=e
  split at y
  ·rename_i R eu;refine⟨j,G,R,st,eu,λvs I=>⟨?_,λp hp=>J.lst hp I st.hr y⟩⟩;have:=of_decide_eq_true (ba O).2;rw[<- I.length,Zx eu,Og];lia
  lia
def xD   e hx y p env l:Bi [.Name y p] (unHV c n e hx) l env=pure ua/\vh [.Name y p] (unHV c n e hx) env=pure Aa:=by
 cases e with
 |cond k a F=>
  cases F with
  |nil=>
   obtain⟨j,l⟩:=a;cases j<;>cases l<;>exact⟨rfl,rfl⟩
  |cons=>exact⟨rfl,rfl⟩
 |one a=>cases a<;>exact⟨rfl,rfl⟩
 |_=>exact⟨rfl,rfl⟩
def HC.store  (h:HC T X c n ea C dx x)(q:Dj c i=la):PG X (.Name (uc c i) p) (Fq i):=by
 have j:(decide (i<c.N.length)&&(kd c (uc c i) .local||kd c (uc c i) .cell))=la:=q;have v:=(ba j).2;simp only[qo]at v;rcases v with v|v
 ·exact zy (by rw[h.hN];exact h.nd) (by rw[h.hN];exact Gq (ba j).1) (.inl (h.loc _ v)) (.inr (h.loc _ v))
 ·exact zy (by rw[h.hN];exact h.nd) (by rw[h.hN];exact Gq (ba j).1) (.inr (h.cel _ v).1) (.inl (h.cel _ v).2)
def og.set         (h:og X n ea C dx x σ H ς G)(j:i≠n)(r:RU X.K H u v):og X n ea C dx x (σ.set i (ia v)) H (ς.set i (ia u)) G:=
 ⟨h.sr.set r i,h.hr,by rw[Ah j];exact h.en,h.xd⟩
def HC.asg  (h:HC T X c n ea C dx x)(qi:Dj c i=la)(hi:i≠n)(qe:okHV T.cs c e=la) st :
  PS X (wx c n i e st) (λD Y H=>∃(j:Sg) (G:Gp) (k:Sg->Gp->Prop),og X n ea C dx x Y H j G/\Xn x j e G (λu Z=>k (j.set i (ia u)) Z)/\∀F I y J,og X n ea C dx x I J F y->Fr H G J y->k F y->D.nx I J):=by
 refine PS.imp (Mx (h.val qe (q0 st)) (h.store qi) (xD e _ _ _ _ _).1 (xD e _ _ _ _ 0).2 rfl) λD Y H ⟨j,G,k,R,hv,O⟩=>?_;exact⟨j,G,_,R,hv,λu v y J r hr f q=>O _ _ y J ((R.fr hr f).set hi r) f q⟩
def hS  (X:Cx)(n:Nat)(R C O:Ba)(x:XV)(hs:List HS):L2.TS:=λD Y H=>∃J G k,og X n R C O x Y H J G/\Kg x hs J G k/\∀y j F I,og X n R C O x j I y F->Fr H G I F->k y F->D.nx j I
theorem HC.stmts  (h:HC T X c n ea C dx x):∀{hs } (_:hs.all (okHS T.cs c n)=la) sts ,Ce X (Ml c n hs sts) (hS X n ea C dx x hs)
 |[],_,_=>Ce.imp Ay λD σ H ⟨F,G,k,st,q,I⟩=>I F σ G H st (Fr.refl _ _) q
 |.asg i e::r,q,sts=>by
  simp only[Ci,Be]at q;have q1:(Dj c i&&decide (i≠n)&&okHV T.cs c e)=la:=q.1;refine Ce.imp (Ly (h.asg (ba (ba q1).1).1 (of_decide_eq_true (ba (ba q1).1).2) (ba q1).2 (qh sts)) (h.stmts q.2 sts.tail)) λD σ H ⟨F,G,k,st,hq,I⟩=>?_;exact⟨F,G,λY G1=>Kg x r Y G1 k,st,hq,λj y O R J f q'=>⟨j,O,k,J,q',λZ za G2 H2 st2 f2 q2=>I Z za G2 H2 st2 (f.trans f2) q2⟩⟩
 |.ifa kk a as i e::r,q,sts=>by
  simp only[Ci,Be]at q;have q1:(okHL T.cs c a.2&&Ql T.cs c as&&Dj c i&&decide (i≠n)&&okHV T.cs c e)=la:=q.1;have p1:=jC (pos:=(qh sts).pos) (h.cond kk a as (q0 (qh sts)) (ba (ba (ba (ba q1).1).1).1).1 (ba (ba (ba (ba q1).1).1).1).2).2 (jR (h.asg (ba (ba (ba q1).1).1).2 (of_decide_eq_true (ba (ba q1).1).2) (ba q1).2 (qh (qa (qh sts))))) Ay;refine Ce.imp (Ly p1 (h.stmts q.2 sts.tail)) λD σ H ⟨F,G,k,st,hq,I⟩=>?_;have ja:∀j y O R,og X n ea C dx x y R j O->Fr H G R O->Kg x r j O k->hS X n ea C dx x r D y R:=λj y O R J f q'=>⟨j,O,k,J,q',λZ za G2 H2 st2 f2 q2=>I Z za G2 H2 st2 (f.trans f2) q2⟩;have xa:(match wg x F kk a as with|some la=>Xn x F e G λu G1=>Kg x r (F.set i (ia u)) G1 k|some ua=>Kg x r F G k|none=>False):=hq
  split at xa
  ·rename_i ec;refine⟨F,G,la,st,ec,λR hr f=>?_⟩;refine iteT ?_;exact⟨F,G,λY G1=>Kg x r Y G1 k,st.fr hr f,xa,λj y O va J f' q'=>ja j y O va J (f.trans f') q'⟩
  ·rename_i ec;refine⟨F,G,ua,st,ec,λR hr f=>?_⟩;refine iteF ?_;exact ja F σ G R (st.fr hr f) f xa
  lia
end
def SR.hide      (h:SR K H ς σ) n o:SR K H (ς.set n Aa) (σ.set n o):=by
 refine⟨by simp[h.1],λi u e=>?_⟩
 by_cases z:i=n
 ·subst z;rw[List.getElem?_set]at e;simp only[if_true]at e;split at e<;>cases e
 ·rw[Ah (Ta z)]at e ⊢;exact h.2 i u e

def s_try  {T: Je}{sts:List Qa}(C:Rg T k X c)(hm:decide (m=0)=la)(hg:Yd c (clsN m)=la)(hn:decide (n<c.N.length)=la)(hl:kd c (uc c n) .local=la)(jc:(uc c n==("__debug__" : Str))=ua)(yc:(uc c n==("__classdict__" : Str))=ua)
  (zc:hs.isEmpty=ua) (zb:hs.all (okHS T.cs c n)=la) (hb:∀pins xe ,aj (Ka X.prog X.w) X.A X.env xe->Ce (X.tryC pins xe) b (lS (X.tryC pins xe) tb)) :
  PS X (.Try b [.ExceptHandler (ia (.Name (clsN m) pt)) (ia (uc c n)) (Ml c n hs sts) ph] [] [] pos)
   (lS X λD ς G=>tb { D with ex:=λx wb G1=>(m=0\/x.c=m)/\Kg x hs (wb.set n Aa) G1 λza G2=>D.nx (za.set n Aa) G2 } ς G):=by
 intro pins s σ H D I ⟨De,ς,G,hς,hG,h0,ld⟩;obtain⟨s0,sr,ha⟩:∃s0 sr,Ml c n hs sts=s0::sr:=by
  cases hs with
  |nil=>cases zc
  |cons a r=>exact⟨_,_,rfl⟩
 have nd:X.N.Nodup:=by rw[C.hN];exact C.nd
 have hi:X.N[n]?=ia (uc c n):=C.toCok.nm hn;have ya:=C.loc _ hl;obtain⟨yb,xb⟩:=C.toCok.gl hg
 let Y:Da->Ja->Prop:=λe wa=>wpAny (Ka X.prog X.w) X.A (vv e X.env) (λ_ R=>wpAny (Ka X.prog X.w) X.A (Zn e Aa) (λ_ Z=>wpAny (Ka X.prog X.w) X.A (handleBy e X.env [.ExceptHandler (ia (.Name (clsN m) pt)) (ia (uc c n)) (Ml c n hs sts) ph]) (SP X pins D) X.xe Z) X.xe R) X.xe wa
 have ka:∀(xa:List (Ba×Obj)) (e:Da) (s':Ja) (x:XV) ja j G' F,Oa (X.tryC pins Y) xa j F s'->SR X.K F ja j->kB (X.tryC pins Y) F s' e x->HR X.K F G'->Fr H G F G'->((m=0\/x.c=m)/\Kg x hs (ja.set n Aa) G' λza G2=>De.nx (za.set n Aa) G2)->Y e s':=by
  intro xa e s' x ja j G' F I' vb qd vc f' ⟨hmx,hq⟩;obtain⟨O,C0,dx,rfl,l,xd⟩:=qd;have zd:=xd;obtain⟨x1,x2,xc,lx,yd,jd,rx⟩:=zd;have I0:Oa (X.tryC pins Y) [] j F s':=I'.pins_of λp hp=>absurd hp (by simp)
  refine JC (X:=X.tryC pins Y) (E:=X.xe) I0 C.stk.1 C.stk.2 l λh' J l'=>?_;refine wpAny_handleBy_cons ?_ (by intro z;cases z)
  refine codeAny_handlers_test ?_;have J':Oa ((X.tryC pins Y).inH (.ref O) []) [] j F { s' with heap:=h' }:=J.hIn λq hq=>absurd hq (by simp)
  have qc:∀s2:Ja,s2={ s' with heap:=h' }->codeAny (Ka X.prog X.w) (X.A.mark (ia (.ref O))) (Li.handlers (.ref O) [.ExceptHandler Aa (ia (uc c n)) (Ml c n hs sts) ph] X.env)
    (λr R=>match r with
     |.ok f=>wpAny (Ka X.prog X.w) X.A (do eo X.env (uc c n) .none;unbindBehindTheSuite X.env (uc c n) ph) (λ_ Z=>SP X pins D f Z) X.xe R
     |.error y=>cameBackBy (Ka X.prog X.w) X.A X.env X.xe y R) s2:=by
   intro s2 kc;subst kc;rw[ha];refine codeAny_handlers_suite_as ?_;refine aW (X:=X.tryC pins Y) J l' λh2 J2 l2=>?_;obtain⟨oe,g1,g2,g3,⟨vs,g4⟩,g5⟩:=l2.pinned J2;have J3:Oa ((X.tryC pins Y).inH (.ref O) [(O,oe)]) [] j F { s' with heap:=h2 }:=J2.hIn g5
   refine Uq (X:=(X.tryC pins Y).inH (.ref O) [(O,oe)]) (v:=.ref O) J3 nd hi (.inl ya) rfl (λs3 J4=>?_) (.inr ya);have hc:HC T ((X.tryC pins Y).inH (.ref O) [(O,oe)]) c n O C0 dx x:=⟨C.hN,C.nd,C.loc,C.cel,C.fre,C.glb,C.blt,C.cls,xc,x1,x2,⟨oe,vs,by simp only[Cx.inH];simp_all,g2,g3,g4⟩,C.mgK,of_decide_eq_true hn,hl,jc,yc⟩
   have vd:n<j.length:=by
    have:=J3.len;rw[this];exact(Ea.mp hi).1
   have kb:og ((X.tryC pins Y).inH (.ref O) [(O,oe)]) n O C0 dx x (j.set n (ia (.ref O))) F (ja.set n Aa) G':=⟨vb.hide n _,vc,by simp_all,xd⟩
   rw[<- ha];refine We (hc.stmts zb sts [] s3 _ F ⟨λva H2=>D.nx (va.set n Aa) H2,λ_ _=>False,λ_ _=>False,λ_ _=>False⟩ J4 ⟨_,G',_,kb,hq,λza va G2 H2 st2 f2 q2=>?_⟩) (λfl s4 q4=>?_) λ_ _ z=>Xl z
   ·exact ld.nx _ _ G2 H2 (st2.sr.hide n Aa) st2.hr (f'.trans f2) q2
   ·cases fl with
    |next=>
     obtain⟨va,H2,J5,q5⟩:=q4;exact UU (X:=X.tryC pins Y) (J5.hOut J.ok) nd hi ya λs5 J6=>⟨va.set n Aa,H2,J6.tryOut,q5⟩
    |brk=>obtain⟨_,_,_,z⟩:=q4;lia
    |cont=>obtain⟨_,_,_,z⟩:=q4;lia
    |ret u=>obtain⟨_,_,_,_,_,z⟩:=q4;lia
  obtain⟨oe,vs,he,jb,_⟩:=l'.ob;by_cases m0:m=0
  ·obtain⟨D0,N0,fI,mN,mD,B,_⟩:=xc.ex;have wc:X.mg (clsN m)=ia (.ref D0):=by rw[m0];exact C.mgK _ _ B.m
   refine Nq J' yb wc ?_ xb;refine CV (X:=X) xc B J'.kIn he jb ?_;exact qc _ rfl
  ·exact absurd (of_decide_eq_true hm) m0
 refine wpAny_Try_except (We (hb pins Y dL [] s σ H ⟨D.nx,D.rt,D.bk,D.ct⟩ I.tryIn ⟨_,ς,G,hς,hG,h0,⟨ld.nx,ld.rt,ka⟩⟩) (λfl s1 q1=>?_) λe s1 z=>z);cases fl with
 |next=>
  obtain⟨j,F,J,q⟩:=q1;exact Tr ⟨j,F,J.tryOut,q⟩
 |brk=>obtain⟨j,F,J,q⟩:=q1;exact⟨j,F,J.tryOut,q⟩
 |cont=>obtain⟨j,F,J,q⟩:=q1;exact⟨j,F,J.tryOut,q⟩
 |ret u=>obtain⟨v,j,F,J,r,q⟩:=q1;exact⟨v,j,F,J.tryOut,r,q⟩
section
variable {T:Je}{k:Nat}
def zR   b:bltN b∈Ti:=by cases b<;>decide
def AQ  : ∀n∈zE,Di (bj n)=ia (.type n)/\bj n∈Ti/\bj n ≠ "__name__" := by decide +kernel
abbrev SE  (T:Je)(k:Nat)(X:Cx)(c:Bc)(j:E)(h:La):Prop:=PE X (Yb T c j h) (lE X (Ua T.gs (Bb T k) j).1)/\PT X (Yb T c j h) (lT X (Ua T.gs (Bb T k) j).2)
section
variable {X:Cx}{c:Bc}
def jf    (h:PE X e (lE X t))(y:∀j,se e X.env j=(do let v <- j;re e.pos;Ec [v] (Ii v))):PE X e (lE X t)/\PT X e (lT X (truT t)):=⟨h,RN h y⟩
def oQ   {rest:List La}(j:PE X a (lE X p.1)/\PT X a (lT X p.2))(y:PE X (.BoolOp .And (b::rest) pos) (lE X q.1)/\PW X (.BoolOp .And (b::rest) pos) (lT X q.2)) :
  PE X (.BoolOp .And (a::b::rest) pos) (lE X (comb la p q).1)/\PW X (.BoolOp .And (a::b::rest) pos) (lT X (comb la p q).2):=⟨wO j.1 y.1,BQ j.2 y.2⟩
def HM   {rest:List La}(j:PE X a (lE X p.1)/\PT X a (lT X p.2))(y:PE X (.BoolOp .Or (b::rest) pos) (lE X q.1)/\PW X (.BoolOp .Or (b::rest) pos) (lT X q.2)) :
  PE X (.BoolOp .Or (a::b::rest) pos) (lE X (comb ua p q).1)/\PW X (.BoolOp .Or (a::b::rest) pos) (lT X (comb ua p q).2):=⟨u_or j.1 y.1,PN j.2 y.2⟩
def se_v    (C:Cok T k X c)(q:Kc T c (.v i) h=la):SE T k X c (.v i) h:=jf (VN (C.nm (ba (ba (ba q).1).1).1) (C.vis (ba (ba (ba q).1).1).2) (bn (ba (ba q).1).2) (bn (ba q).2)) λ_=>rfl
def se_g    (C:Cok T k X c)(q:Kc T c (.g n) h=la):SE T k X c (.g n) h:=by
 have Y:=of_decide_eq_true (ba (ba q).1).1;have h2:=of_decide_eq_true (ba (ba q).1).2;have hn:T.gn[n]?=ia (T.gn.getD n ""):=by simp_all
 obtain⟨v,w,m,r,R⟩:=C.gls n _ T.gs[n] hn (by simp[Y])
 obtain⟨J,I⟩:=C.gl (ba q).2;refine jf (PE.imp (u_gl (u:=T.gs[n]) J m r R I) λσ H Q0 ⟨y,G,Q,E,j,F,h,Z,lx⟩=>⟨y,G,Q,E,j,F,?_,Z,lx⟩) λ_=>rfl;have O:jr T.gs n λu=>Q u G:=h;unfold jr at O
 simp_all
def IM    (C:Cok T k X c)(q:Kc T c (.ty n) h=la):SE T k X c (.ty n) h:=by
 obtain⟨y,j⟩:=C.gl (ba q).2;obtain⟨t1,t2,t3⟩:=AQ n (by simpa using (ba q).1)
 exact jf (u_ty y (C.blt _ t2) t1 t3 j) λ_=>rfl
def sQ     (R:Jm X h.pos (eh T c es (dk h)) (Pm T c es (cl h)) O)(y:lD X (denD T.gs (Bb T k) es) O)(Y:(eh T c es (dk h)).all (·.isSome)=la)(F:(eh T c es (dk h)).length=(Pm T c es (cl h)).length)
  (J:(eh T c es (dk h)).length<=15):SE T k X c (.dic es) h:=by
 refine jf ?_ λ_=>rfl
 match es,R,y,Y,F,J with
 |.nil,_,_,_,_,_=>exact PE.imp IP λσ H Q0 ⟨Z,G,Q,E,j,hG,h,lv,lx⟩=>⟨Z,G,Q,E,j,hG,(show([]:List (Sb×U)).length<=15/\newO G (.dK (ki [])) Q from h).2,lv,lx⟩
 |.cons _ .nil,_,_,_,_,_=>exact λxa s σ H Q0 I ⟨Z,G,Q,E,j,hG,h,lv,lx⟩=>(show False from h).elim
 |.cons d (.cons f es),R,y,Y,F,J=>exact HN R y Y F (λz=>nomatch z) J
def GS     (C:Cok T k X c)(q:Kc T c (.call n es) h=la)(y:PA X (unEs T c es (cl h)) (lA X (qf T.gs (Bb T k) es))):SE T k X c (.call n es) h:=by
 refine jf ?_ λ_=>rfl;have I:=of_decide_eq_true (ba (ba q).1).1;have j:T.funs[n]?=ia T.funs[n]:=by simp[I]
 have F:T.funs[n].name=mv T n:=by unfold mv;rw[j]
 match es,y with
 |.nil,_=>exact rS C j F (ba (ba q).1).2
 |.cons d es,y=>exact CQ C j F (ba (ba q).1).2 y (Pf (Of d _) _ _) (Tn es _ _ _).1
def rQ     (C:Cok T k X c)(q:Kc T c (.blt b es) h=la)(j:PA X (unEs T c es (cl h)) (lA X (qf T.gs (Bb T k) es))):SE T k X c (.blt b es) h:=by
 refine jf ?_ λ_=>rfl;obtain⟨y,F⟩:=C.gl (ba (ba q).1).2
 match es,j,q with
 |.nil,_,q=>exact absurd (of_decide_eq_true (ba (ba q).1).1) (Rh 0)
 |.cons d es,j,_=>exact yO (rN C.room C.calm b) y (C.blt _ (zR b)) j (Pf (Of d _) _ _) (Tn es _ _ _).1
def IS      (hu:X.A.units+1<bc)(q:Kc T c (.meth m o es) h=la)(I:PE X (Yb T c o (c0 (c0 h))) (lE X (Ua T.gs (Bb T k) o).1))(y:PA X (unEs T c es (cl h)) (lA X (qf T.gs (Bb T k) es))):SE T k X c (.meth m o es) h:=by
 refine jf ?_ λ_=>rfl;have J:=(ba q).2;have j:=of_decide_eq_true (ba (ba q).1).2;have F:=(ba (ba (ba q).1).1).2
 match es,y,j with
 |.nil,_,_=>exact uS (NC hu m) I (Iu J _ _ _) F
 |.cons d es,y,j=>
  refine LP (NC hu m) I y (Iu J _ _ _) ?_ F (Pf (Of d _) _ _) (Tn es _ _ _).1;have e:=(Tn (T:=T) (c:=c) (.cons d es) (cl h) X.env h.pos).2;show((Xb h.pos (gc (unEs T c (.cons d es) (cl h)) X.env)).all (λx=>!x.1)&&_&&decide ((unEs T c (.cons d es) (cl h)).length+0+0<30))=la;rw[e,Tx];exact decide_eq_true j
def s_r2     (C:Cok T k X c)(g:Yd c "range" = la)(j:SE T k X c a (hd (cl h)))(y:SE T k X c b (hd (cl h).tail)):PI X tg (unI T c (.r2 a b) h) (lI X (denI T.gs (Bb T k) (.r2 a b))):=
 u_r2 (C.gl g).1 (C.blt _ (by decide)) j.1 y.1 (by rw[Pf (Of a _),Pf (Of b _)];rfl) (Pf (Of b _) _ _)
def qQ    (h:PT X e (lT X (Ua T.gs (Bb T k) d).2)):PIfs X [e] (ci X.K (denC T.gs (Bb T k) (.cons d .nil))):=by
 refine PIfs.imp (cR (ci.of h)) λσ H Z ⟨F,G,Q,O,I,R,J⟩=>⟨F,G,λb y=>Q b y,O,I,?_,J⟩;have Y:(Ua T.gs (Bb T k) d).2 F G (λb j=>if b=la then Q la j else Q ua j) (λ_ _=>False):=R
 have e:(λ(b:Bool) (j:Gp)=>if b=la then Q la j else Q ua j)=λb y=>Q b y:=by
  grind
 lia
def pQ  : PIfs X [] (ci X.K (denC T.gs (Bb T k) .nil)):=PIfs.imp bR λR H J ⟨I,G,Q,O,j,F,y⟩=>y la G H j (Fr.refl _ _) F
theorem bC  : ∀j hs ,2*(eh T c j hs).length<=qg j
 |.nil,_=>Fb _
 |.cons _ .nil,_=>He _
 |.cons _ (.cons _ j),hs=>by
  have:=bC j hs.tail;show 2*((eh T c j hs.tail).length+1)<=qg j+1+1
  lia
def k_le    (h:qg es<=30):(eh T c es hs).length<=15:=by
 have:=bC (T:=T) (c:=c) es hs
 lia
end
mutual
theorem sE:∀(J:E) {X:Cx} {c:Bc} {h:La},Cok T k X c->Kc T c J h=la->SE T k X c J h
 |.v _,_,_,_,C,q=>se_v C q
 |.non,_,_,_,_,_=>jf (Sn (u:=.non) WO λ_=>rfl) λ_=>rfl
 |.bl b,_,_,_,_,_=>jf (Sn (u:=.bl b) SB λ_=>rfl) λ_=>rfl
 |.int i,_,_,_,_,_=>jf (Sn (u:=.int i) UO λ_=>rfl) λ_=>rfl
 |.str x,_,_,_,_,_=>jf (Sn (u:=.str x) XC λ_=>rfl) λ_=>rfl
 |.g _,_,_,_,C,q=>se_g C q
 |.ty _,_,_,_,C,q=>IM C q
 |.bin o a b,_,_,_,C,q=>jf (xO (KO o) (sE a C (ba q).1).1 (sE b C (ba q).2).1) λ_=>rfl
 |.neg a,_,_,_,C,q=>jf (NN (sE a C q).1) λ_=>rfl
 |.not a,_,_,_,C,q=>⟨ON (sE a C q).1,MP (sE a C q).2⟩
 |.bop k a es,_,_,h,C,q=>let r:=sB es k C (sE a C (ba q).1) (ba q).2 h.pos;⟨r.1,r.2.pt⟩
 |.cmp o a b,_,_,_,C,q=>⟨GN (Dn C.room o) (sE a C (ba (ba q).1).1).1 (sE b C (ba (ba q).1).2).1 (bn (ba q).2),HP (Dn C.room o) (sE a C (ba (ba q).1).1).1 (sE b C (ba (ba q).1).2).1 (bn (ba q).2)⟩
 |.cmp2 o p a b d,_,_,_,C,q=>⟨DQ (Dn C.room o) (Dn C.room p) (sE a C (ba (ba (ba q).1).1).1).1 (sE b C (ba (ba (ba q).1).1).2).1 (sE d C (ba (ba q).1).2).1 (bn (ba q).2),
   PT.imp (tS (Dn C.room o) (Dn C.room p) (sE a C (ba (ba (ba q).1).1).1).1 (sE b C (ba (ba (ba q).1).1).2).1 (sE d C (ba (ba q).1).2).1 (bn (ba q).2)) λ_ _ _ ⟨O,G,Q,E,I,R,h,lv,lx⟩=>⟨O,G,Q,E,I,R,h,lv,lx⟩⟩
 |.ife t a b,_,_,_,C,q=>⟨IN (sE t C (ba (ba q).1).1).2 (sE a C (ba (ba q).1).2).1 (sE b C (ba q).2).1,KP (sE t C (ba (ba q).1).1).2 (sE a C (ba (ba q).1).2).2 (sE b C (ba q).2).2⟩
 |.tup es,_,_,_,C,q=>jf (UN (zj es C q)) λ_=>rfl
 |.lst es,_,_,_,C,q=>jf (JN (zj es C q)) λ_=>rfl
 |.dic es,_,_,h,C,q=>let ⟨_,h1,Z,h3,Y⟩:=sD es C h.pos (ba q).1;sQ h1 Z h3 Y (k_le (of_decide_eq_true (ba q).2))
 |.ix a b,_,_,_,C,q=>jf (u_ix C.hu (sE a C (ba q).1).1 (sE b C (ba q).2).1 (PR (Of b _))) λ_=>rfl
 |.sl a lo hi,_,_,_,C,q=>jf (u_sl (sE a C (ba (ba q).1).1).1 (sO lo C (ba (ba q).1).2) (sO hi C (ba q).2)) λ_=>rfl
 |.rev a b,_,_,_,C,q=>jf (QN (sE a C (ba q).1).1 (sE b C (ba q).2).1) λ_=>rfl
 |.call _ es,_,_,_,C,q=>GS C q (zj es C (ba q).2)
 |.blt _ es,_,_,_,C,q=>rQ C q (zj es C (ba q).2)
 |.meth _ o es,_,_,_,C,q=>IS C.hu q (sE o C (ba (ba (ba (ba q).1).1).1).1).1 (zj es C (ba (ba (ba (ba q).1).1).1).2)
 |.lc _ t it ifs d,_,_,_,C,q=>let S:=C.comp (ba (ba (ba (ba (ba (ba q).1).1).1).1).1).1
   jf (u_lc C.calm S.1 (sI it t _ _ C (ba (ba (ba (ba q).1).1).1).2).1 (ba (ba (ba (ba (ba (ba q).1).1).1).1).1).2 (λcl A y j F=>Xo (S.2 cl A y j F) t _ (ba (ba (ba (ba (ba q).1).1).1).1).2)
    (λcl A y j F=>sC ifs (S.2 cl A y j F) (of_decide_eq_true (ba (ba q).1).2) (ba (ba (ba q).1).1).2) (λcl A y j F=>Ej.of (sE d (S.2 cl A y j F) (ba q).2).1) (sI it t ⟨[],[]⟩ e0 C (ba (ba (ba (ba q).1).1).1).2).2) λ_=>rfl
 |.mkD d,_,_,_,C,q=>jf (KN C.calm (C.gl (ba q).1).1 (C.blt _ (by decide)) (sE d C (ba q).2).1 (Pf (Of d _) _ _)) λ_=>rfl
 |.mkL d,_,_,_,C,q=>jf (LN (C.gl (ba q).1).1 (C.blt _ (by decide)) (sE d C (ba q).2).1 (Pf (Of d _) _ _)) λ_=>rfl
 |.mkT d,_,_,_,C,q=>jf (MN (C.gl (ba q).1).1 (C.blt _ (by decide)) (sE d C (ba q).2).1 (Pf (Of d _) _ _)) λ_=>rfl
 |.rngL d,_,_,_,C,q=>jf (NP C.calm (C.gl (ba (ba q).1).1).1 (C.blt _ (by decide)) (C.gl (ba (ba q).1).2).1 (C.blt _ (by decide)) (sE d C (ba q).2).1 (Pf (Of d _) _ _) rfl) λ_=>rfl
theorem sO:∀(j:Eo) {X:Cx} {c:Bc} {h:La},Cok T k X c->Yw T c j h=la->PO X (Gw T c j h) (lO X (denO T.gs (Bb T k) j))
 |.no,_,_,_,_,_=>u_no
 |.so d,_,_,_,C,q=>u_so (sE d C q).1
theorem zj:∀(j:Es) {X:Cx} {c:Bc} {hs:List La},Cok T k X c->okEs T c j hs=la->PA X (unEs T c j hs) (lA X (qf T.gs (Bb T k) j))
 |.nil,_,_,_,_,_=>Mj
 |.cons d j,_,_,_,C,q=>Ui (sE d C (ba q).1).1 (zj j C (ba q).2) (Pf (Of d _) _ _)
theorem sB:∀(j:Es) (b:Bool) {X:Cx} {c:Bc} {hs:List La} {a:La} {p:UE×UT},Cok T k X c->PE X a (lE X p.1)/\PT X a (lT X p.2)->okEs T c j hs=la->∀pos:Pos,
  PE X (.BoolOp (Yn b) (a::unEs T c j hs) pos) (lE X (denB T.gs (Bb T k) b p j).1)/\PW X (.BoolOp (Yn b) (a::unEs T c j hs) pos) (lT X (denB T.gs (Bb T k) b p j).2)
 |.nil,la,_,_,_,_,_,_,ha,_,_=>⟨qu ha.1,pw_and1 ha.2⟩
 |.nil,ua,_,_,_,_,_,_,ha,_,_=>⟨qu ha.1,pw_or1 ha.2⟩
 |.cons d j,la,_,_,_,_,_,C,ha,q,pos=>oQ ha (sB j la C (sE d C (ba q).1) (ba q).2 pos)
 |.cons d j,ua,_,_,_,_,_,C,ha,q,pos=>HM ha (sB j ua C (sE d C (ba q).1) (ba q).2 pos)
theorem sC:∀(j:Es) {X:Cx} {c:Bc} {hs:List La},Cok T k X c->qg j<=1->okEs T c j hs=la->PIfs X (unEs T c j hs) (ci X.K (denC T.gs (Bb T k) j))
 |.nil,_,_,_,_,_,_=>pQ
 |.cons d .nil,_,_,_,C,_,q=>qQ (sE d C (ba q).1).2
 |.cons _ (.cons _ es),_,_,_,_,l,_=>absurd l (by show ¬(qg es+1+1<=1);lia)
theorem sD:∀(j:Es) {X:Cx} {c:Bc} {hs F:List La},Cok T k X c->(p:Pos)->ax T c j hs F=la->∃y,Jm X p (eh T c j hs) (Pm T c j F) y/\lD X (denD T.gs (Bb T k) j) y/\(eh T c j hs).all (·.isSome)=la/\(eh T c j hs).length=(Pm T c j F).length
 |.nil,_,_,_,_,_,_,_=>⟨[],fR,kP,rfl,rfl⟩
 |.cons d (.cons f j),_,_,_,_,C,p,q=>let ⟨_,O,I,R,J⟩:=sD j C p (ba q).2;⟨_,mT (sE d C (ba (ba q).1).1).1 (sE f C (ba (ba q).1).2).1 O,wR I,R,congrArg (·+ 1) J⟩
 |.cons _ .nil,_,_,_,_,_,_,q=>nomatch q
theorem sI:∀(j:It) (t:Tg) (ct:Bc) (y:La) {X:Cx} {c:Bc} {h:La},Cok T k X c->Zw T c t j h=la->PI X (unTg ct t y) (unI T c j h) (lI X (denI T.gs (Bb T k) j))/\∀x,Oh (unI T c j h) X.env x=pure x
 |.e d,_,_,_,_,_,_,C,q=>⟨u_ie (sE d C q).1,iF (Of d _) _⟩
 |.r1 d,_,_,_,_,_,_,C,q=>⟨u_r1 (C.gl (ba q).1).1 (C.blt _ (by decide)) (sE d C (ba q).2).1 (Pf (Of d _) _ _),λ_=>rfl⟩
 |.r2 a b,_,_,_,_,_,_,C,q=>⟨s_r2 C (ba (ba q).1).1 (sE a C (ba (ba q).1).2) (sE b C (ba q).2),λ_=>rfl⟩
 |.enum d,.t _,_,_,_,_,_,C,q=>⟨JP (C.gl (ba (ba q).1).2).1 (C.blt _ (by decide)) (sE d C (ba q).2).1 (Pf (Of d _) _ _),λ_=>rfl⟩
 |.enum _,.n _,_,_,_,_,_,_,q=>nomatch q
 |.dv d,_,_,_,_,_,_,C,q=>⟨u_dv (sE d C (ba (ba q).1).1).1 (Iu (ba q).2 _ _ _) (ba (ba q).1).2,λ_=>rfl⟩
 |.di d,.t _,_,_,_,_,_,C,q=>⟨u_di (sE d C (ba (ba (ba q).1).1).2).1 (Iu (ba q).2 _ _ _) (ba (ba q).1).2,λ_=>rfl⟩
 |.di _,.n _,_,_,_,_,_,_,q=>nomatch q
end
end

noncomputable def Nw  (sb:Bool)(names:List Str)(bk:ScopeKind)(ts vs:List La):Sem (Option (List Str)):=
 if (!(ts.length==2||ts.length==3)||vs.length != ts.length||bk != .function)=la then pure Aa
 else if sb=la then pure Aa
 else if (names.length != ts.length||names.eraseDups.length != names.length)=la then pure Aa
 else if vs.all (eA 8)=la then pure Aa
 else if vs.all (constantsAlone 8)=la then do unsupported "assign.tuple-of-constant-expressions:order-of-the-stores";pure (ia names)
 else pure (ia names)
def Cy  (env:Env)(ts:List La):List Str:=ts.filterMap fun
  |.Name j pos=>if env.kindOf j==ia .local&&pos.line==ZC ts then ia j else Aa
  |_=>Aa
def gC     : vh [.Tuple ts a p] (.Tuple vs b q) env=Nw (vs.any mu) (Cy env ts) env.blockKind ts vs:=by
 have j:mu=fun|.Starred ..=>la|_=>ua:=by funext e;cases e<;>rfl
 with_unfolding_all rfl
def KE  (hk:∀x,env.kindOf x=c.sc.lookup x) ts:Cy env ts=af c ts:=by
 unfold af Cy;congr 1;funext e;cases e<;>first|rfl|(dsimp only;rw[hk])
def PU  (hk:∀x,env.kindOf x=c.sc.lookup x)(R:env.blockKind=.function)(h:Wy c ts vs=la):vh [.Tuple ts a p] (.Tuple vs b q) env=pure Aa:=by
 rw[gC,KE hk,R];unfold Nw;unfold Wy at h;by_cases I:(!(ts.length==2||ts.length==3)||vs.length != ts.length)=la
 ·rw[if_pos (by rw[I];rfl)]
 ·have j:(!(ts.length==2||ts.length==3)||vs.length != ts.length)=ua:=by simpa using I
  rw[j]at h;rw[if_neg (by rw[j];decide)]
  simp only[vA,Be,Pv]at h;obtain⟨O,J⟩:=h;rw[if_neg (by rw[O];decide)]
  by_cases y:((af c ts).length != ts.length||(af c ts).eraseDups.length != (af c ts).length)=la
  ·rw[if_pos y]
  ·rw[if_neg y];have F:((af c ts).length != ts.length||(af c ts).eraseDups.length != (af c ts).length)=ua:=by simpa using y
   rw[F]at J;rw[if_pos (by simpa using J)]
def OV  (hk:∀x,env.kindOf x=c.sc.lookup x)(hb:env.blockKind=.function)(h:swapped c ts vs=la):vh [.Tuple ts a p] (.Tuple vs b q) env=pure (ia (af c ts)):=by
 rw[gC,KE hk,hb];unfold Nw;unfold swapped at h;simp only[Be,Pv]at h;obtain⟨⟨⟨⟨⟨⟨Z,j⟩,h3⟩,y⟩,R⟩,O⟩,F⟩:=h;have e1:(!(ts.length==2||ts.length==3)||vs.length != ts.length||(LK != LK))=ua:=by
  have:(vs.length != ts.length)=ua:=by simpa using j
  rw[Z,this];rfl
 rw[if_neg (by rw[e1];decide),if_neg (by rw[h3];decide)]
 have I:((af c ts).length != ts.length||(af c ts).eraseDups.length != (af c ts).length)=ua:=by
  have J:((af c ts).length != ts.length)=ua:=by simpa using y
  have Y:((af c ts).eraseDups.length != (af c ts).length)=ua:=by simpa using R
  rw[J,Y];rfl
 rw[if_neg (by rw[I];decide),if_neg (by rw[O];decide),if_neg (by rw[F];decide)]
def ZT  (hk:∀x,env.kindOf x=c.sc.lookup x)(F:env.blockKind=.function)(h:lcSw c y j p s=la) :
  rh (.ListComp elt gs s p) (ia (.Name y j)) l env=pure la:=by
 unfold lcSw at h;simp only[Be]at h;unfold rh;dsimp only;show(pure (env.blockKind == .function&&env.kindOf y==ia .local&&j.line==p.line && !(s.names.any λ(n,k)=>n==y&&(k == .local||k == .cell))):Sem Bool)=pure la
 grind
def aU  {c: Bc}(hk:∀x,env.kindOf x=c.sc.lookup x)(h:(c.sc.lookup y==ia .local)=ua) :
  Bi [.Name y j] (.ListComp elt gs s p) l env=pure ua:=by
 show(pure (env.blockKind == .function&&env.kindOf y==ia .local&&j.line==p.line && !(s.names.any λ(n,k)=>n==y&&(k == .local||k == .cell))):Sem Bool)=pure ua
 grind
section
variable {T:Je}{k:Nat}
def Rg.kindOf    (C:Rg T k X c):∀x,X.env.kindOf x=c.sc.lookup x:=λx=>by
 unfold Env.kindOf;rw[C.sc]
def Rg.block    (C:Rg T k X c):X.env.blockKind=.function:=by
 unfold Env.blockKind;rw[C.kind];rfl
theorem OC   : ∀(is:List Nat) hs ,(unNs c is hs).length=is.length
 |[],_=>rfl
 |_::is,hs=>congrArg (·+ 1) (OC is hs.tail)
def sw2     (h:(af c [.Name x p,.Name y q]).length=2):af c [.Name x p,.Name y q]=[x,y]:=by
 unfold af at h ⊢;simp only[cw,List.filterMap_nil]at h ⊢;split at h<;>split at h<;>simp_all

def wQ     (C:Rg T k X c)(q:Wm T c (.asg t d) h=la)(hs:PE X (Yb T c d (q0 h)) (lE X (Ua T.gs (Bb T k) d).1)):PS X (Qm T c (.asg t d) h) (lS X (denS T.gs (Bb T k) (.asg t d))):=by
 have F:=Xo C.toCok t (q1 h) (ba (ba q).1).2;have q3:=(ba q).2;have j:Bi [unTg c t (q1 h)] (Yb T c d (q0 h)) h.pos.line X.env=pure ua/\vh [unTg c t (q1 h)] (Yb T c d (q0 h)) X.env=pure Aa:=by
  cases t with
  |n i=>
   refine⟨?_,WN d _ _ _ _⟩;by_cases y:isLc d=la
   ·cases d with
    |lc=>exact aU C.kindOf (bn q3)
    |_=>cases y
   ·exact yS (by lia) _ _ _ _
  |t ts=>
   cases d with
   |lc=>cases q3
   |tup I=>exact⟨rfl,PU C.kindOf C.block q3⟩
   |_=>exact⟨rfl,rfl⟩
 exact s_asg hs F j.1 j.2 (wS t _ _)
def xQ     (C:Rg T k X c)(q:Wm T c (.par is es) h=la)(Z:PA X (unEs T c es (cl (q0 h))) (lA X (qf T.gs (Bb T k) es))):PS X (Qm T c (.par is es) h) (lS X (denS T.gs (Bb T k) (.par is es))):=by
 have J:=(ba (ba q).1).2;have Y:=(ba (ba (ba q).1).1).2;have F:=OV (a:=kk (q1 h)) (b:=kk (q0 h)) (p:=(q1 h).pos) (q:=(q0 h).pos) C.kindOf C.block J;unfold swapped at J;simp only[Be,qo,beq_iff_eq]at J;obtain⟨⟨⟨⟨⟨⟨_,y⟩,_⟩,O⟩,_⟩,_⟩,_⟩:=J;rw[Tx,OC]at y;have I:is.length=2:=of_decide_eq_true (ba q).2;have nd:X.N.Nodup:=by rw[C.hN];exact C.nd
 match is,es,I,y,O,F,Y,Z with
 |[i,j],.cons a (.cons b .nil),_,_,O,F,Y,Z=>
  have R:=ba Y;have u2:=ba R.2;refine s_par2 C.calm nd (C.nm (ba (ba R.1).1).1) (C.nm (ba (ba u2.1).1).1) (by simp_all) (C.loc _ (ba (ba R.1).1).2) (C.loc _ (ba (ba u2.1).1).2) Z ?_ rfl
  rw[<- sw2 O];exact F
 |[],_,I,_,_,_,_,_=>exact absurd I (by simp)
 |[_],_,I,_,_,_,_,_=>exact absurd I (by simp)
 |_::_::_::_,_,I,_,_,_,_,_=>exact absurd I (by simp)
 |[_,_],.nil,_,y,_,_,_,_=>exact absurd y (by simp[qg])
 |[_,_],.cons _ .nil,_,y,_,_,_,_=>exact absurd y (by simp[qg])
 |[_,_],.cons _ (.cons _ (.cons _ _)),_,y,_,_,_,_=>exact absurd y (by simp[qg])
def cS     (C:Rg T k X c)(q:Wm T c (.asgC i d) h=la):PS X (Qm T c (.asgC i d) h) (lS X (denS T.gs (Bb T k) (.asgC i d))):=by
 have Y:=(ba (ba (ba q).1).1);have R:=(ba q).2;have Z:=C.nm (ba (ba q).1).2;have hy:=eq_of_beq (ba (ba R).1).1;cases d with
 |lc pick t O J d=>
  have F:=Y.2;have S:=C.toCok.comp (ba (ba (ba (ba (ba (ba F).1).1).1).1).1).1;exact s_lc (by rw[C.hN];exact C.nd) Z (by rw[C.sc];exact hy) C.calm S.1 (sI O t _ _ C.toCok (ba (ba (ba (ba F).1).1).1).2).1 (ba (ba (ba (ba (ba (ba F).1).1).1).1).1).2
   (λcl A y j I=>Xo (S.2 cl A y j I) t _ (ba (ba (ba (ba (ba F).1).1).1).1).2) (λcl A y j I=>sC J (S.2 cl A y j I) (of_decide_eq_true (ba (ba F).1).2) (ba (ba (ba F).1).1).2)
   (λcl A y j I=>Ej.of (sE d (S.2 cl A y j I) (ba F).2).1) (ZT C.kindOf C.block R) (xS O _ _)
 |_=>cases Y.1
def YT     (C:Rg T k X c)(q:Wm T c (.raise n es) h=la):PS X (Qm T c (.raise n es) h) (lS X (denS T.gs (Bb T k) (.raise n es))):=by
 have j:(Fh T.cs c n&&decide (0<qg es)&&okEs T c es (cl (qr h)))=la:=q
 match es,j with
 |.nil,j=>exact absurd (of_decide_eq_true (ba (ba j).1).2) (Rh 0)
 |.cons d es,j=>exact s_raise C.toCok (ba (ba j).1).1 (zj (.cons d es) C.toCok (ba j).2) (Pf (Of d _) _ _) (Tn es _ _ _).1
def Rg.tryC    (C:Rg T k X c)(j:aj (Ka X.prog X.w) X.A X.env xe):Rg T k (X.tryC pins xe) c:=
 ⟨⟨C.hN,C.nd,C.loc,C.cel,C.fre,C.glb,C.room,C.calm,j,C.blt,C.fns,C.gls,C.room2,C.cls,C.mgK⟩,C.sc,C.kind,C.stk⟩
mutual
theorem sS:∀(j:S) {X:Cx} {c:Bc} {h:Qa},Rg T k X c->Wm T c j h=la->PS X (Qm T c j h) (lS X (denS T.gs (Bb T k) j))
 |.expr d,_,_,_,C,q=>s_expr (sE d C.toCok (ba q).1).1 (vS (bn (ba q).2) _ _ _)
 |.asg _ d,_,_,_,C,q=>wQ C q (sE d C.toCok (ba (ba q).1).1).1
 |.asgC _ _,_,_,_,C,q=>cS C q
 |.setS o i d,_,_,_,C,q=>s_set C.toCok.hu (sE d C.toCok (ba (ba q).1).1).1 (sE o C.toCok (ba (ba q).1).2).1 (sE i C.toCok (ba q).2).1 (SC d _ _ _ _ _ _).1 (SC d _ _ _ _ _ 0).2 rfl (FT (Of i _) _ _)
 |.par _ es,_,_,_,C,q=>xQ C q (zj es C.toCok (ba (ba (ba q).1).1).1)
 |.aug _ _ d,_,_,_,C,q=>let s:=C.toCok.store (ba (ba q).1).2;s_aug (by rw[C.hN];exact C.nd) (C.nm (ba (ba q).1).1) s.1 s.2 (sE d C.toCok (ba q).2).1
 |.ite t a b,_,_,_,C,q=>s_if (sE t C.toCok (ba (ba q).1).1).2 (Ak a C (ba (ba q).1).2) (Ak b C (ba q).2)
 |.fr t it b,_,_,_,C,q=>s_for C.po C.calm (sI it t _ _ C.toCok (ba (ba q).1).2).1 (Xo C.toCok t _ (ba (ba q).1).1) (Ak b C (ba q).2) (sI it t ⟨[],[]⟩ e0 C.toCok (ba (ba q).1).2).2
 |.wh t b,_,_,_,C,q=>s_wh C.po (sE t C.toCok (ba q).1).2 (Ak b C (ba q).2)
 |.ret d,_,_,_,C,q=>s_ret (sE d C.toCok q).1
 |.raise _ _,_,_,_,C,q=>YT C q
 |.tr b _ _ _,_,_,_,C,q=>s_try C (ba (ba (ba (ba (ba (ba (ba (ba q).1).1).1).1).1).1).1).2 (ba (ba (ba (ba (ba (ba (ba q).1).1).1).1).1).1).2 (ba (ba (ba (ba (ba (ba q).1).1).1).1).1).2 (ba (ba (ba (ba (ba q).1).1).1).1).2 (bn (ba (ba (ba (ba q).1).1).1).2) (bn (ba (ba (ba q).1).1).2) (bn (ba (ba q).1).2) (ba q).2
   λ_ _ y=>Ak b (C.tryC y) (ba (ba (ba (ba (ba (ba (ba (ba q).1).1).1).1).1).1).1).1
theorem Ak:∀(j:Ss) {X:Cx} {c:Bc} {hs:List Qa},Rg T k X c->okSs T c j hs=la->Ce X (unSs T c j hs) (lS X (Md T.gs (Bb T k) j))
 |.nil,_,_,_,_,_=>s_nil
 |.cons s r,_,_,_,C,q=>s_cons (t:=denS T.gs (Bb T k) s) (u:=Md T.gs (Bb T k) r) (sS s C (ba q).1) (Ak r C (ba q).2)
end
end
def AC  {T:Je}{n:Nat}(h:T.funs[n]?=ia d):(T.funs++T.vf)[n]?=ia d:=by
 grind
def CD  {T:Je}(hd:(T.funs++T.vf)[n]?=ia d){E:KX}(h:Bb T (k+1) n us G Q E) :
  us.length=d.ps.length/\Md T.gs (Bb T k) d.body ⟨λ_ j=>Q .non j,Q,λx _ j=>E x j⟩ (fc d.N.length us) G:=by
 have y:(match (T.funs++T.vf)[n]? with|some d=>us.length=d.ps.length/\Md T.gs (Bb T k) d.body ⟨λ_ j=>Q .non j,Q,λx _ j=>E x j⟩ (fc d.N.length us) G|none=>False):=h
 lia
def IQ     (e:a=b)(h:Ce X a t):Ce X b t:=e ▸ h
def OU       (r:Pb K H us vs):SR K H (fc N.length us) (L2.start N vs):=by
 unfold fc L2.start;refine⟨by simp[r.length],λi u e=>?_⟩
 by_cases j:i<us.length
 ·rw[Zj (by simp_all),Dd]at e
  cases q:us[i]? with
  |none=>simp_all
  |some w=>
   rw[q]at e;have:w=u:=by simpa using e
   subst this;obtain⟨v,I,y⟩:=r.get q;have F:i<vs.length:=by rw[<- r.length];exact j
   exact⟨v,by rw[Zj (by simpa using F),Dd,I];rfl,y⟩
 ·rw[Vr (by simpa using j),HK]at e
  split at e<;>cases e
structure PF (T:Je)(P:Rb)(w:Db)(K:Nb)(mg:Str->Option Da)(base:Za)(k:Nat):Prop where
 blt:∀x∈Ti,mg x=Aa
 fns:∀(n:Nat) (d:Fun),T.funs[n]?=ia d->xL P w K mg base k d (Bb T k n)
 gls:∀(n:Nat) (x:Str) (u:U),T.gn[n]?=ia x->T.gs[n]?=ia u->∃v w,mg x=ia w/\RelV v w/\∀H,RU K H u v
 cls:∀n∈T.cs,1<=n->∃C,XCls K (gK K) (clsN n) (clsF n) C
 mgK:∀x v,gK K x=ia v->mg x=ia v
noncomputable def yj  (N ps:List Str)(j:Rc):Bool:=
 decide (j.kind=.function) && !j.isCoroutine && !j.isGenerator&&decide N.Nodup&&(N.take ps.length==ps)&&ps.all (λx=>j.names.lookup x==ia .local||j.names.lookup x==ia .cell)&&j.names.all (λy=>y.2 != .free)
def xx    (h:yj N ps O=la):FnScope N ps O:=by
 unfold yj at h;simp only[Be,decide_eq_true_eq,Pv]at h;obtain⟨⟨⟨⟨⟨⟨J,j⟩,R⟩,F⟩,I⟩,Z⟩,Y⟩:=h;refine⟨J,j,R,F,eq_of_beq I,λx hx=>?_,λy hy=>?_⟩
 ·simp_all
 grind
noncomputable def Ri  (T:Je):Nat->List Fun->List Qa->Bool
 |_,[],[]=>la
 |i,d::ds,st::sts=>yj d.N d.ps (Ge st)&&((T.ns.lookup i).isSome||okSs T ⟨d.N,(Ge st).names⟩ d.body (Se st))&&Ri T (i+1) ds sts
 |_,_,_=>ua
def Jj  (T:Je)(all:List Qa):Nat->List Fun->List Qa->Prop
 |_,[],_=>True
 |i,d::ds,st::sts=>(match T.ns.lookup i with
  |none=>unSs T ⟨d.N,(Ge st).names⟩ d.body (Se st)=Se st
  |some _=>False)/\Jj T all (i+1) ds sts
 |_,_::_,[]=>False
theorem Qq {T:Je}{all:List Qa}:∀{i:Nat} {y:List Fun} {sts:List Qa},Ri T i y sts=la->Jj T all i y sts->∀{n:Nat} {d:Fun},y[n]?=ia d->∃st,sts[n]?=ia st/\yj d.N d.ps (Ge st)=la/\(match T.ns.lookup (i+n)with
  |none=>okSs T ⟨d.N,(Ge st).names⟩ d.body (Se st)=la/\unSs T ⟨d.N,(Ge st).names⟩ d.body (Se st)=Se st
  |some _=>False)
 |_,[],_,_,_,_,_,e=>by simp at e
 |_,_::_,[],h,_,_,_,_=>by unfold Ri at h;cases h
 |i,d::y,st::sts,h,g,n,d',e=>by
  unfold Ri at h;unfold Jj at g;simp only[Be]at h;cases n with
  |zero=>
   simp at e;subst e;refine⟨st,rfl,h.1.1,?_⟩;have j:=g.1;have I:=h.1.2;rw[Qz];cases q:T.ns.lookup i with
   |none=>rw[q]at j I;exact⟨by simpa using I,j⟩
   |some z=>rw[q]at j;exact j
  |succ n=>
   obtain⟨F,J,q⟩:=Qq h.2 g.2 (n:=n) (by simpa using e)
   rw[show i+1+n=i+(n+1) by lia]at q
   exact⟨F,by simpa using J,q⟩
noncomputable def fy  (K:Nb)(v:Da)(P:Ba):Bool:=match v with
 |.ref c=>(match K.lookup c with
  |some ⟨.type t,_,.fields vs,_⟩=>t == "code" && (match (vs[11]?:Option Da)with|some (.ref Q)=>Q==P|_=>ua)&&(match vs.getD 18 .none with|.str _ _=>la|_=>ua)&&(match vs.getD 7 .none with|.int _ _=>la|_=>ua)
   && (match vs.getD 9 .none with|.bool _=>la|_=>ua)&&(match vs.getD 10 .none with|.int _ _=>la|_=>ua)&&c != P
  |_=>ua)
 |_=>ua
section
variable {T:Je}{P:Rb}{w:Db}{K:Nb}{mg:Str->Option Da}{base:Za}
def qE  {j n:Nat}{t:List U->Gp->K1->KX->Prop}(hz:∀us G Q E,¬t us G Q E):FnOk P w K mg base (zf P w) j f fd ps (gi K t):=
 ⟨λI H Q E ⟨_,_,_,_,_,_,h,_⟩=>(hz _ _ _ _ h).elim,λA y s H F us I Q E _ _ _ _ ⟨_,_,_,_,_,_,h,_⟩=>(hz _ _ _ _ h).elim⟩
def FE       (F:L2.Fun K d.name d.name st f fd)(h1:yj d.N d.ps (Ge st)=la)(h2:okSs T ⟨d.N,(Ge st).names⟩ d.body (Se st)=la)(h3:unSs T ⟨d.N,(Ge st).names⟩ d.body (Se st)=Se st)
  (pf:PF T P w K mg base k) (hd:T.funs[n]?=ia d):FnOk P w K mg base (zf P w) (k+3) f fd d.ps (gi K (Bb T (k+1) n)):=by
 have S:=xx h1;refine F.okX S (λvs H Q E ⟨us,G,Q',E',r,hG,h,O,lx⟩=>by rw[<- r.length];exact(CD (AC hd) h).1) λva A Z s H vs Q E hr R=>?_
 obtain⟨us,G,Q',E',r,hG,h,O,lx⟩:=R;obtain⟨hl,h⟩:=CD (AC hd) h;refine⟨_,IQ h3 (Ak d.body (k:=k) (c:=⟨d.N,(Ge st).names⟩) (hs:=Se st) ⟨⟨rfl,S.nd,λx z=>eq_of_beq z,λx z=>⟨eq_of_beq z,rfl⟩,λx z=>.inr (eq_of_beq z),λx z=>eq_of_beq z,hr.mono (by lia),rfl,yM,pf.blt,pf.fns,pf.gls,hr,pf.cls,pf.mgK⟩,rfl,S.kind,rfl,rfl⟩ h2),?_⟩
 exact⟨_,_,G,OU r,hG,h,⟨λJ xa j y a b c q=>O .non .non j y rfl b c q,λw v j y a b c q=>O w v j y a b c q,λja e s' x J xa j y I sr Y za f q=>by obtain⟨ea,C0,dx,rfl,l,xd⟩:=Y;exact zf.out1 I l (lx x j y C0 dx xd za f q)⟩⟩
abbrev rB  (T:Je)(K:Nb)(mg:Str->Option Da)(sts:List Qa):Prop:=∀(n:Nat) (d:Fun) (st:Qa),T.funs[n]?=ia d->sts[n]?=ia st->∃(f:Ba) (fd:Ul),L2.Fun K d.name d.name st f fd/\mg d.name=ia (.ref f)/\Binds K fd d.ps []/\∀z,T.ns.lookup n=ia z->fy K fd.code z.P=la
def gR  {sts:List Qa}(I:Ri T 0 T.funs sts=la)(y:Jj T sts 0 T.funs sts)(J:rB T K mg sts)(hU:∀t∈tabs,∀t'∈tabs,t.1=t'.1->t=t')(R:K.In base)(hB:BmAt mg base)
  (hb:∀x∈Ti,mg x=Aa) (Z:∀(n:Nat) x u ,T.gn[n]?=ia x->T.gs[n]?=ia u->∃v w,mg x=ia w/\RelV v w/\∀H,RU K H u v) (O:∀n∈T.cs,1<=n->∃C,XCls K (gK K) (clsN n) (clsF n) C) (Y:∀x v,gK K x=ia v->mg x=ia v) :
  ∀k ,PF T P w K mg base k:=by
 intro k
 induction k using Nat.strongRecOn with
 |ind k ih=>
  refine⟨hb,λn d hd=>?_,Z,O,Y⟩;obtain⟨st,e,h1,j⟩:=Qq I y hd;obtain⟨f,fd,F,m,b,hz⟩:=J n d st hd e;refine⟨f,fd,?_,m,F.kp,b⟩;rw[Tz]at j;cases q:T.ns.lookup n with
  |none=>
   rw[q]at j;obtain _|k:=k
   ·exact qE (n:=n) λ_ _ _ _ h=>h
   ·exact FE F h1 j.1 j.2 (ih k (by lia)) hd
  |some z=>rw[q]at j;exact j.elim
noncomputable def G0  (a:Ba)(ns:List Int):Gp:=λb=>if b=a then ia (.fro (ns.map .int)) else Aa
theorem UD   : ∀ns:List Int,Pb K H (ns.map .int) (ns.map V.int)
 |[]=>rfl
 |_::r=>⟨_,_,rfl,rfl,UD r⟩
def law_sp        (hT:∀t∈tabs,t.1∈tb)(j:Rt tb H)(fr:H a=ia (.frz o (.lst (ns.map V.int))))(h:Bb T k n [.loc a] (G0 a ns) (λu _=>u=.bl la) λ_ _=>False) :
  gi K (Bb T k n) [.ref a] H (λv _=>v=.bl la) λ_ _ _=>False:=by
 refine⟨[.loc a],G0 a ns,_,_,⟨_,_,rfl,rfl,rfl⟩,⟨λb I e=>?_,λt F=>.inl ?_⟩,h,λw v y J r _ _ q=>?_,λ_ _ _ _ _ _ _ _ z=>z.elim⟩
 ·unfold G0 at e;split at e
  ·rename_i z;subst z;cases e;exact⟨o,_,fr,UD ns⟩
  lia
 ·have:=j t.1
  grind
 ·subst q;exact r
end

def oV  {T: Je}{sts:List Qa}(F:L2.Fun K d.name d.name st f fd)(y:Ri T 0 T.funs sts=la)(j:Jj T sts 0 T.funs sts)(O:rB T K mg sts)(Z:∀t∈tabs,∀t'∈tabs,t.1=t'.1->t=t')(J:K.In base)(hB:BmAt mg base)
  (hb:∀x∈Ti,mg x=Aa) (hg:∀(n:Nat) x u ,T.gn[n]?=ia x->T.gs[n]?=ia u->∃v w,mg x=ia w/\RelV v w/\∀H,RU K H u v) (R:∀n∈T.cs,1<=n->∃C,XCls K (gK K) (clsN n) (clsF n) C) (Y:∀x v,gK K x=ia v->mg x=ia v) (hd:T.funs[n]?=ia d) (hs:sts[n]?=ia st) (hn:T.ns.lookup n=Aa) :
  FnOk P w K mg base (zf P w) (k+2) f fd d.ps (gi K (Bb T k n)):=by
 cases k with
 |zero=>exact qE (n:=n) λ_ _ _ _ h=>h
 |succ k=>
  obtain⟨xa,e,h1,I⟩:=Qq y j hd;rw[hs]at e;cases e;rw[Tz,hn]at I;exact FE F h1 I.1 I.2 (gR y j O Z J hB hb hg R Y k) hd

def YM    (h:gK K x=ia v):Ng K ze x=ia (ia v):=by
 unfold gK at h;cases q:Ng K ze x with
 |none=>simp_all
 |some o=>simp_all
def pP    (X:K.In h)(G:h.Ns ze mg):∀x v,gK K x=ia v->mg x=ia v:=λ_ _ e=>Cr X G (YM e)
def OB    (h:Ng K ze x=ia (ia v)):gK K x=ia v:=by unfold gK;rw[h];rfl
noncomputable def gx  : List Str:=["__module__", "__firstlineno__", "__static_attributes__", "__weakref__", "__doc__"]
noncomputable def DB  : List Str:=["__module__", "__firstlineno__", "__init__", "__static_attributes__", "__doc__"]
def offB  (ks:List Str):Bool:=offN.all λy=>!ks.contains y
def TC   {m:Str->Option Da}(h:offB ks=la)(j:∀x,x∉ks->m x=Aa):∀y∈offN,m y=Aa:=λy F=>j y (by
 have:=Mg.mp h y F
 simp_all)
def cU     {hd F:Bool}(a:Ng K ze "PlanError" = ia (ia (.ref D)))(kp:Lh K (.ref D)=la)
  (l:K.lookup D=ia (Yl "PlanError" q D R bs pi hd sn sub F col dd k0 k1 k2 k3 k5 O)) (n:Jn K R=ia ks) (J:offB ks=la) (Y:ks.contains ("__init__" : Str)=ua):∃y,XBase K (gK K) D y:=by
 obtain⟨m,I,j,_⟩:=XB n;exact⟨m,OB a,kp,⟨_,_,_,_,_,_,_,_,_,_,_,_,_,_,_,l,I⟩,TC J j,j _ (by simp_all)⟩
def zS               (B:XBase K (gK K) D mD)(a:Ng K ze x=ia (ia (.ref C)))(kp:Lh K (.ref C)=la)
  (l:K.lookup C=ia (Yl x q C N bs (.ref D::pi) la sn sub ab col dd k0 k1 k2 k3 k5 "ValueError.__new__")) (n:Jn K N=ia ks) (h1:offB ks=la) (i:Ng K N "__init__" = ia (ia (.ref fI))) (F:L2.Fun K "__init__" I st fI fd) (lf:K.lookup fI=ia ⟨.type "function",od,.func fd,za⟩)
  (S:yj (("self" : Str)::fs) ("self" :: fs) (Ge st)=la) (b:Binds K fd (("self" : Str)::fs) []) (j:((("self" : Str)::fs).all λy=>(Ge st).names.lookup y==ia .local)=la)
  (bd:(∃f p1 Z Y pos,fs=[f]/\Se st=[.Assign [.Attribute (.Name "self" p1) f Z] (.Name f Y) pos])\/∃f J p1 Z Y pos q1 q2 q3 xa,fs=[f,J]/\f≠J/\Se st=[.Assign [.Attribute (.Name "self" p1) f Z] (.Name f Y) pos,.Assign [.Attribute (.Name "self" q1) J q2] (.Name J q3) xa]):XCls K (gK K) x fs C:=by
 obtain⟨m,hn,R,O⟩:=XB n;exact⟨OB a,kp,D,N,fI,m,mD,B,⟨_,_,_,_,_,_,_,_,_,_,_,_,l⟩,hn,TC h1 R,O _ _ i,st,I,fd,F,⟨_,_,lf⟩,xx S,b,λy hy=>eq_of_beq (Mg.mp j y hy),bd⟩
def On     : Ad (Ad G a o) a u=Ad G a u:=by funext b;unfold Ad;lia
def Sm  (f:Ba)(G j:Gp):Prop:=∀b o,b≠f->G b=ia o->j b=ia o
def Sa  (G j:Gp):Prop:=∀b o,G b=ia o->j b=ia o
def Sm.refl    : Sm f G G:=λ_ _ _ h=>h
def Sa.refl   : Sa G G:=λ_ _ h=>h
def Sm.trans    (a:Sm f G G1)(b:Sm f G1 G2):Sm f G G2:=λc o n h=>b c o n (a c o n h)
def Sa.trans   (a:Sa G G1)(b:Sa G1 G2):Sa G G2:=λc o h=>b c o (a c o h)
def Sa.sm    (a:Sa G G'):Sm f G G':=λc o _ h=>a c o h
def Sa.new     (h:G p=Aa):Sa G (Ad G p o):=λc u e=>by
 rw[oh (λz=>by lia)];exact e
def Sm.put     : Sm f G (Ad G f o):=λc u n e=>by rw[oh n];exact e
def oi  {G:Gp}(h:G a=ia o)(j:G p=Aa):p≠a:=λz=>by lia
def pk.at     (n:pk G p o G'):G' p=ia o:=by rw[n.eq];exact rf
def pk.sa     (n:pk G p o G'):Sa G G':=by rw[n.eq];exact Sa.new n.no
def Qg.at     (n:Qg G p o G'):G' p=ia o:=by rw[n.eq];exact rf
def Qg.sm     (n:Qg G p o G'):Sm p G G':=by rw[n.eq];exact Sm.put
mutual
noncomputable def pd:U->Wa
 |.non=>.none
 |.bl b=>.bool b
 |.int i=>.int i
 |.str x=>.str x
 |.tup j=>.tuple (Gg j)
 |.loc _=>.none
 |.fn _=>.none
 |.ty _=>.none
 |.exc _ _=>.none
 |.own _=>.none
 |.clo _ _=>.none
noncomputable def Gg:List U->List Wa
 |[]=>[]
 |u::us=>pd u::Gg us
end
mutual
noncomputable def bare:U->Bool
 |.non=>la
 |.bl _=>la
 |.int _=>la
 |.str _=>la
 |.tup j=>bares j
 |.loc _=>ua
 |.fn _=>ua
 |.ty _=>ua
 |.exc _ _=>ua
 |.own _=>ua
 |.clo _ _=>ua
noncomputable def bares:List U->Bool
 |[]=>la
 |u::us=>bare u&&bares us
end
mutual
theorem Ut {G:Gp}:∀{u:U},bare u=la->DU G u (pd u)
 |.non,_=>.non
 |.bl b,_=>.bl b
 |.int i,_=>.int i
 |.str x,_=>.str x
 |.tup _,h=>.tup (zx h)
 |.loc _,h=>nomatch h
 |.fn _,h=>nomatch h
 |.ty _,h=>nomatch h
 |.exc _ _,h=>nomatch h
 |.own _,h=>nomatch h
 |.clo _ _,h=>nomatch h
theorem zx {G:Gp}:∀{us:List U},bares us=la->Dg G us (Gg us)
 |[],_=>.nil
 |_::_,h=>.cons (Ut (ba h).1) (zx (ba h).2)
end
theorem ZD  : ∀{us },(∀u∈us,bare u=la)->bares us=la
 |[],_=>rfl
 |u::us,h=>by
  show(bare u&&bares us)=la;rw[h u Cf,ZD λv j=>h v (Uc _ j)];rfl
theorem VC  : ∀us ,Gg us=us.map pd
 |[]=>rfl
 |u::us=>by
  show pd u::Gg us=_;rw[VC us];rfl
def kQ     (h:bare u=la)(f:Fits 16000000 60 (pd u))(q:Q (.str (pd u).shown) G):Ol [u] G Q:=⟨pd u,Ut h,f,q⟩
def eq_p     (h:bares us=la)(s:Small (pd (.tup us)))(q:k la):eqU (.tup us) (.tup us) G k:=
 ⟨_,_,Ut (u:=.tup us) h,Ut (u:=.tup us) h,s,s,by rw[DK _ s.1];exact q⟩
structure Ud (n:Nat)(u:U):Prop where
 b:bare u=la
 l:(pd u).canLay0=la
 d:(pd u).depth<=n
def Ud.mono    (h:Ud n u)(e:n<=m):Ud m u:=⟨h.b,h.l,Lb h.d e⟩
def Ud.int   i:Ud 0 (.int i):=⟨rfl,rfl,Fb _⟩
def Ud.str   (h:∀c∈x.cps.toList,c<128):Ud 0 (.str x):=⟨rfl,by
 show x.cps.all (λc=>decide (c<0x110000))=la;rw[<- Array.all_toList,Mg]
 grind,Fb _⟩
theorem smls   : ∀{us },(∀u∈us,Ud n u)->bares us=la/\xw (Gg us)=la/\rj (Gg us)<=n
 |[],_=>⟨rfl,rfl,He _⟩
 |u::us,h=>by
  obtain⟨F,y,j⟩:=smls λv I=>h v (Uc _ I);have hu:=h u Cf;refine⟨?_,?_,?_⟩
  ·show(bare u&&bares us)=la;rw[hu.b,F];rfl
  ·show((pd u).canLay0&&xw (Gg us))=la;rw[hu.l,y];rfl
  ·show max (pd u).depth (rj (Gg us))<=n;exact Nat.max_le.mpr ⟨hu.d,j⟩
def Ud.tup    (h:∀u∈us,Ud n u):Ud (n+1) (.tup us):=let ⟨F,y,j⟩:=smls h;⟨F,y,oA j⟩
def Ud.small    (h:Ud n u)(j:n<=100):Small (pd u):=⟨h.l,Lb h.d j⟩
def hQ      (h:Ud n (.tup us))(j:n<=100)(q:k la):eqU (.tup us) (.tup us) G k:=eq_p h.b (h.small j) q
structure Ft (n k:Nat)(u:U):Prop where
 b:bare u=la
 f:Fits n k (pd u)
def Ft.mono    (h:Ft n k u)(y:n<=F)(j:k<=k'):Ft F k' u:=⟨h.b,h.f.mono y j⟩
def Ft.int   (h:i.natAbs<2 ^ 1000):Ft 1921 0 (.int i):=⟨rfl,Fits.int h⟩
def Ft.str    (h:x.length<=m)(y:∀c∈x.cps.toList,c<128):Ft (10*m+2) 0 (.str x):=⟨rfl,Fits.str h λc j=>Rz (y c j) (by decide)⟩
def Ft.tup    (y:us.length<=m)(h:∀u∈us,Ft n k u)(j:m*(n+2)+3<=N):Ft N (k+1) (.tup us):=by
 refine⟨ZD λu hu=>(h u hu).b,?_⟩;show Fits N (k+1) (.tuple (Gg us));rw[VC];refine Fits.tupLe (m:=m) (n:=n) (by simp_all) (λd hd=>?_) j
 obtain⟨u,hu,rfl⟩:=Ia.mp hd;exact(h u hu).f
def Nx      (h:Ft n k u)(y:n<=16000000)(j:k<=60)(q:Q (.str (pd u).shown) G):Ol [u] G Q:=kQ h.b (h.f.mono y j) q
theorem Te     : ∀{xs } (I:Nat->Sg->Gp->Prop) (_:∀j G,I xs.length j G->ok G/\k j G)
  (_:∀i x j G K ,xs[i]?=ia x->I i j G->(∀F J,I (i+1) F J->K F J)->ok G/\b x j G K) {j } {G } (_:I 0 j G),forL ok b xs j G k
 |[],_,h0,_,_,_,h=>h0 _ _ h
 |x::_,I,h0,h1,_,_,h=>h1 0 x _ _ _ rfl h λ_ _ R=>Te (λi=>I (i+1)) h0 (λi y j G K e O hk=>h1 (i+1) y j G K e O hk) R
theorem cg     : ∀{xs } (I:Nat->List U->Gp->Prop) (_:∀acc G,I xs.length acc G->ok G/\k acc G)
  (_:∀i x acc G K ,xs[i]?=ia x->I i acc G->(∀u j,I (i+1) (acc++[u]) j->K (ia u) j)->(∀j,I (i+1) acc j->K Aa j)->ok G/\b x G K) {acc } {G } (_:I 0 acc G),Oi ok b xs acc G k
 |[],_,h0,_,_,_,h=>h0 _ _ h
 |x::_,I,h0,h1,_,_,h=>h1 0 x _ _ _ rfl h (λ_ _ O=>cg (λi=>I (i+1)) h0 (λi y a G K e F hk J=>h1 (i+1) y a G K e F hk J) O) (λ_ O=>cg (λi=>I (i+1)) h0 (λi y a G K e F hk J=>h1 (i+1) y a G K e F hk J) O)
theorem Xi       f (j:ok G):∀{xs } (_:∀x∈xs,∀K ,K (ia (f x)) G->b x G K) {acc } (_:k (acc++xs.map f) G),Oi ok b xs acc G k
 |[],_,acc,q=>⟨j,by simpa using q⟩
 |x::xs,hb,acc,q=>⟨j,hb x Cf _ (Xi f j (λy F=>hb y (Uc _ F)) (by simpa using q))⟩
def Xd   i n:(rngU i n).length=n:=by unfold rngU;simp
def Nf    (h:(rngU 0 n)[i]?=ia x):i<n/\x=.int i:=by
 unfold rngU at h;rw[Dd]at h;by_cases j:i<n
 ·rw[dw j]at h;exact⟨j,by simpa using h.symm⟩
 ·rw[Jr (by simpa using j)]at h
  cases h
def Qu   (f:α->y)(l:List α) i:atI (l.map f) i=(atI l i).map f:=by
 unfold atI;rw[Hb];cases dg l.length i with
 |none=>rfl
 |some j=>simp
def Le   (a:α) l:atI (a::l) 0=ia a:=Mn (xs:=a::l) (j:=0) rfl
def Gd   (a b:α) l:atI (a::b::l) 1=ia b:=Mn (xs:=a::b::l) (j:=1) rfl
def mC   {l:List α}{r:Int}(h0:0<=r)(F:r<l.length):∃x,x∈l/\atI l r=ia x:=by
 obtain⟨j,rfl⟩:=Cg h0;have y:j<l.length:=by lia
 exact⟨l[j],Fm y,Mn (Ic y)⟩
noncomputable def Qd  (c:Ba)(a l t:Int):List (Sb×U):=[(.inr "cells",.loc c),(.inr "at",.int a),(.inr "left",.int l),(.inr "turn",.int t)]
def k_ca  : ¬((Jb ("cells" : Str):Sb)=Jb ("at" : Str)):=by decide +kernel
def k_cl  : ¬((Jb ("cells" : Str):Sb)=Jb ("left" : Str)):=by decide +kernel
def k_ct  : ¬((Jb ("cells" : Str):Sb)=Jb ("turn" : Str)):=by decide +kernel
def k_al  : ¬((Jb ("at" : Str):Sb)=Jb ("left" : Str)):=by decide +kernel
def k_at  : ¬((Jb ("at" : Str):Sb)=Jb ("turn" : Str)):=by decide +kernel
def k_lt  : ¬((Jb ("left" : Str):Sb)=Jb ("turn" : Str)):=by decide +kernel

def NR  : dGet (Qd c a l t) (.inr "cells")=ia (.loc c):=by simp[dGet,Qd]
def g_at  : dGet (Qd c a l t) (.inr "at")=ia (.int a):=by simp[dGet,Qd,k_ca,-cm]
def AN  : dGet (Qd c a l t) (.inr "left")=ia (.int l):=by simp[dGet,Qd,k_cl,k_al,-cm]
def Fx  : dGet (Qd c a l t) (.inr "turn")=ia (.int t):=by simp[dGet,Qd,k_ct,k_at,k_lt,-cm]
def RO   x:dPut (Qd c a l t) (.inr "turn") (.int x)=Qd c a l x:=by simp[dPut,Qd,k_ct,k_at,k_lt,-cm]
def p_at   x:dPut (Qd c a l t) (.inr "at") (.int x)=Qd c x l t:=by simp[dPut,Qd,k_ca,Ta k_al,Ta k_at,-cm]
def UC   x:dPut (Qd c a l t) (.inr "left") (.int x)=Qd c a x t:=by simp[dPut,Qd,k_cl,k_al,Ta k_lt,-cm]
def oP   : ki [((Jb ("cells" : Str):Sb),U.loc p),(.inr "at",.int 0),(.inr "left",.int 0),(.inr "turn",.int 0)]=Qd p 0 0 0:=by
 simp[ki,dPut,Qd,k_ca,k_cl,k_ct,k_al,k_at,k_lt,-cm]
def gu  : (Qd c a l t).length<db:=by show 4<db;decide
def Sm.nw     (s:Sm f G G1)(n:pk G1 p o G2):Sm f G G2:=s.trans n.sa.sm
def ZW         i:(Ua gs Δ (.v i)).1 ς G Q X=(slot ς i λu=>Q u G):=rfl
def QW         i:(Ua gs Δ (.v i)).2 ς G R X=(Ua gs Δ (.v i)).1 ς G (λx j=>truU x j λb=>R b j) X:=rfl
def D_non         : (Ua gs Δ (.non)).1 ς G Q X=(Q .non G):=rfl
def D_bl         b:(Ua gs Δ (.bl b)).1 ς G Q X=(Q (.bl b) G):=rfl
def D_int         i:(Ua gs Δ (.int i)).1 ς G Q X=(Q (.int i) G):=rfl
def D_str         x:(Ua gs Δ (.str x)).1 ς G Q X=(Q (.str x) G):=rfl
def aX         n:(Ua gs Δ (.g n)).1 ς G Q X=(jr gs n λu=>Q u G):=rfl
def RW         n:(Ua gs Δ (.g n)).2 ς G R X=(Ua gs Δ (.g n)).1 ς G (λx j=>truU x j λb=>R b j) X:=rfl
def D_ty         n:(Ua gs Δ (.ty n)).1 ς G Q X=(Q (.ty n) G):=rfl
def T_ty         n:(Ua gs Δ (.ty n)).2 ς G R X=(Ua gs Δ (.ty n)).1 ς G (λx j=>truU x j λb=>R b j) X:=rfl
def D_bin         o a b:(Ua gs Δ (.bin o a b)).1 ς G Q X=((Ua gs Δ a).1 ς G (λx F=>(Ua gs Δ b).1 ς F (λy j=>binU o x y j Q) X) X):=rfl
def T_bin         o a b:(Ua gs Δ (.bin o a b)).2 ς G R X=(Ua gs Δ (.bin o a b)).1 ς G (λx j=>truU x j λb=>R b j) X:=rfl
def D_neg         a:(Ua gs Δ (.neg a)).1 ς G Q X=((Ua gs Δ a).1 ς G (λx j=>negU x j Q) X):=rfl
def D_cmp         o a b:(Ua gs Δ (.cmp o a b)).1 ς G Q X=((Ua gs Δ a).1 ς G (λx F=>(Ua gs Δ b).1 ς F (λy j=>cmpU o x y j λc=>Q (.bl c) j) X) X):=rfl
def T_cmp         o a b:(Ua gs Δ (.cmp o a b)).2 ς G R X=(Ua gs Δ (.cmp o a b)).1 ς G (λx j=>truU x j λb=>R b j) X:=rfl
def D_cmp2         o p a b c:(Ua gs Δ (.cmp2 o p a b c)).1 ς G Q X=((Ua gs Δ a).1 ς G (λx I=>(Ua gs Δ b).1 ς I (λy j=>cmpU o x y j λt=>if t=la then (Ua gs Δ c).1 ς j (λz F=>cmpU p y z F λt'=>Q (.bl t') F) X else Q (.bl ua) j) X) X):=rfl
def T_cmp2         o p a b c:(Ua gs Δ (.cmp2 o p a b c)).2 ς G R X=(Ua gs Δ (.cmp2 o p a b c)).1 ς G (λx j=>truU x j λb=>R b j) X:=rfl
def D_tup         es:(Ua gs Δ (.tup es)).1 ς G Q X=(qf gs Δ es ς G (λus j=>us.length<=db/\Q (.tup us) j) X):=rfl
def D_lst         es:(Ua gs Δ (.lst es)).1 ς G Q X=(qf gs Δ es ς G (λus j=>us.length<=db/\newO j (.lst us) Q) X):=rfl
def D_dic         es:(Ua gs Δ (.dic es)).1 ς G Q X=(denD gs Δ es ς G (λkvs j=>kvs.length<=15/\newO j (.dK (ki kvs)) Q) X):=rfl
def D_ix         a b:(Ua gs Δ (.ix a b)).1 ς G Q X=((Ua gs Δ a).1 ς G (λx F=>(Ua gs Δ b).1 ς F (λy j=>bf x y j Q) X) X):=rfl
def T_ix         a b:(Ua gs Δ (.ix a b)).2 ς G R X=(Ua gs Δ (.ix a b)).1 ς G (λx j=>truU x j λb=>R b j) X:=rfl
def D_sl         a lo hi:(Ua gs Δ (.sl a lo hi)).1 ς G Q X=((Ua gs Δ a).1 ς G (λx y=>denO gs Δ lo ς y (λl j=>denO gs Δ hi ς j (λh F=>Wh x l h F Q) X) X) X):=rfl
def D_rev         a b:(Ua gs Δ (.rev a b)).1 ς G Q X=((Ua gs Δ a).1 ς G (λx F=>(Ua gs Δ b).1 ς F (λy j=>revU x y j Q) X) X):=rfl
def D_call         n es:(Ua gs Δ (.call n es)).1 ς G Q X=(qf gs Δ es ς G (λus j=>Δ n us j Q X) X):=rfl
def T_call         n es:(Ua gs Δ (.call n es)).2 ς G R X=(Ua gs Δ (.call n es)).1 ς G (λx j=>truU x j λb=>R b j) X:=rfl
def D_blt         b es:(Ua gs Δ (.blt b es)).1 ς G Q X=(qf gs Δ es ς G (λus j=>bltU b us j Q) X):=rfl
def T_blt         b es:(Ua gs Δ (.blt b es)).2 ς G R X=(Ua gs Δ (.blt b es)).1 ς G (λx j=>truU x j λb=>R b j) X:=rfl
def D_meth {F:List U}{y:Cl}{j:Sg}{G:Gp}{Q:K1}{X:KX}(m:Mth)(o:E)(J:Es):(Ua F y (.meth m o J)).1 j G Q X=((Ua F y o).1 j G (λx I=>match Ef m x I with|some _=>qf F y J j I (λus O=>Ue m x us O Q) X|none=>False) X):=rfl
def D_lc         pick t it ifs e:(Ua gs Δ (.lc pick t it ifs e)).1 ς G Q X=(denI gs Δ it ς G (λxs ok I=>xs.length<=db/\Oi ok (λx F k=>Yc t x (Yg pick ς) λj=>denC gs Δ ifs j F (λb y=>if b=la then (Ua gs Δ e).1 j y (λu O=>k (ia u) O) (λ_ _=>False) else k Aa y)) xs [] I λus J=>newO J (.lst us) Q) X):=rfl
def D_mkD         e:(Ua gs Δ (.mkD e)).1 ς G Q X=((Ua gs Δ e).1 ς G (λx j=>mkDU x j Q) X):=rfl
def T_mkD         e:(Ua gs Δ (.mkD e)).2 ς G R X=(Ua gs Δ (.mkD e)).1 ς G (λx j=>truU x j λb=>R b j) X:=rfl
def D_mkL         e:(Ua gs Δ (.mkL e)).1 ς G Q X=((Ua gs Δ e).1 ς G (λx j=>eg x j λxs _=>newO j (.lst xs) Q) X):=rfl
def D_mkT         e:(Ua gs Δ (.mkT e)).1 ς G Q X=((Ua gs Δ e).1 ς G (λx j=>eg x j λxs _=>Q (.tup xs) j) X):=rfl
def D_not         a:(Ua gs Δ (.not a)).1 ς G Q X=((Ua gs Δ a).1 ς G (λx j=>truU x j λb=>Q (.bl (!b)) j) X):=rfl
def T_not         a:(Ua gs Δ (.not a)).2 ς G R X=((Ua gs Δ a).2 ς G (λb j=>R (!b) j) X):=rfl
def D_ife         c a b:(Ua gs Δ (.ife c a b)).1 ς G Q X=((Ua gs Δ c).2 ς G (λt j=>if t=la then (Ua gs Δ a).1 ς j Q X else (Ua gs Δ b).1 ς j Q X) X):=rfl
def T_ife         c a b:(Ua gs Δ (.ife c a b)).2 ς G R X=((Ua gs Δ c).2 ς G (λt j=>if t=la then (Ua gs Δ a).2 ς j R X else (Ua gs Δ b).2 ς j R X) X):=rfl
def D_bop0      : Ua gs Δ (.bop k a .nil)=Ua gs Δ a:=rfl
def D_and          : (Ua gs Δ (.bop la a (.cons b es))).1 ς G Q X=(Ua gs Δ a).1 ς G (λx j=>truU x j λc=>if c=la then (Ua gs Δ (.bop la b es)).1 ς j Q X else Q x j) X:=rfl
def D_or          : (Ua gs Δ (.bop ua a (.cons b es))).1 ς G Q X=(Ua gs Δ a).1 ς G (λx j=>truU x j λc=>if c=la then Q x j else (Ua gs Δ (.bop ua b es)).1 ς j Q X) X:=rfl
def T_and          : (Ua gs Δ (.bop la a (.cons b es))).2 ς G R X=(Ua gs Δ a).2 ς G (λc j=>if c=la then (Ua gs Δ (.bop la b es)).2 ς j R X else R ua j) X:=rfl
def T_or          : (Ua gs Δ (.bop ua a (.cons b es))).2 ς G R X=(Ua gs Δ a).2 ς G (λc j=>if c=la then R la j else (Ua gs Δ (.bop ua b es)).2 ς j R X) X:=rfl
def O_no        : denO gs Δ .no ς G Q X=Q Aa G:=rfl
def O_so {F:List U}{y:Cl}{j:Sg}{G:Gp}{X:KX}{Q:Option Int->Gp->Prop}{e:E}:denO F y (.so e) j G Q X=(Ua F y e).1 j G (λx I=>match x with|.int i=>Q (ia i) I|_=>False) X:=rfl
def A_nil        : qf gs Δ .nil ς G Q X=Q [] G:=rfl
def A_cons          : qf gs Δ (.cons e es) ς G Q X=(Ua gs Δ e).1 ς G (λx y=>qf gs Δ es ς y (λxs j=>Q (x::xs) j) X) X:=rfl
def C_nil       : denC gs Δ .nil ς G Q=Q la G:=rfl
def C_cons         : denC gs Δ (.cons e es) ς G Q=(Ua gs Δ e).2 ς G (λb j=>if b=la then denC gs Δ es ς j Q else Q ua j) (λ_ _=>False):=rfl
def P_nil        : denD gs Δ .nil ς G Q X=Q [] G:=rfl
def P_cons {I:List U}{F:Cl}{j:Sg}{G:Gp}{X:KX}{Q:List (Sb×U)->Gp->Prop}{e f:E}{J:Es}:denD I F (.cons e (.cons f J)) j G Q X=(Ua I F e).1 j G (λx R=>(Ua I F f).1 j R (λy O=>match kU x with|some k=>denD I F J j O (λkvs Y=>Q ((k,y)::kvs) Y) X|none=>False) X) X:=rfl
def WW         : denI gs Δ (.e e) ς G Q X=(Ua gs Δ e).1 ς G (λx j=>eg x j λxs ok=>Q xs ok j) X:=rfl
section
variable {gs:List U}{Δ:Cl}{ς:Sg}{G:Gp}{X:KX}{Q:List U->(Gp->Prop)->Gp->Prop}
def I_r1 {e:E}:denI gs Δ (.r1 e) ς G Q X=(Ua gs Δ e).1 ς G (λx y=>match x with|.int j=>-(2 ^ 62)<=j/\j<2 ^ 62/\Q (rngU 0 j.toNat) (λ_=>True) y|_=>False) X:=rfl
def I_r2 {a b:E}:denI gs Δ (.r2 a b) ς G Q X=(Ua gs Δ a).1 ς G (λx I=>(Ua gs Δ b).1 ς I (λy F=>match x,y with|.int i,.int j=>-(2 ^ 62)<=i/\i<2 ^ 62/\-(2 ^ 62)<=j/\j<2 ^ 62/\Q (rngU i (j-i).toNat) (λ_=>True) F|_,_=>False) X) X:=rfl
end
def I_enum         : denI gs Δ (.enum e) ς G Q X=(Ua gs Δ e).1 ς G (λx j=>kr x j λxs ok=>Q xs ok j) X:=rfl
def F_nil        : denF gs Δ .nil ς G Q X=Q [] G:=rfl
def F_cons          : denF gs Δ (.cons e es) ς G Q X=(Ua gs Δ e).1 ς G (λx F=>fpU x λz=>denF gs Δ es ς F (λj y=>Q (z::j) y) X) X:=rfl
def I_dv         : denI gs Δ (.dv e) ς G Q X=(Ua gs Δ e).1 ς G (λx j=>mh Gh x j Q) X:=rfl
def I_di         : denI gs Δ (.di e) ς G Q X=(Ua gs Δ e).1 ς G (λx j=>mh Oj x j Q) X:=rfl
def S_expr        : denS gs Δ (.expr e) D ς G=(Ua gs Δ e).1 ς G (λ_ j=>D.nx ς j) λx j=>D.ex x ς j:=rfl
def S_asg         : denS gs Δ (.asg t e) D ς G=(Ua gs Δ e).1 ς G (λu j=>Yc t u ς λy=>D.nx y j) λx j=>D.ex x ς j:=rfl
def S_asgC         : denS gs Δ (.asgC i e) D ς G=(Ua gs Δ e).1 ς G (λu j=>D.nx (ς.set i (ia u)) j) λx j=>D.ex x ς j:=rfl
def S_setS        : denS gs Δ (.setS o i e) D ς G=(Ua gs Δ e).1 ς G (λv j=>(Ua gs Δ o).1 ς j (λx F=>(Ua gs Δ i).1 ς F (λy I=>setU x y v I λJ=>D.nx ς J) (λx j=>D.ex x ς j)) (λx j=>D.ex x ς j)) (λx j=>D.ex x ς j):=rfl
def S_par         : denS gs Δ (.par is es) D ς G=qf gs Δ es ς G (λus j=>us.length=is.length/\D.nx ((is.zip us).foldl (λs p=>s.set p.1 (ia p.2)) ς) j) λx j=>D.ex x ς j:=rfl
def S_aug          : denS gs Δ (.aug i o e) D ς G=slot ς i λx=>(Ua gs Δ e).1 ς G (λy j=>Wt o x y j λz F=>D.nx (ς.set i (ia z)) F) λx j=>D.ex x ς j:=rfl
def S_ite         : denS gs Δ (.ite c a b) D ς G=(Ua gs Δ c).2 ς G (λt j=>if t=la then Md gs Δ a D ς j else Md gs Δ b D ς j) λx j=>D.ex x ς j:=rfl
def S_fr          : denS gs Δ (.fr t it b) D ς G=denI gs Δ it ς G (λxs ok F=>forL ok (λx j I k=>Yc t x j λy=>Md gs Δ b { D with nx:=k } y I) xs ς F D.nx) λx F=>D.ex x ς F:=rfl
def S_ret        : denS gs Δ (.ret e) D ς G=(Ua gs Δ e).1 ς G D.rt λx j=>D.ex x ς j:=rfl
def S_raise         : denS gs Δ (.raise c es) D ς G=qf gs Δ es ς G (λus j=>us.length=(clsF c).length/\D.ex ⟨c,us⟩ ς j) λx j=>D.ex x ς j:=rfl
def S_tr          : denS gs Δ (.tr b c n h) D ς G=Md gs Δ b { D with ex:=λx j I=>(c=0\/x.c=c)/\Kg x h (j.set n Aa) I λy F=>D.nx (y.set n Aa) F } ς G:=rfl
def B_nil       : Md gs Δ .nil D ς G=D.nx ς G:=rfl
def B_cons         : Md gs Δ (.cons s r) D ς G=denS gs Δ s { D with nx:=λj y=>Md gs Δ r D j y } ς G:=rfl
def S_wh         : denS gs Δ (.wh c b) D ς G=∃W:Nat->Sg->Gp->Prop,(∃m,W m ς G)/\∀m j y,W m j y->(Ua gs Δ c).2 j y (λt I=>if t=la then Md gs Δ b { D with nx:=λF O=>∃J,J<m/\W J F O } j I else D.nx j I) λx y=>D.ex x j y:=rfl
def V_add     : binU .Add (.int i) (.int j) G Q=Q (.int (i+j)) G:=rfl
def V_cat     : binU .Add (.tup xs) (.tup ys) G Q=(xs.length+ys.length<=db/\Q (.tup (xs++ys)) G):=rfl
def V_catL     : binU .Add (.loc a) (.loc b) G Q=∃xs j,G a=ia (.lst xs)/\G b=ia (.lst j)/\xs.length+j.length<=db/\newO G (.lst (xs++j)) Q:=rfl
def V_sub     : binU .Sub (.int i) (.int j) G Q=Q (.int (i-j)) G:=rfl
def V_mul     : binU .Mult (.int i) (.int j) G Q=(CMul i j/\Q (.int (i*j)) G):=rfl
def V_mulL      : binU .Mult (.loc a) (.int k) G Q=∃xs,G a=ia (.lst xs)/\-(2 ^ 63)<=k/\k<2 ^ 63/\xs.length*k.toNat<=db/\newO G (.lst (Qb k.toNat xs).flatten) Q:=rfl
def V_fdiv     : binU .FloorDiv (.int i) (.int j) G Q=(0<j/\j<1073741824/\Q (.int (i/j)) G):=rfl
def V_mod     : binU .Mod (.int i) (.int j) G Q=(0<j/\Q (.int (i%j)) G):=rfl
def V_pow     : binU .Pow (.int i) (.int j) G Q=(CPow i j/\Q (.int (i ^ j.toNat)) G):=rfl
def V_neg     : negU (.int i) G Q=Q (.int (-i)) G:=rfl
def W_eqI     : cmpU .Eq (.int i) (.int j) G k=k (decide (i=j)):=rfl
def W_neI     : cmpU .NotEq (.int i) (.int j) G k=k (!decide (i=j)):=rfl
def W_eqS     : cmpU .Eq (.str i) (.str j) G k=k (decide (i=j)):=rfl
def W_neS     : cmpU .NotEq (.str i) (.str j) G k=k (!decide (i=j)):=rfl
def W_lt     : cmpU .Lt (.int i) (.int j) G k=k (decide (i<j)):=rfl
def W_le     : cmpU .LtE (.int i) (.int j) G k=k (decide (i<=j)):=rfl
def W_gt     : cmpU .Gt (.int i) (.int j) G k=k (decide (j<i)):=rfl
def W_ge     : cmpU .GtE (.int i) (.int j) G k=k (decide (j<=i)):=rfl
def W_neT     : cmpU .NotEq (.tup xs) (.tup ys) G k=eqU (.tup xs) (.tup ys) G λb=>k (!b):=rfl
def W_eqT      : cmpU .Eq (.tup xs) (.tup (y::ys)) G k=eqU (.tup xs) (.tup (y::ys)) G k:=rfl
def W_eqT0     : cmpU .Eq (.tup xs) (.tup []) G k=k xs.isEmpty:=rfl
def W_neL     : cmpU .NotEq (.loc a) (.loc b) G k=eqU (.loc a) (.loc b) G λb=>k (!b):=rfl
def W_eqL     : cmpU .Eq (.loc a) (.loc b) G k=eqU (.loc a) (.loc b) G k:=rfl
def W_in     : cmpU .In x y G k=Jg x y G k:=rfl
def W_nin     : cmpU .NotIn x y G k=Jg x y G λb=>k (!b):=rfl
def W_is     : cmpU .Is x y G k=Ig x y k:=rfl
def W_isn     : cmpU .IsNot x y G k=Ig x y λb=>k (!b):=rfl
def Y_bl     : truU (.bl b) G k=k b:=rfl
def Y_non    : truU .non G k=k ua:=rfl
def Y_int     : truU (.int i) G k=k (i != 0):=rfl
def Y_tup     : truU (.tup xs) G k=k (!xs.isEmpty):=rfl
def J_tup     : eg (.tup xs) G k=k xs λ_=>True:=rfl
def X_tup      : Wh (.tup xs) lo j G Q=Q (.tup (cut xs lo j)) G:=rfl
def F_len     : bltU .len us G Q=lenU us G Q:=rfl
def F_repr     : bltU .repr us G Q=Ol us G Q:=rfl
def F_min     : bltU .min us G Q=minU us G Q:=rfl
def F_sum     : bltU .sum us G Q=sumU us G Q:=rfl
def F_sorted     : bltU .sorted us G Q=Rn us G Q:=rfl
def F_int     : bltU .int us G Q=intU us G Q:=rfl
def F_isi     : bltU .isi us G Q=Gj us G Q:=rfl
def X_str      : Wh (.str x) lo j G Q=(x.length<=db/\Q (.str (Bv x lo j)) G):=rfl
def V_addB      : binU .Add (.bl b) (.int j) G Q=Q (.int ((if b=la then (1:Int) else 0)+j)) G:=rfl
def V_subB      : binU .Sub (.bl b) (.int j) G Q=Q (.int ((if b=la then (1:Int) else 0)-j)) G:=rfl
def V_subI      : binU .Sub (.int i) (.bl b) G Q=Q (.int (i-if b=la then (1:Int) else 0)) G:=rfl
def F_lenT     : lenU [.tup xs] G Q=Q (.int xs.length) G:=rfl
def F_min2     : minU [.int i,.int j] G Q=Q (.int (if j<i then j else i)) G:=rfl
def F_max2     : maxU [.int i,.int j] G Q=Q (.int (if j>i then j else i)) G:=rfl
def F_intB     : intU [.bl b] G Q=Q (.int (if b then 1 else 0)) G:=rfl
def F_intI     : intU [.int i] G Q=Q (.int i) G:=rfl
def YW      : Yc (.n i) u ς k=k (ς.set i (ia u)):=rfl
def XW      : Yc (.t ts) (.tup us) ς k=tgsU ts us ς k:=rfl
def G_nil     : tgsU .nil us ς k=(us=[]/\k ς):=rfl
def G_cons        : tgsU (.cons t ts) (u::r) ς k=Yc t u ς λj=>tgsU ts r j k:=rfl
def sl_0   {j:Sg}:slot (ia u::j) 0 k=k u:=rfl
def sl_s   {j:Sg}:slot (o::j) (i+1) k=slot j i k:=rfl
def Rj      : putO G a o Q=Q (Ad G a o):=propext ⟨λh=>h.at,λh j p=>by rw[p.eq];exact h⟩
def ix_t       (h:atI xs i=ia u):bf (.tup xs) (.int i) G Q=Q u G:=by unfold bf;lia
def ix_l        (g:G a=ia (.lst xs))(h:atI xs i=ia u):bf (.loc a) (.int i) G Q=Q u G:=by unfold bf;lia
def ix_d        (g:G a=ia (.dK kvs))(h:dGet kvs (.inr x)=ia u):bf (.loc a) (.str x) G Q=Q u G:=by unfold bf;dsimp only;rw[g];show(match dGet kvs (.inr x)with|some u=>Q u G|none=>False)=_;rw[h]
def Nu       (g:G a=ia (.lst xs))(h0:0<=r)(j:r<xs.length)(q:∀u∈xs,Q u G):bf (.loc a) (.int r) G Q:=by
 obtain⟨u,hu,e⟩:=mC h0 j;rw[ix_l g e];exact q u hu
def Ih  (j:List Int){r:Int}(g:G a=ia (.lst (j.map .int)))(h0:0<=r)(y:r<j.length)(q:∀z∈j,Q (.int z) G):bf (.loc a) (.int r) G Q:=
 Nu g h0 (by simp_all) λu hu=>by
  grind
theorem mE  : ∀j ,Fj (j.map .int)=ia j
 |[]=>rfl
 |x::r=>by show(match Fj (r.map .int)with|some l=>ia (x::l)|none=>Aa)=_;rw[mE r]
def in_l       (g:G a=ia (.lst ys))(j:flat x=la)(F:ys.all flat=la)(q:k (ys.any λy=>Lg y x)):Jg x (.loc a) G k:=by
 cases x<;>first|(cases j;done)|(unfold Jg;lia)
def Kl      (g:G a=ia (.lst xs)):lenU [.loc a] G Q=Q (.int xs.length) G:=by unfold lenU;lia
def it_l      (g:G a=ia (.lst xs)):eg (.loc a) G k=k xs λj=>ud j a=ia xs:=by unfold eg;dsimp only;have e:ud G a=ia xs:=(by unfold ud;rw[g]);rw[e]
def ii       (g:G a=ia (.lst xs)):Ue .append (.loc a) [v] G Q=(xs.length<db/\putO G a (.lst (xs++[v])) (Q .non)):=by unfold Ue Xx;dsimp only;rw[g]
def li     (g:G a=ia (.lst xs)):Ef .append (.loc a) G=ia ("list", "list.append"):=by unfold Ef;lia
def yx         (g:G a=ia (.lst xs))(h:dg xs.length i=ia j):setU (.loc a) (.int i) v G Q=putO G a (.lst (xs.set j v)) Q:=by unfold setU;lia
def An        (g:G a=ia (.dK kvs)):setU (.loc a) (.str x) v G Q=(kvs.length<db/\putO G a (.dK (dPut kvs (.inr x) v)) Q):=by unfold setU;dsimp only;rw[g];rfl
def ny   (h:j<n):dg n (j:Int)=ia j:=by unfold dg;simp_all
noncomputable def Tt  : Nat->Ss->Ss
 |0,s=>s
 |_+1,.nil=>.nil
 |n+1,.cons _ r=>Tt n r
def dr_0   : Tt 0 s=s:=rfl
def dr_s     : Tt (n+1) (.cons s r)=Tt n r:=rfl
def pk_nil   : Yg [] ς=[]:=rfl
def pk_none    : Yg (Aa::r) ς=Aa::Yg r ς:=rfl
def pk_some     : Yg (ia j::r) ς=(ς[j]?).join::Yg r ς:=rfl
def K_str   : kU (.str x)=ia (.inr x):=rfl
def K_int   : kU (.int i)=ia (.inl i):=rfl
def sl_f       (g:G a=ia (.fro xs)):Wh (.loc a) lo j G Q=newO G (.lst (cut xs lo j)) Q:=by unfold Wh;dsimp only;have e:ud G a=ia xs:=(by unfold ud;rw[g]);rw[e]
def sl_l       (g:G a=ia (.lst xs)):Wh (.loc a) lo j G Q=newO G (.lst (cut xs lo j)) Q:=by unfold Wh;dsimp only;have e:ud G a=ia xs:=(by unfold ud;rw[g]);rw[e]
def bQ   (f:α->j)(xs:List α) lo hi:cut (xs.map f) lo hi=(cut xs lo hi).map f:=by unfold cut;simp_all
def Gn   (xs:List α)(n:Nat):cut xs Aa (ia (n:Int))=xs.take n:=by
 unfold cut;rw[HT.sIx_none,HT.sIx_nat,AA,Nat.sub_zero,List.take_eq_take_iff]
 lia
def eE   (xs:List α)(n:Nat):cut xs (ia (n:Int)) Aa=xs.drop n:=by
 unfold cut;rw[HT.sIx_none,HT.sIx_nat];by_cases h:n<=xs.length
 ·rw[BA h,IA (by simp)]
 ·rw[Nat.min_eq_right (by lia),ZK (Fb _),ZK (by lia),List.take_nil]
def fx_cells      : bf (.loc f) (.str "cells") (Ad G f (.dK (Qd c a l t))) Q=Q (.loc c) (Ad G f (.dK (Qd c a l t))):=ix_d rf NR
def fx_at      : bf (.loc f) (.str "at") (Ad G f (.dK (Qd c a l t))) Q=Q (.int a) (Ad G f (.dK (Qd c a l t))):=ix_d rf g_at
def fx_left      : bf (.loc f) (.str "left") (Ad G f (.dK (Qd c a l t))) Q=Q (.int l) (Ad G f (.dK (Qd c a l t))):=ix_d rf AN
def fs_at      : setU (.loc f) (.str "at") (.int x) (Ad G f (.dK (Qd c a l t))) Q=Q (Ad G f (.dK (Qd c x l t))):=by rw[An rf,p_at,Rj,On];exact propext ⟨λh=>h.2,λh=>⟨gu,h⟩⟩
def fs_left      : setU (.loc f) (.str "left") (.int x) (Ad G f (.dK (Qd c a l t))) Q=Q (Ad G f (.dK (Qd c a x t))):=by rw[An rf,UC,Rj,On];exact propext ⟨λh=>h.2,λh=>⟨gu,h⟩⟩
end Z

namespace Y
open PySem L2
noncomputable def nO  : Obj:=⟨.none,Aa,.fields ⟨[]⟩,⟨[]⟩⟩
noncomputable def tO  (v:List Da):Obj:=⟨.type "tuple",Aa,.seq ⟨v⟩ 0,⟨[]⟩⟩
noncomputable def sO  (c:Da)(v:List Da):Obj:=⟨c,Aa,.fields ⟨v⟩,⟨[]⟩⟩
noncomputable def rO  (v:List (Option Da)):Obj:=⟨.type "frame",Aa,.plain,⟨v⟩⟩
noncomputable def gO  (x q:Str)(s:Qa):Obj:=⟨.none,Aa,.func { name:=x,qualname:=q,params:=mi s,body:=.stmts (Se s),scope:=Ge s,globals:=0,closure:=[],defaults:=.none,kwdefaults:=.none },⟨[]⟩⟩
noncomputable def fO  (x q:Str)(s:Qa)(m:Da)(c:Nat):Obj:=⟨.type "function",Aa,.func (Ag x q (mi s) (Se s) (Ge s) .none .none .none m Aa (.ref c) .none),⟨[]⟩⟩
noncomputable def kO  (j x q:Str)(t:Nat)(l a f:Int)(r:Nat)(b:Bool)(u v w:Da)(z:Nat):Obj:=⟨.type "code",Aa,.fields ⟨[.str x t,.str q (t+1),.str j (t+2),.int l 0,.int a 0,.int 0 0,.int 0 0,.int f 0,.ref r,.bool b,.int 181 0,.ref (r+1),.none,u,v,w,.int z 0,.int l 0,.str j (z+1)]⟩,⟨[]⟩⟩
noncomputable def dE  (P:Cb)(x:Str)(t:Nat)(v:Da):si:=⟨Wa.keyHash P x,.str x t,v⟩
noncomputable def dO  (e:List si)(n:Nat):Obj:=⟨.type "dict",Aa,.dict ⟨e⟩ n,⟨[]⟩⟩
noncomputable def cO  (x:Str)(b m:List Da)(n:Nat)(u:List Da)(s:List (Option Da)):Obj:=⟨.type "type",Aa,.cls { name:=x,bases:=b,mro:=m,ns:=n,qualname:=x,subclasses:=u },⟨s⟩⟩
def tE  : Obj:=tO []
noncomputable abbrev bE  : xi:=.nil
noncomputable abbrev bN  (o:Obj)(l r:xi):xi:=.node o l r
noncomputable abbrev bL  (o:Obj):xi:=.node o .nil .nil
end Y
namespace Z
open PySem L2
noncomputable def argB  (ps:List Str)(a:qv):Bool:=a.posonlyargs.isEmpty&&(a.args.map (·.arg)==ps)&&a.vararg.isNone&&a.kwonlyargs.isEmpty&&a.kwarg.isNone
def lP  : ∀{ps:List Str} {us:List Da},us.length=ps.length->ps.Nodup->(ps.filterMap λn=>((ps.zip us).lookup n).map (n,·))=ps.zip us/\∀n∈ps,((ps.zip us).lookup n).isSome=la:=by
 have y:∀{l:List Str} {vs:List Da} {L:List (Str×Da)},vs.length=l.length->l.Nodup->(∀(i:Nat) n v,l[i]?=ia n->vs[i]?=ia v->L.lookup n=ia v)->(l.filterMap λn=>(L.lookup n).map (n,·))=l.zip vs/\∀n∈l,(L.lookup n).isSome=la:=by
  intro l
  induction l with
  |nil=>simp_all
  |cons x l F=>
   intro vs L I j J;obtain _|⟨v,vs⟩:=vs
   ·cases I
   ·have h0:=J 0 x v rfl rfl;obtain⟨Z,R⟩:=F (L:=L) (vs:=vs) (by simp_all) (Ra.mp j).2 λi n v a b=>J (i+1) n v a b
    refine⟨?_,λn Y=>?_⟩
    ·simp_all
    grind
 intro ps us I j;refine y I j λi n v a b=>?_;have O:(ps.zip us)[i]?=ia (n,v):=List.getElem?_zip_eq_some.mpr ⟨a,b⟩;have:∀(l:List (Str×Da)),(l.map (·.1)).Nodup->(n,v)∈l->l.lookup n=ia v:=by
  intro l
  induction l with
  |nil=>simp_all
  |cons p l F=>
   intro j h;obtain⟨m,u⟩:=p;rw[lj];by_cases e:n=m
   ·subst e;rw[beq_self_eq_true];rcases ic.mp h with h|h
    ·cases h;rfl
    ·exact absurd (Ia.mpr ⟨_,h,rfl⟩) (Ra.mp j).1
   ·rw[beq_eq_false_iff_ne.mpr e];rcases ic.mp h with h|h
    ·cases h;exact absurd rfl e
    ·exact F (Ra.mp j).2 h
 exact this _ (by rw[FJ (by lia)];exact j) (Hd O)
def dy    (h:argB ps a=la)(nd:ps.Nodup){kV y I:Da}(F:us.length=ps.length) :
  zk (Ag x q a b sc .none kV y I an R ct) ⟨us,[]⟩=pure (ps.zip us):=by
 obtain⟨po,j,va,ko,kd,ka,df⟩:=a;unfold argB at h;simp only[Be,CJ,Option.isNone_iff_eq_none,beq_iff_eq]at h;obtain⟨⟨⟨⟨rfl,rfl⟩,rfl⟩,rfl⟩,rfl⟩:=h;obtain⟨e1,J⟩:=lP F nd;have O:(List.filter (λn=>(yh n ((j.map (·.arg)).zip us)).isNone) (j.map (·.arg)))=[]:=Gc.mpr λn Z=>by
  have:=J n Z
  simp_all
 have e0:seqItems? cf=pure Aa:=rfl;unfold zk;dsimp only;rw[e0];generalize j.map (·.arg)=ns at *;have Y:ns.take (ns.length-0)=ns:=by simp_all
 simp[F,e1,O,Y]

abbrev FL:=List (Ba×Ba×Da)
noncomputable def refB  (v:Option (Option Da))(f:Ba):Bool:=match v with
 |some (ia (.ref a))=>a==f
 |_=>ua
def su    (h:refB v f=la):v=ia (ia (.ref f)):=by
 unfold refB at h
 lia
noncomputable def dynB  (T:Je)(K:Nb):Nat->FL->List Fun->List Qa->Bool
 |_,[],[],[]=>la
 |i,x::fs,d::ds,s::ss=>refB (Ng K ze d.name) x.1&&pj K (.ref x.2.1) d.name&&(match T.ns.lookup i with|none=>la|some z=>fy K (.ref x.2.1) z.P)&&argB d.ps (mi s)&&dynB T K (i+1) fs ds ss
 |_,_,_,_=>ua
noncomputable def zn  : FL->List Fun->List Qa->List (Option Obj)
 |x::fs,d::ds,s::ss=>ia (Y.fO d.name d.name s x.2.2 x.2.1)::zn fs ds ss
 |_,_,_=>[]
theorem Ax  {T:Je}:∀{i } {fs } {ds } {ss },dynB T K i fs ds ss=la->fs.map (λx=>K.lookup x.1)=zn fs ds ss->∀{n } {d } {s },ds[n]?=ia d->ss[n]?=ia s->
  ∃x:Ba×Ba×Da,Ng K ze d.name=ia (ia (.ref x.1))/\K.lookup x.1=ia (Y.fO d.name d.name s x.2.2 x.2.1)/\pj K (.ref x.2.1) d.name=la/\(∀z,T.ns.lookup (i+n)=ia z->fy K (.ref x.2.1) z.P=la)/\argB d.ps (mi s)=la
 |_,_,[],_,_,_,_,_,_,e,_=>by simp at e
 |_,_,_::_,[],_,_,_,_,_,_,e=>by simp at e
 |_,[],_::_,_::_,h,_,_,_,_,_,_=>by unfold dynB at h;cases h
 |i,x::fs,d::ds,s::ss,h,g,n,d',s',e1,e2=>by
  unfold dynB at h;simp only[Be]at h;obtain⟨⟨⟨⟨O,F⟩,R⟩,I⟩,J⟩:=h;unfold zn at g;rw[Sd]at g;injection g with g1 g2
  cases n with
  |zero=>
   cases(Nd e1:d=d');cases(Nd e2:s=s');exact⟨x,su O,g1,F,λz j=>by lia,I⟩
  |succ n=>
   obtain⟨y,q1,q2,q3,q4,q5⟩:=Ax J g2 (n:=n) e1 e2;exact⟨y,q1,q2,q3,λz j=>q4 z (by rw[show i+1+n=i+(n+1) by lia];exact j),q5⟩
def kx    (h:yj N ps j=la):ps.Nodup:=by
 have S:=xx h;rw[<- S.pre];exact S.nd.sublist (tK _ _)
def oy        (h:K.lookup f=ia ⟨c,d,.func fd,j⟩):Lh K (.ref f)=la:=by
 unfold Lh
 lia
section
variable {T:Je}{K:Nb}{h:Za}{mg:Str->Option Da}
def tN   {sts:List Qa}(X:K.In h)(G:h.Ns ze mg)(y:Ri T 0 T.funs sts=la)(j:Jj T sts 0 T.funs sts)(hB:dynB T K 0 fs T.funs sts=la)(Y:fs.map (λx=>K.lookup x.1)=zn fs T.funs sts):rB T K mg sts:=by
 intro n d st J I;obtain⟨x,q1,q2,q3,q4,q5⟩:=Ax hB Y J I;have F:=Ex (st:=st) q2 q3 (oy q2);obtain⟨R,e,O,_⟩:=Qq y j J;cases I.symm.trans e;exact⟨_,_,F,Cr X G q1,F.binds λ_ _ _ _ _ _ us Z=>dy q5 (kx O) Z,λz hz=>q4 z (by lia)⟩
def bltB  (K:Nb):Bool:=Ti.all λx=>match Ng K ze x with
 |some Aa=>la
 |_=>ua
def eO  (X:K.In h)(G:h.Ns ze mg)(y:bltB K=la):∀x∈Ti,mg x=Aa:=λx j=>by
 have:=Mg.mp y x j;refine PySem.W.mg_none_of X G ?_
 lia
noncomputable def br  (K:Nb):List Str->List U->Bool
 |[],[]=>la
 |x::xs,u::us=>(match u,Ng K ze x with
  |.int i,ia (ia (.int j _))=>i==j
  |.str i,ia (ia (.str j _))=>i==j
  |_,_=>ua)&&br K xs us
 |_,_=>ua
theorem PB  (X:K.In h)(G:h.Ns ze mg):∀{xs } {us },br K xs us=la->∀(n:Nat) x u ,xs[n]?=ia x->us[n]?=ia u->∃v w,mg x=ia w/\RelV v w/\∀H,RU K H u v
 |[],_,_,_,_,_,e,_=>by simp at e
 |_::_,[],_,_,_,_,_,e=>by simp at e
 |x::xs,u::us,hb,n,x',u',e1,e2=>by
  unfold br at hb;rw[Be]at hb;cases n with
  |zero=>
   cases(Nd e1:x=x');cases(Nd e2:u=u');have y:=hb.1;split at y
   ·rename_i i j t q;cases eq_of_beq y;exact⟨.int i,_,Cr X G q,⟨_,rfl⟩,λ_=>rfl⟩
   ·rename_i i j t q;cases eq_of_beq y;exact⟨.str i,_,Cr X G q,⟨_,rfl⟩,λ_=>rfl⟩
   lia
  |succ n=>exact PB X G hb.2 n x' u' e1 e2
def Bs  (K:Nb):List Nat->Prop
 |[]=>True
 |n::r=>(∃C,XCls K (gK K) (clsN n) (clsF n) C)/\Bs K r
theorem FB  : ∀{l },Bs K l->∀n∈l,1<=n->∃C,XCls K (gK K) (clsN n) (clsF n) C
 |[],_,_,hn,_=>absurd hn Ve
 |m::r,hc,n,hn,h1=>by
  unfold Bs at hc;rcases ic.mp hn with rfl|hn
  ·exact hc.1
  ·exact FB hc.2 n hn h1
def all2  {l:cB}{sts:List Qa}{d:Fun}(X:K.In h)(G:h.Ns ze mg)(Y:mg "law" = ia (.ref fa))(y:Ri T 0 T.funs sts=la)(j:Jj T sts 0 T.funs sts)
  (hU:∀t∈tabs,∀t'∈tabs,t.1=t'.1->t=t') (hB:dynB T K 0 fs T.funs sts=la) (hL:fs.map (λx=>K.lookup x.1)=zn fs T.funs sts) (hb:bltB K=la) (hg:br K T.gn T.gs=la) (hc:Bs K T.cs)
  (hd:T.funs[n]?=ia d) (hs:sts[n]?=ia st) (hn:T.ns.lookup n=Aa) (O:d.name = "law") (I:d.ps=[("_law_script" : Str)]) :
  ∃fd ,(∀(s:Ja) v ,Lf s fd ⟨[v],[]⟩ [("_law_script",v)])/\∀base ,K.In base->base.Ns ze mg->BmAt mg base->FnOk l.prog w K mg base (zf l.prog w) (k+2) fa fd ["_law_script"] (gi K (Bb T k n)):=by
 have R:=tN X G y j hB hL;obtain⟨x,q1,q2,q3,q4,q5⟩:=Ax hB hL hd hs;obtain⟨za,e,xa,_⟩:=Qq y j hd;cases hs.symm.trans e;have F:=Ex (st:=st) q2 q3 (oy q2);rw[O]at q1;cases Y.symm.trans (Cr X G q1);refine⟨Ag d.name d.name (mi st) (Se st) (Ge st) .none .none .none x.2.2 Aa (.ref x.2.1) .none,λs v=>.of_eq ((dy (us:=[v]) q5 (kx xa) (by rw[I];rfl)).trans (by rw[I];rfl)),λbase J _ Z=>?_⟩
 rw[<- I];exact oV F y j R hU J Z (eO X G hb) (PB X G hg) (FB hc) (pP X G) hd hs hn
end

def PM  (x:Str)(D N b t t':Nat)(u:List Da):Obj:=Y.cO x [.type "ValueError"] (.ref D::pi) N u [ia (.ref b),Aa,ia (.str x t),ia (.str x t'),ia (.builtin "ValueError.__new__"),ia (.bool la)]
def clsO  (x:Str)(C D N b t t':Nat):Obj:=Y.cO x [.ref D] (.ref C::.ref D::pi) N [] [ia (.ref b),Aa,ia (.str x t),ia (.str x t'),ia (.builtin "ValueError.__new__"),ia (.bool la)]
def xb_mk   D N b t t' u (l:K.lookup D=ia (PM "PlanError" D N b t t' u))(h:(refB (Ng K ze "PlanError") D&&Lh K (.ref D)&&(Jn K N==ia gx)&&offB gx && !gx.contains ("__init__" : Str))=la):∃F,XBase K (gK K) D F:=by
 simp only[Be,Pv]at h;obtain⟨⟨⟨⟨J,j⟩,O⟩,y⟩,I⟩:=h;exact cU (su J) j l (eq_of_beq O) y I
def xc_mk   (B:∃mD,XBase K (gK K) D mD) x qual fs st (C N b t t' fI c:Nat)(m:Da)(l1:K.lookup C=ia (clsO x C D N b t t'))(Z:K.lookup fI=ia (Y.fO "__init__" qual st m c))
  (h:(refB (Ng K ze x) C&&Lh K (.ref C)&&(Jn K N==ia DB)&&offB DB&&refB (Ng K N "__init__") fI&&pj K (.ref c) qual&&yj (("self" : Str)::fs) ("self" :: fs) (Ge st)&&((("self" : Str)::fs).all λy=>(Ge st).names.lookup y==ia .local)&&argB (("self" : Str)::fs) (mi st))=la)
  (bd:(∃f J I R pos,fs=[f]/\Se st=[.Assign [.Attribute (.Name "self" J) f I] (.Name f R) pos])\/∃f j J I R pos q1 q2 q3 O,fs=[f,j]/\f≠j/\Se st=[.Assign [.Attribute (.Name "self" J) f I] (.Name f R) pos,.Assign [.Attribute (.Name "self" q1) j q2] (.Name j q3) O]):∃C,XCls K (gK K) x fs C:=by
 obtain⟨mD,B⟩:=B;simp only[Be]at h;obtain⟨⟨⟨⟨⟨⟨⟨⟨h1,h2⟩,h3⟩,h4⟩,h5⟩,h6⟩,h7⟩,h8⟩,h9⟩:=h;have F:=Ex (st:=st) Z h6 (oy Z);exact⟨C,zS B (su h1) h2 l1 (eq_of_beq h3) h4 (su h5) F Z h7 (F.binds λ_ _ _ _ _ _ us hl=>dy h9 (kx h7) hl) h8 bd⟩
section
local macro_rules
 |`(#[])=>`(.nil)
 |`(#[$x])=>`(.cons $x .nil)
 |`(#[$x,$xs,*])=>`(.cons $x #[$xs,*])
noncomputable abbrev cF  : Nat:=0
noncomputable abbrev lW  : Nat:=1
noncomputable abbrev rH  : Nat:=2
noncomputable abbrev yz  : Nat:=3
noncomputable abbrev Py  : Nat:=4
noncomputable abbrev lH  : Nat:=5
noncomputable abbrev rF  : Nat:=6
noncomputable abbrev tG  : Nat:=7
noncomputable abbrev kH  : Nat:=8
noncomputable abbrev jv  : Nat:=9
noncomputable abbrev tz  : Nat:=10
noncomputable abbrev NH  : Nat:=11
noncomputable abbrev zH  : Nat:=12
noncomputable abbrev JG  : Nat:=13
noncomputable abbrev Vy  : Nat:=14
noncomputable abbrev Qy  : Nat:=15
noncomputable abbrev qF  : Nat:=16
noncomputable abbrev QH  : Nat:=17
noncomputable abbrev mH  : Nat:=18
noncomputable abbrev nH  : Nat:=19
noncomputable abbrev bF  : Nat:=20
noncomputable abbrev Bu  : Nat:=21
noncomputable abbrev tJ  : Nat:=22
noncomputable abbrev CH  : Nat:=23
noncomputable abbrev NG  : Nat:=24
noncomputable abbrev pF  : Nat:=25
noncomputable abbrev Pc  : Nat:=26
noncomputable abbrev DI  : Nat:=27
noncomputable abbrev Vq  : Nat:=28
noncomputable abbrev qz  : Nat:=29
noncomputable abbrev oH  : Nat:=30
noncomputable abbrev gz  : Nat:=31
noncomputable abbrev nI  : Nat:=32
noncomputable abbrev pH  : Nat:=33
noncomputable abbrev iz  : Nat:=34
noncomputable abbrev dz  : Nat:=35
noncomputable abbrev sG  : Nat:=36
noncomputable abbrev CI  : Nat:=37
noncomputable abbrev Tl  : Nat:=38
noncomputable abbrev PH  : Nat:=39
noncomputable abbrev KG  : Nat:=40
noncomputable abbrev LG  : Nat:=41
noncomputable abbrev JS  : Nat:=42
noncomputable abbrev AH  : Nat:=43
noncomputable abbrev Uy  : Nat:=44
noncomputable abbrev MG  : Nat:=45
noncomputable abbrev Xq  : Nat:=46
noncomputable abbrev OH  : Nat:=47
noncomputable abbrev NF  : Nat:=48
noncomputable abbrev pI  : Nat:=49
noncomputable abbrev BH  : Nat:=50
noncomputable abbrev rG  : Nat:=51
noncomputable abbrev qH  : Nat:=52
noncomputable abbrev zW  : Nat:=53
noncomputable abbrev Sy  : Nat:=54
noncomputable abbrev jz  : Nat:=55
noncomputable abbrev tx  : Nat:=56
noncomputable def hE  : Fun:=⟨"top_of",["plan", "period", "s"],["plan", "period", "s", "word", "one", "other", "low", "high"],#[.asg (.t #[.n 3,.n 4,.n 5,.n 6,.n 7]) (.ix (.ix (.v 0) (.int 1)) (.v 2)),.ret (.ife (.cmp .Eq (.v 3) (.str "span")) (.v 7) (.bin .Sub (.v 1) (.v 7)))]⟩
def oG  : Fun:=⟨"window_of",["plan", "period", "s"],["plan", "period", "s", "low"],#[.asg (.n 3) (.ix (.ix (.ix (.v 0) (.int 1)) (.v 2)) (.int 3)),(.ret (.tup #[.v 3,(.blt .min #[.call cF #[.v 0,.v 1,.v 2],.bin .Sub (.bin .Add (.v 3) (.v 1)) (.int 1)])]))]⟩
def iG  : Fun:=⟨"windows_of",["plan", "period"],["plan", "period"],#[.ret (.mkT (.lc [Aa,ia 0,ia 1] (.n 0) (.r1 (.blt .len #[.ix (.v 0) (.int 1)])) .nil (.call lW #[.v 1,.v 2,.v 0])))]⟩
noncomputable def GG  : Fun:=⟨"with_window",["windows", "s", "window"],["windows", "s", "window"],#[.ret (.bin .Add (.bin .Add (.sl (.v 0) .no (.so (.v 1))) (.tup #[.v 2])) (.sl (.v 0) (.so (.bin .Add (.v 1) (.int 1))) .no))]⟩
noncomputable def xF  : Fun:=⟨"ends_of",["plan", "entry"],["plan", "entry", "s", "way", "word", "one", "other", "low", "high"],#[.ite (.cmp .Eq (.blt .len #[.v 1]) (.int 3)) #[.ret (.tup #[.ix (.v 1) (.int 1),.ix (.v 1) (.int 2)])] .nil,.asg (.t #[.n 2,.n 3]) (.v 1),.asg (.t #[.n 4,.n 5,.n 6,.n 7,.n 8]) (.ix (.ix (.v 0) (.int 1)) (.v 2)),.ret (.ife (.cmp .Eq (.v 3) (.int 1)) (.tup #[.v 5,.v 6]) (.tup #[.v 6,.v 5]))]⟩
noncomputable def ZF  : Fun:=⟨"entry_sums",["beats", "windows", "entry"],["beats", "windows", "entry", "apart", "s", "way", "least", "most"],#[.ite (.cmp .Eq (.blt .len #[.v 2]) (.int 3)) #[.asg (.n 3) (.bin .Sub (.ix (.v 0) (.ix (.v 2) (.int 2))) (.ix (.v 0) (.ix (.v 2) (.int 1)))),.ret (.tup #[.v 3,.v 3])] .nil,.asg (.t #[.n 4,.n 5]) (.v 2),.asg (.t #[.n 6,.n 7]) (.ix (.v 1) (.v 4)),.ret (.ife (.cmp .Eq (.v 5) (.int 1)) (.tup #[.v 6,.v 7]) (.tup #[.neg (.v 7),.neg (.v 6)]))]⟩
def CF  : Fun:=⟨"sums_of",["plan", "period", "beats", "windows", "ring"],["plan", "period", "beats", "windows", "ring", "sums"],#[.asgC 5 (.lc [Aa,ia 2,ia 3] (.n 0) (.e (.v 4)) .nil (.call lH #[.v 1,.v 2,.v 0])),(.ret (.tup #[.blt .sum #[.lc [Aa,Aa] (.t #[.n 0,.n 1]) (.e (.v 5)) .nil (.v 0)],.blt .sum #[.lc [Aa,Aa] (.t #[.n 0,.n 1]) (.e (.v 5)) .nil (.v 1)]]))]⟩
def nG  : Fun:=⟨"ring_bars",["plan", "period", "beats", "windows", "ring"],["plan", "period", "beats", "windows", "ring", "least", "most"],#[.asg (.t #[.n 5,.n 6]) (.call rF #[.v 0,.v 1,.v 2,.v 3,.v 4]),.ret (.cmp .Lt (.bin .Mult (.bin .FloorDiv (.v 6) (.v 1)) (.v 1)) (.v 5))]⟩
noncomputable def YF  : Fun:=⟨"entries_to",["plan", "work"],["plan", "work", "found", "s", "word", "one", "other", "low", "high"],#[.asg (.n 2) (.lst .nil),(.fr (.t #[.n 3,.t #[.n 4,.n 5,.n 6,.n 7,.n 8]]) (.enum (.ix (.v 0) (.int 1))) #[.ite (.cmp .Eq (.v 6) (.v 1)) #[.expr (.meth .append (.v 2) #[.tup #[.v 3,.int 1,.v 5]])] .nil,.ite (.cmp .Eq (.v 5) (.v 1)) #[.expr (.meth .append (.v 2) #[.tup #[.v 3,.neg (.int 1),.v 6]])] .nil]),.ret (.v 2)]⟩
def FH  : Ss:=#[(.wh (.cmp .Lt (.v 4) (.blt .len #[.v 3])) #[(.fr (.t #[.n 5,.n 6,.n 7]) (.e (.call kH #[.v 0,.ix (.v 3) (.v 4)])) #[(.ite (.cmp .NotIn (.v 7) (.v 3)) #[.setS (.v 2) (.v 7) (.tup #[.v 5,.v 6]),.expr (.meth .append (.v 3) #[.v 7])] .nil)]),.aug 4 .Add (.int 1)]),.ret (.v 2)]
def fH  : Fun:=⟨"forest_from",["plan", "roots"],["plan", "roots", "forest", "reached", "at", "s", "way", "start"],(.cons (.asg (.n 2) (.dic .nil)) (.cons (.asg (.n 3) (.mkL (.v 1))) (.cons (.asg (.n 4) (.int 0)) FH)))⟩
def XI  : Ss:=#[(.wh (.cmp .In (.v 2) (.v 1)) #[.expr (.meth .append (.v 3) #[.ix (.v 1) (.v 2)]),.asg (.n 2) (.ix (.call Py #[.v 0,.ix (.v 1) (.v 2)]) (.int 1))]),.ret (.tup #[.v 3,.v 2])]
def LH  : Fun:=⟨"path_to_root",["plan", "forest", "work"],["plan", "forest", "work", "path"],(.cons (.asg (.n 3) (.lst .nil)) XI)⟩
noncomputable def II  : Ss:=#[.ret (.mkT (.bin .Add (.bin .Add (.bin .Add (.lst #[.tup #[.v 2,.int 1]]) (.v 8)) (.v 12)) (.lc [Aa,Aa] (.t #[.n 0,.n 1]) (.e (.rev (.v 10) (.neg (.int 1)))) .nil (.tup #[.v 0,.neg (.v 1)]))))]
def Bz  : Ss:=(.cons (.asg (.n 12) (.ife (.cmp .Eq (.v 9) (.v 11)) (.lst .nil) (.lst #[.tup #[.str "home",.v 9,.v 11]]))) II)
def HI  : Ss:=(.cons (.wh (.bop la (.v 8) #[.v 10,.cmp .Eq (.ix (.v 8) (.neg (.int 1))) (.ix (.v 10) (.neg (.int 1)))]) #[.expr (.meth .pop (.v 8) .nil),.expr (.meth .pop (.v 10) .nil)]) Bz)
def GI  : Ss:=(.cons (.asg (.t #[.n 8,.n 9]) (.call tz #[.v 0,.v 1,.v 5])) (.cons (.asg (.t #[.n 10,.n 11]) (.call tz #[.v 0,.v 1,.v 4])) HI))
def HH  : Fun:=⟨"closing_ring",["plan", "forest", "s"],["plan", "forest", "s", "word", "one", "other", "low", "high", "there", "there_root", "back", "back_root", "homes"],(.cons (.asg (.t #[.n 3,.n 4,.n 5,.n 6,.n 7]) (.ix (.ix (.v 0) (.int 1)) (.v 2))) GI)⟩
def vH  : Fun:=⟨"closing_rings",["plan", "part", "forest"],["plan", "part", "forest", "used", "spans"],#[.asg (.n 3) (.lc [Aa,Aa] (.t #[.n 0,.n 1]) (.dv (.v 2)) .nil (.v 0)),.asgC 4 (.lc [Aa,ia 0,ia 1,ia 3] (.n 0) (.r1 (.blt .len #[.ix (.v 0) (.int 1)])) #[.bop la (.cmp .In (.ix (.ix (.ix (.v 1) (.int 1)) (.v 0)) (.int 1)) (.v 2)) #[.cmp .NotIn (.v 0) (.v 3)]] (.v 0)),.ret (.lc [Aa,ia 0,ia 2] (.n 0) (.e (.v 4)) .nil (.call NH #[.v 1,.v 2,.v 0]))]⟩
def eH  : Fun:=⟨"beats_along",["plan", "period", "beats", "forest", "lengths"],["plan", "period", "beats", "forest", "lengths", "found", "work", "s", "way", "nearer"],#[.asg (.n 5) (.mkL (.v 2)),(.fr (.t #[.n 6,.t #[.n 7,.n 8]]) (.di (.v 3)) #[.asg (.n 9) (.ix (.call Py #[.v 0,.tup #[.v 7,.v 8]]) (.int 1)),.setS (.v 5) (.v 6) (.bin .Mod (.bin .Sub (.ix (.v 5) (.v 9)) (.bin .Mult (.v 8) (.ix (.v 4) (.v 7)))) (.v 1))]),.ret (.mkT (.v 5))]⟩
def cH  : Ss:=#[(.fr (.n 3) (.r1 (.blt .len #[.ix (.v 0) (.int 0)])) #[(.ite (.cmp .NotIn (.v 3) (.v 2)) #[.asg (.n 4) (.blt .sorted #[.bin .Add (.lst #[.v 3]) (.mkD (.call jv #[.v 0,.lst #[.v 3]]))]),.expr (.meth .extend (.v 2) #[.v 4]),.expr (.meth .append (.v 1) #[.mkT (.v 4)])] .nil)]),.ret (.mkT (.v 1))]
def KF  : Fun:=⟨"parts_of",["plan"],["plan", "parts", "placed", "work", "part"],(.cons (.asg (.n 1) (.lst .nil)) (.cons (.asg (.n 2) (.lst .nil)) cH))⟩
noncomputable def BF  : Fun:=⟨"staying",["part", "stays"],["part", "stays"],#[.ret (.lc [Aa,ia 1] (.n 0) (.e (.v 0)) #[.cmp .In (.v 0) (.v 1)] (.v 0))]⟩
noncomputable def wG  : Ss:=#[.fr (.n 5) (.r1 (.bin .Sub (.bin .Sub (.blt .len #[.ix (.v 0) (.int 0)]) (.blt .len #[.v 2])) (.blt .len #[.v 3]))) #[.aug 4 .Mult (.v 1)],.ret (.v 4)]
def vG  : Ss:=(.cons (.asg (.n 4) (.int 1)) wG)
def AF  : Fun:=⟨"size_of",["plan", "period", "stays"],["plan", "period", "stays", "free", "size", "turn"],(.cons (.asgC 3 (.lc [Aa,ia 2] (.n 0) (.e (.call Vy #[.v 0])) #[.not (.call Qy #[.v 0,.v 1])] (.v 0))) vG)⟩
def MH  : Fun:=⟨"refuse_great",["plan", "period", "stays"],["plan", "period", "stays"],#[.ite (.cmp .Gt (.call qF #[.v 0,.v 1,.v 2]) (.g 0)) #[.raise 2 #[.str "plan"]] .nil]⟩
noncomputable def aG  : Fun:=⟨"first_void",["windows"],["windows", "s", "least", "most"],#[.fr (.t #[.n 1,.t #[.n 2,.n 3]]) (.enum (.v 0)) #[.ite (.cmp .Lt (.v 3) (.v 2)) #[.ret (.v 1)] .nil],.ret .non]⟩
noncomputable def bG  : Fun:=⟨"first_wide",["forest", "windows"],["forest", "windows", "s", "way", "least", "most"],#[(.fr (.t #[.n 2,.n 3]) (.dv (.v 0)) #[.asg (.t #[.n 4,.n 5]) (.ix (.v 1) (.v 2)),.ite (.cmp .Lt (.v 4) (.v 5)) #[.ret (.v 2)] .nil]),.ret .non]⟩
def fE  : Fun:=⟨"halved",["windows", "s"],["windows", "s", "least", "most", "cut"],#[.asg (.t #[.n 2,.n 3]) (.ix (.v 0) (.v 1)),.asg (.n 4) (.bin .FloorDiv (.bin .Add (.v 2) (.v 3)) (.int 2)),(.ret (.tup #[.v 4,(.tup #[.call yz #[.v 0,.v 1,.tup #[.v 2,.v 4]],.call yz #[.v 0,.v 1,.tup #[.bin .Add (.v 4) (.int 1),.v 3]]])]))]⟩
noncomputable def RE  : Ss:=#[.ret (.tup #[.str "none",.tup #[.str "split",.v 7,.v 8,.ix (.v 10) (.int 0),.ix (.v 10) (.int 1)]])]
def QE  : Ss:=(.cons (.fr (.n 11) (.e (.v 9)) #[.asg (.t #[.n 12,.n 13]) (.call Bu #[.v 0,.v 1,.v 2,.v 3,.v 4,.v 11]),.ite (.cmp .Eq (.v 12) (.str "times")) #[.ret (.tup #[.str "times",.v 13])] .nil,.expr (.meth .append (.v 10) #[.v 13])]) RE)
def OE  : Ss:=(.cons (.asg (.n 10) (.lst .nil)) QE)
def NE  : Ss:=(.cons (.asg (.t #[.n 8,.n 9]) (.call bF #[.v 5,.v 7])) OE)
def Dy  : Ss:=(.cons (.ite (.cmp .Is (.v 7) .non) #[.ret (.tup #[.str "times",.v 5])] .nil) NE)
def ME  : Ss:=(.cons (.asg (.n 7) (.call nH #[.v 3,.v 5])) Dy)
def oC  : Fun:=⟨"seek",["plan", "period", "beats", "forest", "rings", "windows"],["plan", "period", "beats", "forest", "rings", "windows", "ring", "s", "cut", "sides", "cases", "side", "word", "found"],(.cons (.fr (.n 6) (.e (.v 4)) #[.ite (.call tG #[.v 0,.v 1,.v 2,.v 5,.v 6]) #[.ret (.tup #[.str "none",.tup #[.str "ring",.v 6]])] .nil]) ME)⟩
noncomputable def nJ  : Ss:=#[.ret (.tup #[.str "times",.v 6])]
def Az  : Ss:=(.cons (.fr (.n 7) (.e (.call Vy #[.v 0])) #[.asg (.n 8) (.call jv #[.v 0,.bop ua (.call Qy #[.v 7,.v 3]) #[.sl (.v 7) .no (.so (.int 1))]]),(.asg (.t #[.n 9,.n 10]) (.call Bu #[.v 0,.v 1,.v 6,.v 8,.call zH #[.v 0,.v 7,.v 8],.v 4])),.ite (.cmp .Eq (.v 9) (.str "none")) #[.ret (.tup #[.str "none",.v 10])] .nil,.asg (.n 6) (.call JG #[.v 0,.v 1,.v 6,.v 8,.lc [Aa,Aa] (.t #[.n 0,.n 1]) (.e (.v 10)) .nil (.v 0)])]) nJ)
def mJ  : Ss:=(.cons (.asg (.n 6) (.mkT (.lc [Aa,ia 2,ia 3] (.n 0) (.r1 (.blt .len #[.ix (.v 0) (.int 0)])) .nil (.ife (.cmp .In (.v 0) (.v 2)) (.ix (.v 1) (.v 0)) (.int 0))))) Az)
def zz  : Ss:=(.cons (.ite (.cmp .IsNot (.v 5) .non) #[(.ret (.tup #[.str "none",(.tup #[.str "ring",(.tup #[.tup #[.v 5,.int 1],.tup #[.v 5,.neg (.int 1)]])])]))] .nil) mJ)
def lJ  : Ss:=(.cons (.asg (.n 5) (.call mH #[.v 4])) zz)
def kJ  : Ss:=(.cons (.asg (.n 4) (.call rH #[.v 0,.v 1])) lJ)
def sJ  : Fun:=⟨"times_or_none_with",["plan", "period", "beats", "stays"],["plan", "period", "beats", "stays", "windows", "void", "times", "part", "forest", "word", "found"],(.cons (.expr (.call QH #[.v 0,.v 1,.v 3])) kJ)⟩
def yH  : Fun:=⟨"times_or_none",["plan", "period"],["plan", "period"],#[.ret (.call tJ #[.v 0,.v 1,.tup .nil,.tup .nil])]⟩
noncomputable def gJ  : Ss:=#[.ret .non]
noncomputable def yI  : Ss:=#[.aug 2 .Add (.tup #[.v 5])]
def Fz  : Ss:=(.cons (.ite (.cmp .Eq (.v 4) (.str "times")) #[.ret (.tup #[.v 3,.v 5,.v 2])] .nil) yI)
def xI  : Ss:=(.cons (.asg (.t #[.n 4,.n 5]) (.call CH #[.v 0,.v 3])) Fz)
def fJ  : Ss:=(.cons (.fr (.n 3) (.r2 (.int 1) (.bin .Add (.v 1) (.int 1))) xI) gJ)
def FG  : Fun:=⟨"least_round",["plan", "most"],["plan", "most", "papers", "period", "word", "found"],(.cons (.asg (.n 2) (.tup .nil)) fJ)⟩
noncomputable def yF  : Fun:=⟨"_law_fed",["_law_script"],["_law_script"],#[.ret (.dic #[.str "cells",.sl (.v 0) .no (.so (.int 63)),.str "at",.int 0,.str "left",.int 0,.str "turn",.int 0])]⟩
noncomputable def GF  : Fun:=⟨"_law_draw",["_law_feed", "_law_many"],["_law_feed", "_law_many", "_law_digit", "_law_cells", "_law_at", "_law_cell", "_law_mixed"],#[.setS (.v 0) (.str "turn") (.bin .Add (.ix (.v 0) (.str "turn")) (.int 1)),.ite (.cmp .Gt (.ix (.v 0) (.str "left")) (.int 0)) #[.asg (.n 2) (.bin .Mod (.ix (.v 0) (.str "left")) (.v 1)),.setS (.v 0) (.str "left") (.bin .FloorDiv (.ix (.v 0) (.str "left")) (.v 1)),.ret (.v 2)] .nil,.asg (.n 3) (.ix (.v 0) (.str "cells")),.asg (.n 4) (.ix (.v 0) (.str "at")),.setS (.v 0) (.str "at") (.bin .Add (.v 4) (.int 1)),.asg (.n 5) (.ife (.cmp .NotEq (.v 3) (.lst .nil)) (.ix (.v 3) (.bin .Mod (.v 4) (.blt .len #[.v 3]))) (.int 0)),.ite (.bop la (.cmp .GtE (.v 5) (.bin .Pow (.int 10) (.int 18))) #[.cmp .Lt (.v 4) (.blt .len #[.v 3])]) #[.setS (.v 0) (.str "left") (.bin .FloorDiv (.v 5) (.v 1)),.ret (.bin .Mod (.v 5) (.v 1))] .nil,.asg (.n 6) (.bin .Mod (.bin .Add (.bin .Add (.bin .Mult (.bin .Mod (.v 5) (.int 1000003)) (.int 48271)) (.bin .Mult (.int 7919) (.ix (.v 0) (.str "turn")))) (.int 104729)) (.int 2147483647)),.asg (.n 6) (.bin .Mod (.bin .Add (.bin .Add (.bin .Mult (.bin .FloorDiv (.v 6) (.int 64)) (.int 69621)) (.bin .Mult (.bin .Mult (.int 31) (.ix (.v 0) (.str "turn"))) (.ix (.v 0) (.str "turn")))) (.int 17)) (.int 2147483587)),.ret (.bin .Mod (.bin .FloorDiv (.v 6) (.int 64)) (.v 1))]⟩
def BI  : Fun:=⟨"_law_some_names",["_law_feed", "_law_many"],["_law_feed", "_law_many", "_law_some", "_law_first", "_law_step"],#[.asg (.n 2) (.lst #[.str "a",.str "ab",.str "abc",.str "works",.str "span",.str "apart",.str "ring",.str "split",.str "b",.str "stay",.str "none",.str "zzzzzzzz"]),.asg (.n 3) (.call Pc #[.v 0,.int 12]),.asg (.n 4) (.ix (.lst #[.int 1,.int 5,.int 7,.int 11]) (.call Pc #[.v 0,.int 4])),.ret (.mkT (.lc [Aa,ia 2,ia 3,ia 4] (.n 0) (.r1 (.v 1)) .nil (.ix (.v 1) (.bin .Mod (.bin .Add (.v 2) (.bin .Mult (.v 3) (.v 0))) (.int 12)))))]⟩
def zF  : Fun:=⟨"_law_fit",["_law_feed", "_law_cycle", "_law_beats", "_law_one", "_law_other"],["_law_feed", "_law_cycle", "_law_beats", "_law_one", "_law_other", "_law_gap", "_law_far", "_law_low"],#[.asg (.n 5) (.bin .Mod (.bin .Sub (.ix (.v 2) (.v 4)) (.ix (.v 2) (.v 3))) (.v 1)),(.ite (.cmp .Eq (.call Pc #[.v 0,.int 4]) (.int 0)) #[(.ret (.tup #[.str "apart",.v 3,.v 4,.call Pc #[.v 0,.bin .Add (.v 5) (.int 1)],.call Pc #[.v 0,.bin .Add (.bin .Sub (.v 1) (.v 5)) (.int 1)]]))] .nil),.asg (.n 6) (.bin .Add (.v 5) (.bin .Mult (.v 1) (.ix (.lst #[.int 0,.int 0,.int 0,.int 1,.int 2]) (.call Pc #[.v 0,.int 5])))),.asg (.n 7) (.bin .Sub (.v 6) (.blt .min #[.v 6,.ix (.lst #[.int 0,.int 1,.int 2,.call Pc #[.v 0,.v 1]]) (.call Pc #[.v 0,.int 4])])),.ret (.tup #[.str "span",.v 3,.v 4,.v 7,.bin .Add (.v 6) (.ix (.lst #[.int 0,.int 0,.int 1,.call Pc #[.v 0,.v 1]]) (.call Pc #[.v 0,.int 4]))])]⟩
def IH  : Fun:=⟨"_law_any_span",["_law_feed", "_law_cycle", "_law_one", "_law_other"],["_law_feed", "_law_cycle", "_law_one", "_law_other", "_law_low"],#[(.asg (.n 4) (.ix (.lst #[.int 0,.call Pc #[.v 0,.v 1],.call Pc #[.v 0,.bin .Mult (.int 3) (.v 1)],.v 1]) (.call Pc #[.v 0,.int 4]))),(.ite (.cmp .Eq (.call Pc #[.v 0,.int 3]) (.int 0)) #[(.ret (.tup #[.str "apart",.v 2,.v 3,.call Pc #[.v 0,.bin .Add (.v 1) (.int 1)],.call Pc #[.v 0,.bin .Add (.v 1) (.int 2)]]))] .nil),(.ret (.tup #[.str "span",.v 2,.v 3,.v 4,(.bin .Add (.v 4) (.ix (.lst #[.int 0,.int 0,.int 1,.call Pc #[.v 0,.v 1],.bin .Sub (.v 1) (.int 1),.bin .Mult (.int 2) (.v 1)]) (.call Pc #[.v 0,.int 6])))]))]⟩
def cv  : Ss:=#[.asg (.n 6) (.rev (.v 6) (.ix (.lst #[.int 1,.neg (.int 1)]) (.blt .int #[.cmp .Eq (.call Pc #[.v 0,.int 3]) (.int 0)]))),(.ret (.tup #[.sl (.tup #[.str "a",.str "ab",.str "works",.str "span",.str "apart",.str "ring",.str "b",.str "stay"]) .no (.so (.v 1)),.mkT (.v 6)]))]
def uz  : Ss:=(.cons (.asg (.n 6) (.bin .Add (.v 6) (.bin .Mult (.sl (.v 6) .no (.so (.int 1))) (.blt .int #[.bop la (.cmp2 .Lt .Lt (.int 0) (.blt .len #[.v 6]) (.v 3)) #[.cmp .Eq (.call Pc #[.v 0,.int 4]) (.int 0)]])))) cv)
def fv  : Ss:=#[.asg (.n 11) (.bop ua (.cmp .Eq (.v 5) (.int 5)) #[.bop la (.cmp .Gt (.v 5) (.int 2)) #[.cmp .Eq (.call Pc #[.v 0,.int 5]) (.int 0)]]),.expr (.meth .append (.v 6) #[.ife (.v 11) (.call qz #[.v 0,.v 2,.v 9,.v 10]) (.call Vq #[.v 0,.v 2,.v 4,.v 9,.v 10])])]
def Ez  : Ss:=(.cons (.asg (.t #[.n 9,.n 10]) (.ix (.lst #[.tup #[.v 9,.v 10],.tup #[.v 10,.v 9]]) (.call Pc #[.v 0,.int 2]))) fv)
def Dz  : Ss:=(.cons (.ite (.cmp .Lt (.bin .Add (.v 8) (.int 1)) (.v 1)) #[.par [9,10] #[.bin .Add (.v 8) (.int 1),.call Pc #[.v 0,.bin .Add (.v 8) (.int 1)]]] .nil) Ez)
def Cz  : Ss:=(.cons (.par [9,10] #[.call Pc #[.v 0,.v 1],.call Pc #[.v 0,.v 1]]) (.cons (.ite (.bop la (.cmp .Eq (.v 9) (.v 10)) #[.cmp .Gt (.call Pc #[.v 0,.int 4]) (.int 0)]) #[.asg (.n 10) (.bin .Mod (.bin .Add (.v 9) (.int 1)) (.v 1))] .nil) Dz))
def TH  : Ss:=(.cons (.fr (.n 8) (.r1 (.blt .min #[.v 3,.v 7])) Cz) uz)
def SH  : Ss:=(.cons (.asg (.n 3) (.ix (.lst #[.v 3,.int 24]) (.blt .int #[.cmp .Eq (.call Pc #[.v 0,.int 16]) (.int 0)]))) (.cons (.asg (.n 5) (.call Pc #[.v 0,.int 6])) (.cons (.asg (.n 6) (.lst .nil)) (.cons (.asg (.n 7) (.ix (.lst #[.bin .Sub (.v 1) (.int 1),.v 1,.bin .Add (.v 1) (.int 1),.call Pc #[.v 0,.bin .Add (.v 3) (.int 1)],.v 3,.v 1]) (.call Pc #[.v 0,.int 6]))) TH))))
def cG  : Fun:=⟨"_law_a_plan",["_law_feed", "_law_works", "_law_cycle", "_law_most"],["_law_feed", "_law_works", "_law_cycle", "_law_most", "_law_beats", "_law_way", "_law_spans", "_law_many", "_law_k", "_law_one", "_law_other", "_law_odd"],(.cons (.asgC 4 (.lc [Aa,ia 0,ia 2] (.n 0) (.r1 (.v 1)) .nil (.call Pc #[.v 1,.v 2]))) SH)⟩
noncomputable def gG  : Fun:=⟨"_law_window",["_law_plan", "_law_cycle", "_law_s"],["_law_plan", "_law_cycle", "_law_s", "_law_word", "_law_one", "_law_other", "_law_low", "_law_high", "_law_top"],#[.asg (.t #[.n 3,.n 4,.n 5,.n 6,.n 7]) (.ix (.ix (.v 0) (.int 1)) (.v 2)),.asg (.n 8) (.ife (.cmp .Eq (.v 3) (.str "span")) (.v 7) (.bin .Sub (.v 1) (.v 7))),.ret (.tup #[.v 6,.blt .min #[.v 8,.bin .Sub (.bin .Add (.v 6) (.v 1)) (.int 1)]])]⟩
def kI  : Fun:=⟨"_law_all_windows",["_law_plan", "_law_cycle"],["_law_plan", "_law_cycle"],#[.ret (.mkT (.lc [Aa,ia 0,ia 1] (.n 0) (.r1 (.blt .len #[.ix (.v 0) (.int 1)])) .nil (.call gz #[.v 1,.v 2,.v 0])))]⟩
noncomputable def eG  : Fun:=⟨"_law_length",["_law_plan", "_law_cycle", "_law_beats", "_law_s"],["_law_plan", "_law_cycle", "_law_beats", "_law_s", "_law_word", "_law_one", "_law_other", "_law_low", "_law_high", "_law_gap"],#[.asg (.t #[.n 4,.n 5,.n 6,.n 7,.n 8]) (.ix (.ix (.v 0) (.int 1)) (.v 3)),.asg (.n 9) (.bin .Mod (.bin .Sub (.ix (.v 2) (.v 6)) (.ix (.v 2) (.v 5))) (.v 1)),.ret (.bin .Add (.v 9) (.bin .Mult (.bin .FloorDiv (.bin .Sub (.bin .Add (.bin .Sub (.v 7) (.v 9)) (.v 1)) (.int 1)) (.v 1)) (.v 1)))]⟩
def kG  : Fun:=⟨"_law_keeps",["_law_plan", "_law_cycle", "_law_beats"],["_law_plan", "_law_cycle", "_law_beats", "_law_s"],#[.fr (.n 3) (.r1 (.blt .len #[.ix (.v 0) (.int 1)])) #[.ite (.cmp .Gt (.call pH #[.v 0,.v 1,.v 2,.v 3]) (.ix (.call gz #[.v 0,.v 1,.v 3]) (.int 1))) #[.ret (.bl ua)] .nil],.ret (.bl la)]⟩
noncomputable def VH  : Ss:=#[.ret (.v 1)]
noncomputable def iJ  : Ss:=#[.asg (.n 8) (.blt .min #[.ix (.v 1) (.v 4),.ix (.v 1) (.v 5)]),.setS (.v 1) (.v 4) (.v 8),.setS (.v 1) (.v 5) (.v 8)]
def qI  : Ss:=#[.fr (.t #[.n 3,.n 4,.n 5,.n 6,.n 7]) (.e (.ix (.v 0) (.int 1))) iJ]
def UH  : Ss:=(.cons (.fr (.n 2) (.e (.ix (.v 0) (.int 0))) qI) VH)
def dG  : Fun:=⟨"_law_firsts",["_law_plan"],["_law_plan", "_law_marks", "_law_turn", "_law_word", "_law_one", "_law_other", "_law_low", "_law_high", "_law_least"],(.cons (.asg (.n 1) (.rngL (.blt .len #[.ix (.v 0) (.int 0)]))) UH)⟩
noncomputable def XG  : Ss:=#[.ret (.v 3)]
noncomputable def QI  : Ss:=#[.asg (.n 3) (.v 5)]
noncomputable def oJ  : Ss:=#[.expr (.meth .extend (.v 5) #[.lc [Aa,ia 6] (.n 0) (.r1 (.ife (.cmp .Eq (.ix (.v 2) (.v 4)) (.v 4)) (.int 1) (.v 1))) .nil (.bin .Add (.v 1) (.tup #[.v 0]))])]
def OI  : Ss:=(.cons (.fr (.n 6) (.e (.v 3)) oJ) QI)
def NI  : Ss:=(.cons (.asg (.n 5) (.lst .nil)) OI)
def WG  : Ss:=(.cons (.fr (.n 4) (.r1 (.blt .len #[.ix (.v 0) (.int 0)])) NI) XG)
def VG  : Ss:=(.cons (.asg (.n 3) (.lst #[.tup .nil])) WG)
def jG  : Fun:=⟨"_law_every",["_law_plan", "_law_cycle"],["_law_plan", "_law_cycle", "_law_marks", "_law_found", "_law_work", "_law_longer", "_law_ahead"],(.cons (.asg (.n 2) (.call dz #[.v 0])) VG)⟩
def AI  : Fun:=⟨"_law_every_time",["_law_plan", "_law_cycle"],["_law_plan", "_law_cycle"],#[.ret (.lc [Aa,ia 0,ia 1] (.n 0) (.e (.call sG #[.v 0,.v 1])) #[.call iz #[.v 1,.v 2,.v 0]] (.v 0))]⟩
noncomputable def gH  : Fun:=⟨"_law_is_from",["_law_least", "_law_most", "_law_thing"],["_law_least", "_law_most", "_law_thing"],#[(.ret (.bop la (.blt .isi #[.v 2,.ty "int"]) #[.not (.blt .isi #[.v 2,.ty "bool"]),.cmp2 .LtE .LtE (.v 0) (.v 2) (.v 1)]))]⟩
noncomputable def WI  : Ss:=#[.asg (.t #[.n 4,.n 5]) (.sl (.ix (.ix (.v 0) (.int 1)) (.ix (.v 2) (.int 0))) (.so (.int 1)) (.so (.int 3))),(.ret (.ix (.lst #[.tup #[.v 4,.v 5],.tup #[.v 5,.v 4]]) (.blt .int #[.cmp .Eq (.ix (.v 2) (.int 1)) (.neg (.int 1))])))]
def VI  : Ss:=(.cons (.ite (.bop ua (.not (.call Tl #[.int 0,.bin .Sub (.blt .len #[.ix (.v 0) (.int 1)]) (.int 1),.ix (.v 2) (.int 0)])) #[.not (.call Tl #[.neg (.int 1),.int 1,.ix (.v 2) (.int 1)]),.cmp .Eq (.ix (.v 2) (.int 1)) (.int 0)]) #[.ret .non] .nil) WI)
def SI  : Ss:=(.cons (.ite (.cmp .Eq (.blt .len #[.v 2]) (.int 3)) #[.asgC 3 (.lc [Aa,ia 1] (.n 0) (.e (.sl (.v 2) (.so (.int 1)) .no)) .nil (.bop la (.call Tl #[.int 0,.int 7,.v 0]) #[.cmp .In (.v 0) (.v 1)])),.ret (.ife (.bop la (.blt .isi #[.ix (.v 2) (.int 0),.ty "str"]) #[.cmp .Eq (.ix (.v 2) (.int 0)) (.str "home"),.cmp .NotIn (.bl ua) (.v 3)]) (.sl (.v 2) (.so (.int 1)) .no) .non)] .nil) VI)
def KH  : Fun:=⟨"_law_two_ends",["_law_plan", "_law_stays", "_law_entry"],["_law_plan", "_law_stays", "_law_entry", "_law_fine", "_law_one", "_law_other"],(.cons (.ite (.bop ua (.not (.blt .isi #[.v 2,.ty "tuple"])) #[.cmp .NotIn (.blt .len #[.v 2]) (.tup #[.int 2,.int 3])]) #[.ret .non] .nil) SI)⟩
noncomputable def ZI  : Ss:=#[.ret (.cmp .Eq (.lc [Aa,ia 3] (.n 0) (.r1 (.blt .len #[.v 3])) #[.cmp .NotEq (.ix (.ix (.v 1) (.bin .Sub (.v 0) (.int 1))) (.int 1)) (.ix (.ix (.v 1) (.v 0)) (.int 0))] (.v 0)) (.lst .nil))]
def YI  : Ss:=(.cons (.ite (.cmp .In .non (.v 3)) #[.ret (.bl ua)] .nil) ZI)
def GH  : Ss:=(.cons (.asg (.n 3) (.lc [Aa,ia 0,ia 1] (.n 0) (.e (.v 2)) .nil (.call PH #[.v 1,.v 2,.v 0]))) YI)
def iH  : Fun:=⟨"_law_is_ring",["_law_plan", "_law_stays", "_law_thing"],["_law_plan", "_law_stays", "_law_thing", "_law_ends"],(.cons (.ite (.bop ua (.not (.blt .isi #[.v 2,.ty "tuple"])) #[.not (.cmp2 .LtE .LtE (.int 1) (.blt .len #[.v 2]) (.int 60))]) #[.ret (.bl ua)] .nil) GH)⟩
noncomputable def dJ  : Ss:=#[.ret (.v 3)]
def cJ  : Ss:=(.cons (.fr (.n 4) (.e (.v 2)) #[(.ite (.cmp .Eq (.blt .len #[.v 4]) (.int 3)) #[.asg (.n 5) (.bin .Mult (.tup #[.bin .Sub (.ix (.v 0) (.ix (.v 4) (.int 2))) (.ix (.v 0) (.ix (.v 4) (.int 1)))]) (.int 2))] #[.asg (.t #[.n 6,.n 7]) (.ix (.v 1) (.ix (.v 4) (.int 0))),(.asg (.n 5) (.ix (.lst #[.tup #[.v 6,.v 7],.tup #[.bin .Sub (.int 0) (.v 7),.bin .Sub (.int 0) (.v 6)]]) (.blt .int #[.cmp .Eq (.ix (.v 4) (.int 1)) (.neg (.int 1))])))]),.asg (.n 3) (.tup #[.bin .Add (.ix (.v 3) (.int 0)) (.ix (.v 5) (.int 0)),.bin .Add (.ix (.v 3) (.int 1)) (.ix (.v 5) (.int 1))])]) dJ)
def DG  : Fun:=⟨"_law_sums_of",["_law_beats", "_law_windows", "_law_ring"],["_law_beats", "_law_windows", "_law_ring", "_law_sums", "_law_entry", "_law_ends", "_law_low", "_law_high"],(.cons (.asg (.n 3) (.tup #[.int 0,.int 0])) cJ)⟩
noncomputable def gE  : Fun:=⟨"_law_up",["_law_cycle", "_law_number"],["_law_cycle", "_law_number"],#[.ret (.bin .Mult (.bin .FloorDiv (.bin .Sub (.bin .Add (.v 1) (.v 0)) (.int 1)) (.v 0)) (.v 0))]⟩
def wH  : Fun:=⟨"_law_is_barred",["_law_cycle", "_law_beats", "_law_windows", "_law_ring"],["_law_cycle", "_law_beats", "_law_windows", "_law_ring", "_law_least", "_law_most"],#[.asg (.t #[.n 4,.n 5]) (.call LG #[.v 1,.v 2,.v 3]),.ret (.cmp .Gt (.call JS #[.v 0,.v 4]) (.v 5))]⟩
noncomputable def JF  : Fun:=⟨"_law_with",["_law_windows", "_law_s", "_law_least", "_law_most"],["_law_windows", "_law_s", "_law_least", "_law_most"],#[.ret (.bin .Add (.bin .Add (.sl (.v 0) .no (.so (.v 1))) (.tup #[.tup #[.v 2,.v 3]])) (.sl (.v 0) (.so (.bin .Add (.v 1) (.int 1))) .no))]⟩
noncomputable def Jz  : Ss:=#[.ret (.ife (.cmp .Eq (.blt .len #[.v 1]) (.ix (.v 2) (.ix (.v 1) (.int 0)))) (.ix (.v 1) (.int 0)) (.str ""))]
def eJ  : Ss:=(.cons (.ite (.bop ua (.not (.blt .isi #[.v 1,.ty "tuple"])) #[.cmp .Eq (.v 1) (.tup .nil),.not (.blt .isi #[.ix (.v 1) (.int 0),.ty "str"]),.cmp .NotIn (.ix (.v 1) (.int 0)) (.v 0)]) #[.ret (.str "")] .nil) Jz)
def EG  : Fun:=⟨"_law_word_of",["_law_words", "_law_node"],["_law_words", "_law_node", "_law_many"],(.cons (.asg (.n 2) (.dic #[.str "ring",.int 2,.str "split",.int 5,.str "prices",.int 2,.str "stay",.int 4,.str "enough",.int 1])) eJ)⟩
noncomputable def bJ  : Ss:=#[.ret (.v 9)]
def aJ  : Ss:=(.cons (.ite (.cmp .Is (.v 9) .non) #[.asg (.n 9) (.call Xq #[.v 0,.ix (.v 1) (.int 4),.call Uy #[.v 2,.v 5,.bin .Add (.v 6) (.int 1),.v 8]])] .nil) bJ)
def aI  : Ss:=(.cons (.asg (.n 9) (.call Xq #[.v 0,.ix (.v 1) (.int 3),.call Uy #[.v 2,.v 5,.v 7,.v 6]])) aJ)
def ZH  : Ss:=(.cons (.ite (.not (.call Tl #[.v 7,.bin .Sub (.v 8) (.int 1),.v 6])) #[.ret (.tup #[.str "cut",.v 3])] .nil) aI)
def YH  : Ss:=(.cons (.asg (.t #[.n 7,.n 8]) (.ix (.v 2) (.v 5))) ZH)
def XH  : Ss:=(.cons (.ite (.not (.call Tl #[.int 0,.bin .Sub (.blt .len #[.ix (.ix (.v 0) (.str "plan")) (.int 1)]) (.int 1),.v 5])) #[.ret (.tup #[.str "span",.v 3])] .nil) YH)
def WH  : Ss:=(.cons (.asg (.t #[.n 5,.n 6]) (.sl (.v 1) (.so (.int 1)) (.so (.int 3)))) XH)
def xz  : Ss:=(.cons (.ite (.cmp .NotEq (.v 4) (.str "split")) #[.ret (.call zW #[.v 0,.v 1,.v 2,.v 3])] .nil) WH)
def wz  : Ss:=(.cons (.ite (.cmp .Eq (.v 4) (.str "")) #[.ret (.tup #[.str "shape",.v 3])] .nil) xz)
def vz  : Ss:=(.cons (.asg (.n 4) (.call MG #[.ix (.v 0) (.str "words"),.v 1])) wz)
def az  : Fun:=⟨"_law_judged",["_law_book", "_law_node", "_law_windows"],["_law_book", "_law_node", "_law_windows", "_law_at", "_law_word", "_law_s", "_law_cut", "_law_least", "_law_most", "_law_found"],(.cons (.asg (.n 3) (.ix (.v 0) (.str "at"))) (.cons (.setS (.v 0) (.str "at") (.bin .Add (.v 3) (.int 1))) vz))⟩
def JH  : Fun:=⟨"_law_none_due",["_law_plan", "_law_cycle", "_law_thing"],["_law_plan", "_law_cycle", "_law_thing", "_law_book", "_law_found"],#[(.asg (.n 3) (.dic #[.str "plan",.v 0,.str "cycle",.v 1,.str "words",.lst #[.str "ring",.str "split"],.str "at",.int 0])),.asg (.n 4) (.call Xq #[.v 3,.v 2,.call nI #[.v 0,.v 1]]),.ret (.ife (.cmp .Is (.v 4) .non) (.bl la) (.v 4))]⟩
noncomputable def bH  : Ss:=#[.ret (.v 3)]
def aH  : Ss:=(.cons (.fr (.n 4) (.r1 (.blt .len #[.v 2])) #[.asg (.n 3) (.bin .Mult (.v 3) (.ix (.lst #[.v 1,.int 1]) (.blt .int #[.cmp .Eq (.ix (.v 2) (.v 4)) (.v 4)])))]) bH)
def ZG  : Ss:=(.cons (.asg (.n 3) (.int 1)) aH)
def IF  : Fun:=⟨"_law_size",["_law_plan", "_law_cycle"],["_law_plan", "_law_cycle", "_law_marks", "_law_found", "_law_work"],(.cons (.asg (.n 2) (.call dz #[.v 0])) ZG)⟩
def rJ  : Ss:=#[.ret (.tup #[.v 1,.v 2,.bin .Add (.int 1) (.call Pc #[.v 0,.v 2])])]
def qJ  : Ss:=(.cons (.asg (.n 2) (.ix (.lst #[.bin .Add (.int 1) (.call Pc #[.v 0,.v 2]),.bin .Add (.int 1) (.call Pc #[.v 0,.blt .min #[.v 2,.int 9]]),.v 2]) (.blt .min #[.int 2,.call Pc #[.v 0,.int 6]]))) rJ)
def pJ  : Ss:=(.cons (.asg (.n 2) (.ix (.lst #[.int 60,.int 60,.int 17,.int 6,.int 4]) (.bin .Sub (.v 1) (.int 1)))) qJ)
def mI  : Fun:=⟨"_law_many_rounds",["_law_feed"],["_law_feed", "_law_works", "_law_most"],(.cons (.asg (.n 1) (.ix (.lst #[.int 2,.int 3,.int 3,.int 4,.int 2,.int 5,.int 1,.int 4]) (.call Pc #[.v 0,.int 8]))) pJ)⟩
def wI  : Ss:=#[(.ret (.tup #[.call DI #[.v 0,.v 1],.mkT (.bin .Add (.v 2) (.bin .Mult (.lst #[.v 4]) (.call Pc #[.v 0,.int 2])))]))]
def vI  : Ss:=(.cons (.asg (.n 4) (.tup #[.str "apart",.int 0,.call Pc #[.v 0,.int 2],.bin .Add (.int 5) (.call Pc #[.v 0,.int 99]),.int 9999])) wI)
def jJ  : Ss:=#[(.expr (.meth .append (.v 2) #[(.tup #[.str "span",.bin .Add (.v 3) (.int 1),.call Pc #[.v 0,.bin .Add (.v 3) (.int 1)],.call Pc #[.v 0,.int 9],.bin .Add (.int 9) (.call Pc #[.v 0,.int 99])])]))]
def uI  : Ss:=(.cons (.fr (.n 3) (.r1 (.bin .Sub (.v 1) (.int 1))) jJ) vI)
def tI  : Ss:=(.cons (.asg (.n 2) (.lst .nil)) uI)
def xH  : Fun:=⟨"_law_too_great",["_law_feed"],["_law_feed", "_law_works", "_law_spans", "_law_k", "_law_bad"],(.cons (.asg (.n 1) (.bin .Add (.int 5) (.call Pc #[.v 0,.int 4]))) tI)⟩
noncomputable def UG  : Ss:=#[.ret (.v 2)]
noncomputable def MI  : Ss:=#[.asg (.n 2) (.bin .Add (.v 2) (.int 1))]
def LI  : Ss:=(.cons (.asg (.n 1) (.v 3)) MI)
noncomputable def Gz  : Ss:=#[.expr (.meth .extend (.v 3) #[.ife (.cmp .In (.ix (.v 4) (.int 0)) (.tup #[.str "split",.str "stay"])) (.sl (.v 4) (.so (.bin .Sub (.blt .len #[.v 4]) (.int 2))) .no) (.tup .nil)])]
def KI  : Ss:=(.cons (.fr (.n 4) (.e (.v 1)) Gz) LI)
def JI  : Ss:=(.cons (.asg (.n 3) (.lst .nil)) KI)
def SG  : Ss:=(.cons (.wh (.cmp .NotEq (.v 1) (.lst .nil)) JI) UG)
def CG  : Fun:=⟨"_law_depth",["_law_cases"],["_law_cases", "_law_row", "_law_many", "_law_below", "_law_node"],(.cons (.asg (.n 1) (.lst #[.v 0])) (.cons (.asg (.n 2) (.int 0)) SG))⟩
noncomputable def uH  : Ss:=#[(.ret (.tup #[.tup #[.v 6,.mkT (.v 5)],.v 4]))]
def tH  : Ss:=(.cons (.asg (.n 6) (.sl (.tup #[.str "a",.str "ab",.str "works",.str "span",.str "apart",.str "ring",.str "b",.str "stay"]) .no (.so (.v 1)))) uH)
def bI  : Ss:=(.cons (.asgC 5 (.lc [Aa,ia 0,ia 2,ia 4] (.n 0) (.r1 (.v 3)) .nil (.call Vq #[.v 1,.v 2,.v 3,.bin .Mult (.int 2) (.v 0),.bin .Add (.bin .Mult (.int 2) (.v 0)) (.int 1)]))) tH)
def fG  : Fun:=⟨"_law_parted",["_law_feed", "_law_works", "_law_cycle", "_law_many"],["_law_feed", "_law_works", "_law_cycle", "_law_many", "_law_beats", "_law_spans", "_law_names"],(.cons (.asg (.n 4) (.mkT (.lc [Aa,ia 0,ia 2] (.n 0) (.r1 (.v 1)) .nil (.call Pc #[.v 1,.v 2])))) bI)⟩
def hJ  : Fun:=⟨"_law_end_judged",["_law_book", "_law_node", "_law_windows", "_law_at"],["_law_book", "_law_node", "_law_windows", "_law_at"],#[.ite (.not (.call KG #[.ix (.v 0) (.str "plan"),.tup .nil,.ix (.v 1) (.int 1)])) #[.ret (.tup #[.str "ring",.v 3])] .nil,.ret (.ife (.call AH #[.ix (.v 0) (.str "cycle"),.tup .nil,.v 2,.ix (.v 1) (.int 1)]) .non (.tup #[.str "bar",.v 3]))]⟩
def HF  : Fun:=⟨"_law_said",["_law_plan", "_law_most"],["_law_plan", "_law_most", "_law_found", "e", "_law_others"],#[.asg (.n 2) (.str "odd"),(.tr #[.asg (.n 2) (.call NG #[.v 0,.v 1])] 0 3 [.asg 4 (.cond la (ua,.isi [1,3,5,4]) []),.ifa la (ua,.is1 2) [(ua,.isiV),(la,.v 4)] 2 (.tup [(.str "many"),(.att "word")])]),.ret (.v 2)]⟩
noncomputable def iI  : Ss:=#[.ret (.bl la)]
def RI  : Ss:=#[.ite (.bop ua (.cmp .IsNot (.call OH #[.v 0,.bin .Add (.v 5) (.int 1),.ix (.v 4) (.v 5)]) (.bl la)) #[.cmp .Gt (.call rG #[.ix (.v 4) (.v 5)]) (.int 100)]) #[.ret (.bl ua)] .nil]
def gI  : Ss:=(.cons (.fr (.n 5) (.r1 (.bin .Sub (.v 1) (.int 1))) RI) iI)
def eI  : Ss:=(.cons (.ite (.cmp .NotEq (.blt .len #[.v 4]) (.bin .Sub (.v 1) (.int 1))) #[.ret (.bl ua)] .nil) gI)
def dI  : Ss:=(.cons (.ite (.bop ua (.cmp .In (.bl ua) (.lc [Aa,ia 1] (.n 0) (.e (.v 3)) .nil (.call Tl #[.int 0,.bin .Sub (.v 1) (.int 1),.v 0]))) #[.not (.call iz #[.v 0,.v 1,.v 3])]) #[.ret (.bl ua)] .nil) eI)
def cI  : Ss:=(.cons (.ite (.bop ua (.not (.blt .isi #[.v 3,.ty "tuple"])) #[.cmp .NotEq (.blt .len #[.v 3]) (.blt .len #[.ix (.v 0) (.int 0)]),.not (.blt .isi #[.v 4,.ty "tuple"])]) #[.ret (.bl ua)] .nil) dI)
def YG  : Ss:=(.cons (.asg (.t #[.n 3,.n 4]) (.sl (.v 2) (.so (.int 1)) .no)) cI)
def mG  : Fun:=⟨"_law_right",["_law_plan", "_law_cycle", "_law_told"],["_law_plan", "_law_cycle", "_law_told", "_law_beats", "_law_papers", "_law_k"],(.cons (.ite (.bop ua (.not (.blt .isi #[.v 2,.ty "tuple"])) #[.cmp .NotEq (.blt .len #[.v 2]) (.int 3),.cmp .NotEq (.blt .repr #[.ix (.v 2) (.int 0)]) (.blt .repr #[.v 1])]) #[.ret (.bl ua)] .nil) YG)⟩
noncomputable def Fu  : Ss:=#[.ret (.ife (.cmp .NotEq (.v 12) (.lst .nil)) (.cmp .Eq (.v 11) (.tup #[.str "many",.str "plan"])) (.cmp .Is (.v 11) .non))]
def wy  : Ss:=(.cons (.asgC 12 (.lc [Aa,ia 6] (.n 0) (.r2 (.int 1) (.bin .Add (.v 4) (.int 1))) #[.cmp .Gt (.call NF #[.v 1,.v 0]) (.int 300)] (.v 0))) Fu)
def Eu  : Ss:=(.cons (.ite (.cmp .Eq (.ix (.ix (.ix (.v 6) (.int 1)) (.neg (.int 1))) (.int 0)) (.str "span")) #[.ret (.call jz #[.v 6,.int 1,.v 11])] .nil) wy)
def wE  : Ss:=(.cons (.asg (.n 11) (.call Sy #[.v 6,.v 4])) Eu)
def vE  : Ss:=(.cons (.asg (.n 4) (.bin .Add (.int 2) (.call Pc #[.v 1,.int 5]))) wE)
def uy  : Ss:=(.cons (.asg (.n 6) (.call BH #[.v 1])) vE)
def oz  : Ss:=#[.ite (.bop la (.cmp .NotEq (.v 8) (.lst .nil)) #[.not (.call jz #[.v 6,.ix (.v 8) (.int 0),.v 11])]) #[.ret (.bl ua)] .nil]
def nz  : Ss:=(.cons (.ite (.bop ua (.cmp .NotEq (.blt .repr #[.v 6]) (.v 9)) #[.bop la (.cmp .Eq (.v 8) (.lst .nil)) #[.cmp .IsNot (.v 11) .non]]) #[.ret (.bl ua)] .nil) oz)
def mz  : Ss:=(.cons (.asg (.n 11) (.call Sy #[.v 6,.v 4])) nz)
def AG  : Ss:=#[.fr (.n 10) (.r1 (.bin .Add (.int 1) (.blt .int #[.cmp .Lt (.v 4) (.int 13)]))) mz]
def zG  : Ss:=(.cons (.asg (.n 9) (.blt .repr #[.v 6])) AG)
def Yy  : Ss:=(.cons (.asgC 8 (.lc [Aa,ia 6] (.n 0) (.r2 (.int 1) (.bin .Add (.v 4) (.int 1))) #[.cmp .NotEq (.call CI #[.v 1,.v 0]) (.lst .nil)] (.v 0))) zG)
def RG  : Ss:=#[.asg (.n 6) (.ix (.call qH #[.v 1,.v 3,.v 5,.v 7]) (.int 0))]
def QG  : Ss:=(.cons (.asg (.t #[.n 3,.n 4,.n 7]) (.ix (.lst #[.tup #[.int 8,.int 60,.int 0],.tup #[.int 3,.int 60,.int 1],.tup #[.int 4,.int 17,.int 2]]) (.call Pc #[.v 1,.int 3]))) RG)
def yG  : Ss:=(.cons (.ite (.cmp .Eq (.call Pc #[.v 1,.int 6]) (.int 0)) QG .nil) Yy)
def xG  : Ss:=(.cons (.asg (.n 6) (.call oH #[.v 1,.v 3,.v 5,.int 9])) yG)
def Xy  : Ss:=(.cons (.asg (.t #[.n 3,.n 4,.n 5]) (.call pI #[.v 1])) xG)
def uE  : Ss:=(.cons (.fr (.n 2) (.r1 (.int 3)) Xy) uy)
def GB  : Fun:=⟨"law",["_law_script"],["_law_script", "_law_feed", "_law_k", "_law_works", "_law_most", "_law_cycle", "_law_plan", "_law_many", "_law_some", "_law_former", "_law_again", "_law_told", "_law_great"],(.cons (.asg (.n 1) (.call pF #[.v 0])) uE)⟩
def T  : Je:=⟨[hE,oG,iG,GG,xF,ZF,CF,nG,YF,fH,LH,HH,vH,eH,KF,BF,AF,MH,aG,bG,fE,oC,sJ,yH,FG,yF,GF,BI,zF,IH,cG,gG,kI,eG,kG,dG,jG,AI,gH,KH,iH,DG,gE,wH,JF,EG,az,JH,IF,mI,xH,CG,fG,hJ,HF,mG,GB],[(.int 300)],["MOST_SIZE"],[1,2,3,4,5],[],[]⟩
def Na  (i:Nat):Qa:=PySem.Challenge.pw_beatplans_k41_least_rounds_told.main.body.getD i (.Pass ⟨0,0,0,0⟩)
noncomputable abbrev s_top_of  : Qa:=Na 8
noncomputable abbrev s_window_of  : Qa:=Na 9
noncomputable abbrev s_windows_of  : Qa:=Na 10
noncomputable abbrev s_with_window  : Qa:=Na 11
noncomputable abbrev s_ends_of  : Qa:=Na 13
noncomputable abbrev s_entry_sums  : Qa:=Na 14
noncomputable abbrev s_sums_of  : Qa:=Na 15
noncomputable abbrev s_ring_bars  : Qa:=Na 16
noncomputable abbrev s_entries_to  : Qa:=Na 18
noncomputable abbrev s_forest_from  : Qa:=Na 19
noncomputable abbrev s_path_to_root  : Qa:=Na 20
noncomputable abbrev s_closing_ring  : Qa:=Na 21
noncomputable abbrev s_closing_rings  : Qa:=Na 22
noncomputable abbrev s_beats_along  : Qa:=Na 23
noncomputable abbrev s_parts_of  : Qa:=Na 25
noncomputable abbrev s_staying  : Qa:=Na 28
noncomputable abbrev s_size_of  : Qa:=Na 29
noncomputable abbrev s_refuse_great  : Qa:=Na 30
noncomputable abbrev s_first_void  : Qa:=Na 31
noncomputable abbrev s_first_wide  : Qa:=Na 32
noncomputable abbrev s_halved  : Qa:=Na 33
noncomputable abbrev s_seek  : Qa:=Na 34
noncomputable abbrev s_times_or_none_with  : Qa:=Na 35
noncomputable abbrev s_times_or_none  : Qa:=Na 36
noncomputable abbrev s_least_round  : Qa:=Na 38
noncomputable abbrev s_law_fed  : Qa:=Na 40
noncomputable abbrev s_law_draw  : Qa:=Na 41
noncomputable abbrev s_law_some_names  : Qa:=Na 42
noncomputable abbrev s_law_fit  : Qa:=Na 43
noncomputable abbrev s_law_any_span  : Qa:=Na 44
noncomputable abbrev s_law_a_plan  : Qa:=Na 45
noncomputable abbrev s_law_window  : Qa:=Na 46
noncomputable abbrev s_law_all_windows  : Qa:=Na 47
noncomputable abbrev s_law_length  : Qa:=Na 48
noncomputable abbrev s_law_keeps  : Qa:=Na 49
noncomputable abbrev s_law_firsts  : Qa:=Na 50
noncomputable abbrev s_law_every  : Qa:=Na 51
noncomputable abbrev s_law_every_time  : Qa:=Na 52
noncomputable abbrev s_law_is_from  : Qa:=Na 53
noncomputable abbrev s_law_two_ends  : Qa:=Na 54
noncomputable abbrev s_law_is_ring  : Qa:=Na 55
noncomputable abbrev s_law_sums_of  : Qa:=Na 56
noncomputable abbrev s_law_up  : Qa:=Na 57
noncomputable abbrev s_law_is_barred  : Qa:=Na 58
noncomputable abbrev s_law_with  : Qa:=Na 59
noncomputable abbrev s_law_word_of  : Qa:=Na 60
noncomputable abbrev s_law_judged  : Qa:=Na 61
noncomputable abbrev s_law_none_due  : Qa:=Na 62
noncomputable abbrev s_law_size  : Qa:=Na 63
noncomputable abbrev s_law_many_rounds  : Qa:=Na 64
noncomputable abbrev s_law_too_great  : Qa:=Na 65
noncomputable abbrev s_law_depth  : Qa:=Na 66
noncomputable abbrev s_law_parted  : Qa:=Na 67
noncomputable abbrev s_law_end_judged  : Qa:=Na 68
noncomputable abbrev s_law_said  : Qa:=Na 69
noncomputable abbrev s_law_right  : Qa:=Na 70
noncomputable abbrev s_law  : Qa:=Na 71
end
local macro_rules
 |`(tactic| simp! only[$xs,*])=>do
  let ys <- ("ZW QW D_non D_bl D_int D_str aX RW D_ty T_ty D_bin T_bin D_neg D_cmp T_cmp D_cmp2 T_cmp2 D_tup D_lst D_dic D_ix T_ix D_sl D_rev D_call T_call D_blt T_blt D_meth D_lc D_mkD T_mkD D_mkL D_mkT D_not T_not D_ife T_ife D_bop0 D_and D_or T_and T_or O_no O_so A_nil A_cons C_nil C_cons P_nil P_cons WW I_r1 I_r2 I_enum F_nil F_cons I_dv I_di S_expr S_asg S_asgC S_setS S_par S_aug S_ite S_fr S_ret S_raise S_tr B_nil B_cons V_add V_cat V_catL V_sub V_mul V_mulL V_fdiv V_mod V_pow V_neg W_eqI W_neI W_eqS W_neS W_lt W_le W_gt W_ge W_neT W_eqT W_eqT0 W_neL W_eqL W_in W_nin W_is W_isn Y_bl Y_non Y_int Y_tup J_tup X_tup F_len F_repr F_min F_sum F_sorted F_int F_isi X_str V_addB V_subB V_subI F_lenT F_min2 F_max2 F_intB F_intI YW XW G_nil G_cons sl_0 sl_s dr_0 dr_s pk_nil pk_none pk_some K_str K_int fx_cells fx_at fx_left fs_at fs_left".splitOn " ").toArray.mapM λs=>`(OW| $(Lean.mkIdent s.toName):ident)
  `(tactic| try simp only[Sd,Fo,List.cons_append,zi,Td,ah,iK,fK,jK,List.zip_nil_right,List.zip_nil_left,List.foldl_cons,List.foldl_nil,List.getElem?_cons_zero,List.getElem?_cons_succ,Option.join_some,ite_true,ite_false,ZJ,wo,$ys:simpLemma,*,$xs,*])
structure Fn (G:Gp)(f c:Ba)(n:Nat):Prop where
 ex:∃(ns:List Int) (a l t:Int),G f=ia (.dK (Qd c a l t))/\G c=ia (.lst (ns.map .int))/\0<=t/\t<=n

def Fn.mono  (h:Fn G f c n)(e:n<=m):Fn G f c m:=let ⟨y,a,l,t,F,j,I,J⟩:=h.ex;⟨y,a,l,t,F,j,I,by lia⟩
def Fn.sa  (h:Fn G f c n)(s:Sa G G'):Fn G' f c n:=let ⟨I,a,l,t,F,y,j⟩:=h.ex;⟨I,a,l,t,s _ _ F,s _ _ y,j⟩
def Fn.new  (h:Fn G f c n)(w:pk G p o G'):Fn G' f c n:=h.sa w.sa
def Fn.away  (h:Fn G f c n)(w:pk G p o G'):p≠f/\p≠c:=by
 obtain⟨F,a,l,t,y,j,_⟩:=h.ex;exact⟨oi y w.no,oi j w.no⟩
def Fn.off  (h:Fn G f c n)(j:p≠f/\p≠c)(w:Qg G p o G'):Fn G' f c n:=let ⟨F,a,l,t,I,y,J⟩:=h.ex;⟨F,a,l,t,w.sm _ _ (Ta j.1) I,w.sm _ _ (Ta j.2) y,J⟩
theorem Ju   : ∀l:List Int,Dg G (l.map .int) (l.map .int)
 |[]=>.nil
 |_::r=>.cons (.int _) (Ju r)
def UF  (l:List Int):Small (.list (l.map .int)):=⟨(Qj l).1,by show rj (l.map .int)+1<=100;rw[(Qj l).2.1];decide⟩
def fQ   {ns ms:List Int}{kk:Bool->Prop}(g:G p=ia (.lst (ns.map .int)))(g':G q=ia (.lst (ms.map .int)))(h:kk (decide (ns=ms))):eqU (.loc p) (.loc q) G kk:=by
 refine⟨.list (ns.map .int),.list (ms.map .int),.lst (by unfold ud;rw[g]) (Ju _),.lst (by unfold ud;rw[g']) (Ju _),UF _,UF _,?_⟩
 rw[qD];exact h

def Qc   (hf:Fn G f c n)(hn:n<=1000000000)(h0:0<m)(h1:m<1000000000)(q:∀r G' ,0<=r->r<m->Fn G' f c (n+1)->Sm f G G'->Q (.int r) G'):Bb T (k+1) Pc [.loc f,.int m] G Q X:=by
 obtain⟨j,a,l,t,g1,R,t0,t1⟩:=hf.ex;have ne:c≠f:=λz=>by rw[z,g1]at R;cases R
 have J:∀(z a' l':Int) (Z:Gp),Sm f G Z->Q (.int (z%m)) (Ad Z f (.dK (Qd c a' l' (t+1)))):=λz a' l' Z s=>q _ _ (xh z (by lia)) (Ai z h0) ⟨j,_,_,_,rf,by rw[oh ne];exact s _ _ ne R,by lia,by lia⟩ (s.trans Sm.put)
 refine⟨rfl,?_⟩;simp! only[GF,fc,Qb,ix_d g1 Fx,An g1,Rj,RO,gu,true_and];by_cases hl:0<l
 ·rw[if_pos (by simpa using hl)]
  exact⟨h0,h0,by lia,J _ _ _ _ Sm.refl⟩
 ·rw[if_neg (by simpa using hl)]
  simp! only[];refine⟨by decide,λp O n2=>?_⟩
  have s2:Sm f G O:=Sm.put.trans n2.sa.sm;have Y:O f=ia (.dK (Qd c (a+1) l (t+1))):=n2.sa _ _ rf;have I:O c=ia (.lst (j.map .int)):=s2 _ _ ne R;simp! only[];refine fQ (ms:=[]) I n2.at ?_;have two:CMul (31*(t+1)) (t+1):=.inr ⟨by lia,by lia⟩
  have e3:CMul 7919 (t+1):=.inl (by decide)
  have e4:CMul 31 (t+1):=.inl (by decide)
  have F:∀z:Int,Q (.int (z%m)) O:=λz=>q _ _ (xh z (by lia)) (Ai z h0) ⟨j,_,_,_,Y,I,by lia,by lia⟩ s2
  by_cases y:j=[]
  ·subst y;rw[if_neg (by decide)]
   simp! only[ix_d Y Fx,Kl I];refine⟨⟨by decide,by decide,by decide⟩,?_⟩
   rw[if_neg (by decide)]
   exact⟨by decide,.inr (by decide),e3,by decide,by decide,by decide,.inr (by decide),e4,two,by decide,by decide,by decide,h0,F _⟩
  ·rw[if_pos (by simpa using y)]
   have xa:0<j.length:=List.length_pos_iff.mpr y;obtain⟨z,hz,ez⟩:=mC (l:=j) (r:=a%j.length) (xh _ (by lia)) (Ai _ (by lia))
   simp! only[ix_d Y Fx,Kl I,Hb,ix_l I ((Qu U.int j _).trans (congrArg _ ez)),An Y,Rj,UC,gu,true_and];refine⟨by lia,⟨by decide,by decide,by decide⟩,?_⟩
   by_cases hc:10 ^ Av 18<=z
   ·rw[if_pos (by simpa using hc)]
    by_cases ha:a<j.length
    ·rw[if_pos (by simpa using ha)]
     exact⟨h0,by lia,h0,J _ _ _ _ s2⟩
    ·rw[if_neg (by simpa using ha)]
     exact⟨by decide,.inr (by decide),e3,by decide,by decide,by decide,.inr (by decide),e4,two,by decide,by decide,by decide,h0,F _⟩
   ·rw[if_neg (by simpa using hc)]
    exact⟨by decide,.inr (by decide),e3,by decide,by decide,by decide,.inr (by decide),e4,two,by decide,by decide,by decide,h0,F _⟩
def sP   {ns:List Int}(J:G a=ia (.fro (ns.map .int)))(q:∀f c y ,Fn y f c 0->Q (.loc f) y):Bb T (k+1) pF [.loc a] G Q X:=by
 refine⟨rfl,?_⟩;simp! only[yF,fc,Qb,sl_f J,bQ];intro F O I;refine⟨by decide,λY R j=>?_⟩
 rw[oP]at j;exact q _ F _ ⟨_,0,0,0,j.at,j.sa _ _ I.at,zg _,zg _⟩

structure Nm (x:Str):Prop where
 l8:x.length<=8
 ch:∀c∈x.cps.toList,c<128
structure Ab where
 w:Str
 o:Nat
 t:Nat
 lo:Int
 hi:Int
noncomputable def Ab.u  (s:Ab):U:=.tup [.str s.w,.int s.o,.int s.t,.int s.lo,.int s.hi]
structure Ab.Ok (W:Nat)(s:Ab):Prop where
 w:s.w = "apart" \/ s.w = "span"
 o:s.o<W
 t:s.t<W
 lo:0<=s.lo/\s.lo<=9999
 hi:0<=s.hi/\s.hi<=9999
noncomputable def Wc  (l:List Int):U:=.tup (l.map .int)
def pE  {x:Str}(h:x = "apart" \/ x = "span"):x.length<=8/\∀c∈x.cps.toList,c<128:=by
 rcases h with rfl|rfl
 ·exact⟨by decide +kernel,by decide +kernel⟩
 ·exact⟨by decide +kernel,by decide +kernel⟩
def Dx   (h:-100000<=i/\i<=100000):Ft 1921 0 (.int i):=Ft.int (Pg (show i.natAbs<=100000 by lia) (by decide))
def Ab.Ok.ft   {s:Ab}(h:s.Ok W)(j:W<=8):Ft 10000 1 s.u:=by
 have:=h.o;have:=h.t;have:=h.lo;have:=h.hi;refine Ft.tup (n:=1921) (m:=5) (Fb _) (λu hu=>?_) (by decide)
 simp only[ic,Ve,or_false]at hu;rcases hu with rfl|rfl|rfl|rfl|rfl
 ·exact(Ft.str (m:=8) (pE h.w).1 (pE h.w).2).mono (by decide) (Fb _)
 all_goals exact Dx (by lia)
def Ib  (xs:List Str)(ss:List Ab):U:=.tup [.tup (xs.map .str),.tup (ss.map Ab.u)]
def MD  {bs:List Int}(h:i<bs.length):atI (bs.map U.int) (i:Int)=ia (.int (bs.getD i 0)):=Mn (by rw[Dd,Ic h];simp[ee,h])
section
variable {k:Nat}{G:Gp}{Q:K1}{X:KX}{f c pb:Ba}{n W o t:Nat}{P:Int}{bs:List Int}
def PD   (hf:Fn G f c n)(hn:n<=900000000)(h1:1<=P)(h2:P<=600)(F:∀i ,i<W->∀Q ,bf bu (.int (i:Int)) G Q=Q (.int (bs.getD i 0)) G)(Z:o<W)(ht:t<W)(q:∀(s:Ab) G' ,s.Ok W->s.o=o->s.t=t->Fn G' f c (n+6)->Sm f G G'->Q s.u G'):Bb T (k+2) Vq [.loc f,.int P,bu,.int o,.int t] G Q X:=by
 refine⟨rfl,?_⟩;simp! only[zF,fc,Qb,F t ht,F o Z];refine⟨by lia,?_⟩
 have g0:=xh (bs.getD t 0-bs.getD o 0) (show P≠0 by lia)
 have g1:=Ai (bs.getD t 0-bs.getD o 0) (show 0<P by lia)
 generalize (bs.getD t 0-bs.getD o 0)%P=gap at g0 g1 ⊢;refine Qc hf (by lia) (by decide) (by decide) λr1 G1 a1 b1 f1 s1=>?_
 simp! only[];by_cases hr:r1=0
 ·rw[if_pos (by simpa using hr)]
  refine Qc f1 (by lia) (by lia) (by lia) λlo G2 a2 b2 f2 s2=>Qc f2 (by lia) (by lia) (by lia) λhi G3 a3 b3 f3 O=>⟨by decide,?_⟩
  exact q ⟨"apart",o,t,lo,hi⟩ _ ⟨.inl rfl,Z,ht,by dsimp only;lia,by dsimp only;lia⟩ rfl rfl (f3.mono (by lia)) ((s1.trans s2).trans O)
 ·rw[if_neg (by simpa using hr)]
  refine⟨by decide,λp2 G2 Y=>Qc (f1.new Y) (by lia) (by decide) (by decide) λr3 G3 a3 b3 f3 O=>?_⟩
  refine Ih [0,0,0,1,2] (O _ _ (f1.away Y).1 Y.at) a3 b3 λz hz=>?_;have I:z=0\/z=1\/z=2:=by simp only[ic,Ve,or_false]at hz;lia
  have S3:=(s1.nw Y).trans O;simp! only[];refine⟨.inr (by lia),?_⟩
  obtain⟨j,ef,fa,fb⟩:∃j,gap+P*z=j/\0<=j/\j<=1800:=⟨_,rfl,by rcases I with rfl|rfl|rfl<;>lia,by rcases I with rfl|rfl|rfl<;>lia⟩
  rw[ef];refine Qc f3 (by lia) (by lia) (by lia) λr4 G4 a4 b4 f4 s4=>⟨by decide,λp5 G5 R=>Qc (f4.new R) (by lia) (by decide) (by decide) λr6 G6 a6 b6 f6 s6=>?_⟩
  refine Ih [0,1,2,r4] (s6 _ _ (f4.away R).1 R.at) a6 b6 λy hy=>?_;have xa:0<=y/\y<=600:=by simp only[ic,Ve,or_false]at hy;lia
  have S6:=((S3.trans s4).nw R).trans s6;simp! only[];refine Qc f6 (by lia) (by lia) (by lia) λr7 G7 a7 b7 f7 s7=>⟨by decide,λp8 G8 J=>Qc (f7.new J) (by lia) (by decide) (by decide) λr9 G9 a9 b9 f9 s9=>?_⟩
  refine Ih [0,0,1,r7] (s9 _ _ (f7.away J).1 J.at) a9 b9 λx hx=>?_;have za:0<=x/\x<=600:=by simp only[ic,Ve,or_false]at hx;lia
  simp! only[];refine⟨by decide,q ⟨"span",o,t,j-(if y<j then y else j),j+x⟩ _ ⟨.inr rfl,Z,ht,?_,by dsimp only;lia⟩ rfl rfl (f9.mono (by lia)) (((S6.trans s7).nw J).trans s9)⟩
  dsimp only;split<;>lia
def tP  (I:Fn G f c n)(Z:n<=900000000)(R:1<=P)(F:P<=600)(Y:G pb=ia (.lst (bs.map .int)))(bl:bs.length=W)(J:o<W)(O:t<W)(q:∀(s:Ab) j ,s.Ok W->Fn j f c (n+6)->Sm f G j->Q s.u j):Bb T (k+2) Vq [.loc f,.int P,.loc pb,.int o,.int t] G Q X:=
 PD (k:=k) I Z R F (λi hi Q=>ix_l Y (MD (by lia))) J O λs j y _ _=>q s j y
def mW  (hf:Fn G f c n)(hn:n<=900000000)(h1:1<=P)(h2:P<=600)(Z:o<W)(ht:t<W)(q:∀(s:Ab) G' ,s.Ok W->Fn G' f c (n+6)->Sm f G G'->Q s.u G'):Bb T (k+2) qz [.loc f,.int P,.int o,.int t] G Q X:=by
 refine⟨rfl,?_⟩;simp! only[IH,fc,Qb];refine Qc hf (by lia) (by lia) (by lia) λr1 G1 a1 b1 f1 s1=>⟨.inl (by decide),Qc f1 (by lia) (by lia) (by lia) λr2 G2 a2 b2 R s2=>⟨by decide,λp3 G3 F=>Qc (R.new F) (by lia) (by decide) (by decide) λr4 G4 a4 b4 f4 s4=>?_⟩⟩
 refine Ih [0,r1,r2,P] (s4 _ _ (R.away F).1 F.at) a4 b4 λz hz=>?_;have za:0<=z/\z<=1800:=by simp only[ic,Ve,or_false]at hz;lia
 have Y:=((s1.trans s2).nw F).trans s4;simp! only[];refine Qc f4 (by lia) (by decide) (by decide) λr5 G5 a5 b5 O s5=>?_
 simp! only[];by_cases hr:r5=0
 ·rw[if_pos (by simpa using hr)]
  refine Qc O (by lia) (by lia) (by lia) λlo G6 a6 b6 j I=>Qc j (by lia) (by lia) (by lia) λhi G7 a7 b7 f7 s7=>⟨by decide,?_⟩
  exact q ⟨"apart",o,t,lo,hi⟩ _ ⟨.inl rfl,Z,ht,by dsimp only;lia,by dsimp only;lia⟩ (f7.mono (by lia)) (((Y.trans s5).trans I).trans s7)
 ·rw[if_neg (by simpa using hr)]
  refine Qc O (by lia) (by lia) (by lia) λr6 G6 a6 b6 j I=>⟨.inl (by decide),by decide,λp7 G7 y=>Qc (j.new y) (by lia) (by decide) (by decide) λr8 G8 a8 b8 f8 J=>?_⟩
  refine Ih [0,0,1,r6,P-1,2*P] (J _ _ (j.away y).1 y.at) a8 b8 λx hx=>?_;have xa:0<=x/\x<=1200:=by simp only[ic,Ve,or_false]at hx;lia
  simp! only[];exact⟨by decide,q ⟨"span",o,t,z,z+x⟩ _ ⟨.inr rfl,Z,ht,by dsimp only;lia,by dsimp only;lia⟩ (f8.mono (by lia)) ((((Y.trans s5).trans I).nw y).trans J)⟩
end

inductive Con (es:List (Int×Int)):Int->Int->Prop
 |refl (x:Int):Con es x x
 |step {x a b:Int}:Con es x a->((a,b)∈es\/(b,a)∈es)->Con es x b
def Con.trans    (h:Con es x y)(g:Con es y z):Con es x z:=by
 induction g with
 |refl=>exact h
 |step _ e j=>exact .step j e
def Con.one    (e:(a,b)∈es\/(b,a)∈es):Con es a b:=.step (.refl a) e
theorem Con.symm    (h:Con es x y):Con es y x:=by
 induction h with
 |refl=>exact .refl _
 |step _ e j=>exact(Con.one (Or.symm e)).trans j
def Con.closed   {S:Int->Prop}(F:∀a b,S a->((a,b)∈es\/(b,a)∈es)->S b)(h:Con es x y)(I:S x):S y:=by
 induction h with
 |refl=>exact I
 |step _ e j=>exact F _ _ j e
abbrev Sl  : List Int->List Int->Prop:=λa b=>HT.lexLt a b=la
theorem pw_ext  {I:Type}{r:I->I->Prop}(as:∀a b,r a b->r b a->False):∀{l F:List I},l.Pairwise r->F.Pairwise r->(∀x,x∈l↔x∈F)->l=F
 |[],[],_,_,_=>rfl
 |[],b::F,_,_,h=>absurd ((h b).mpr (by simp)) (by simp)
 |a::l,[],_,_,h=>absurd ((h a).mp (by simp)) (by simp)
 |a::l,b::F,h1,h2,h=>by
  obtain⟨J,O⟩:=Vb.mp h1;obtain⟨q1,q2⟩:=Vb.mp h2;have e:a=b:=by
   rcases ic.mp ((h a).mp (by simp))with z|z
   ·exact z
   ·rcases ic.mp ((h b).mpr (by simp))with y|y
    ·exact y.symm
    ·exact(as _ _ (J b y) (q1 a z)).elim
  subst e;rw[pw_ext as O q2 λx=>?_];constructor
  ·intro j;rcases ic.mp ((h x).mp (Uc _ j))with z|z
   ·subst z;exact(as _ _ (J x j) (J x j)).elim
   ·exact z
  ·intro j;rcases ic.mp ((h x).mpr (Uc _ j))with z|z
   ·subst z;exact(as _ _ (q1 x j) (q1 x j)).elim
   ·exact z
def gN  (a b:Int)(h:a<b)(g:b<a):False:=by lia
def JM   a b (h:Sl a b)(g:Sl b a):False:=by
 have:=sx a b a h g;rw[mx]at this;cases this
structure Ee (W:Nat)(es:List (Int×Int))(ps:List (List Int)):Prop where
 ne:∀p∈ps,p≠[]
 as:∀p∈ps,p.Pairwise (·< ·)
 bd:∀p∈ps,∀x∈p,0<=x/\x<W
 al:∀x:Int,0<=x->x<W->∃p∈ps,x∈p
 un:∀p∈ps,∀q∈ps,∀x,x∈p->x∈q->p=q
 nd:ps.Nodup
 ed:∀a b,(a,b)∈es->∃p∈ps,a∈p/\b∈p
 co:∀p∈ps,∀x∈p,∀y∈p,Con es x y
def Ee.part     (h:Ee W es ps)(J:p∈ps)(R:x∈p)(g:Con es x y):y∈p:=by
 refine g.closed (S:=λz=>z∈p) (λa b O e=>?_) R;rcases e with e|e
 ·obtain⟨q,I,F,j⟩:=h.ed a b e;rw[h.un p J q I a O F];exact j
 ·obtain⟨q,I,F,j⟩:=h.ed b a e;rw[h.un p J q I a O j];exact F
theorem PC {y:Type}{r:y->y->Prop}(I:∀a b c,r a b->r b c->r a c):∀{l:List y},(∀i (h:i+1<l.length),r l[i] l[i+1])->l.Pairwise r
 |[],_=>.nil
 |[a],_=>IK _ _
 |a::b::l,h=>by
  have F:=PC I (l:=b::l) λi J=>h (i+1) (by simpa using J)
  refine Vb.mpr ⟨λx j=>?_,F⟩;have h0:=h 0 (by simp)
  rcases ic.mp j with rfl|j
  ·exact h0
  ·exact I _ _ _ h0 ((Vb.mp F).1 x j)
def GU  {y:Type}(l:List y) d {j:List Nat}(h:j.Perm (md l.length)):(j.map λi=>l.getD i d).Perm l:=by
 have:=h.map λi=>l.getD i d;have e:(md l.length).map (λi=>l.getD i d)=l:=by
  refine AJ (by simp) λi I F=>?_
  simp[ee,F]
 rw[e]at this;exact this

def LM   (g:G a=ia (.lst (ns.map .int)))(nd:ns.Nodup)(O:ns.length<64)(q:∀J:List Int,J.Perm ns->J.Pairwise (·< ·)->newO G (.lst (J.map .int)) Q):Rn [.loc a] G Q:=by
 unfold Rn;dsimp only;rw[g];refine⟨ns.map λn=>[n],?_,by rw[Hb];exact Wf O (by decide),by rw[Hb,Hb],.inl ⟨ns,rfl,rfl⟩,λj I R=>?_⟩
 ·exact Fc.mpr (nd.imp λh z=>h (cK z).1)
 ·rw[Hb]at I R;have F:∀i∈j,i<ns.length:=λi y=>Va.mp (I.mem_iff.mp y);have pl:j.length=ns.length:=by rw[I.length_eq,Qr]
  have e:(j.map λi=>(ns.map U.int).getD i .non)=(j.map λi=>ns.getD i 0).map .int:=by
   rw[jg];refine fw λi y=>?_;simp[ee,F i y]
  rw[e];refine q _ (GU ns 0 I) (PC (r:=λa b:Int=>a<b) (λ_ _ _ h g=>Int.lt_trans h g) λi y=>?_);have y:i+1<ns.length:=by simpa[pl]using y
  have h1:i<j.length:=by lia
  have Y:i+1<j.length:=by lia
  have Z:=F _ (Fm h1);have b2:=F _ (Fm Y);have:=R i y;rw[show j.getD i 0=j[i] by simp[ee,h1],show j.getD (i+1) 0=j[i+1] by simp[ee,Y]]at this
  have k1:(ns.map λn=>[n]).getD j[i] []=[ns[j[i]]]:=by simp[ee,Z]
  have k2:(ns.map λn=>[n]).getD j[i+1] []=[ns[j[i+1]]]:=by simp[ee,b2]
  rw[k1,k2]at this;have l1:HT.lexLt [ns[j[i]]] [ns[j[i+1]]]=decide (ns[j[i]]<ns[j[i+1]]):=by
   rw[HT.lexLt_cons];split
   ·rename_i z;rw[z,HT.lexLt_nil_nil];simp
   ·rfl
  rw[l1]at this;simpa[ee,Z,b2]using of_decide_eq_true this

def Qf  {j:Type}{f:j->U}{l:List j}{n:Nat}{a:j}(h:l[n]?=ia a):atI (l.map f) (n:Int)=ia (f a):=(Qu f l _).trans (congrArg _ (Mn h))
noncomputable def Hc  (ss:List Ab):List (Int×Int):=ss.map λs=>((s.o:Int),(s.t:Int))
def ET     (g:G a=ia o):G=Ad G a o:=by
 funext b;unfold Ad;split
 ·rename_i z;rw[z];exact g
 ·rfl
theorem Hg  : ∀(W:Nat) (l:List Int),l.Nodup->(∀x∈l,0<=x/\x<W)->l.length<=W
 |0,l,_,h=>by
  cases l with
  |nil=>exact Fb _
  |cons a l=>have:=h a (by simp);lia
 |W+1,l,nd,h=>by
  have y:=Hg W (l.erase (W:Int)) (nd.erase _) λx I=>by
   obtain⟨J,F⟩:=nd.mem_erase_iff.mp I;have:=h x F
   lia
  by_cases j:(W:Int)∈l
  ·rw[MK j]at y;lia
  ·rw[List.erase_of_not_mem j]at y;lia
abbrev Ent:=Nat×Int
noncomputable def eu  (e:Ent):U:=.tup [.int e.1,.int e.2]
noncomputable def eS  (ss:List Ab)(e:Ent):Int:=match ss[e.1]? with|some s=>if e.2=1 then s.o else s.t|none=>0
noncomputable def eD  (ss:List Ab)(e:Ent):Int:=match ss[e.1]? with|some s=>if e.2=1 then s.t else s.o|none=>0
def Wd  (ss:List Ab)(e:Ent):Prop:=e.1<ss.length/\(e.2=1\/e.2=-1)
def Mi  (ss:List Ab)(e:Ent):U:=.tup [.int e.1,.int e.2,.int (eS ss e)]
section
variable {ss:List Ab}{s:Ab}{i:Nat}
def eS_1  (h:ss[i]?=ia s):eS ss (i,1)=s.o:=by unfold eS;dsimp only;rw[h];rfl
def eS_m  (h:ss[i]?=ia s):eS ss (i,-1)=s.t:=by unfold eS;dsimp only;rw[h];rfl
def eD_1  (h:ss[i]?=ia s):eD ss (i,1)=s.t:=by unfold eD;dsimp only;rw[h];rfl
def eD_m  (h:ss[i]?=ia s):eD ss (i,-1)=s.o:=by unfold eD;dsimp only;rw[h];rfl
def Wd.get   (h:Wd ss e):∃s,ss[e.1]?=ia s/\((e=(e.1,1)/\eS ss e=s.o/\eD ss e=s.t)\/(e=(e.1,-1)/\eS ss e=s.t/\eD ss e=s.o)):=by
 obtain⟨j,w⟩:=e;refine⟨ss[j]'h.1,Ic h.1,?_⟩;rcases h.2 with z|z
 ·have z:w=1:=z;subst z;exact .inl ⟨rfl,eS_1 (Ic h.1),eD_1 (Ic h.1)⟩
 ·have z:w=-1:=z;subst z;exact .inr ⟨rfl,eS_m (Ic h.1),eD_m (Ic h.1)⟩
def Wd.adj   (h:Wd ss e):(eS ss e,eD ss e)∈Hc ss\/(eD ss e,eS ss e)∈Hc ss:=by
 obtain⟨s,I,z⟩:=h.get;have F:((s.o:Int),(s.t:Int))∈Hc ss:=Ia.mpr ⟨s,Hd I,rfl⟩;rcases z with⟨_,y,j⟩|⟨_,y,j⟩
 ·rw[y,j];exact .inl F
 ·rw[y,j];exact .inr F
end

def FV  {w:Nat}(sl:ss.length<=24)(q:∀p (F:List Ent) Y ,Sa G Y->G p=Aa->Y p=ia (.lst (F.map (Mi ss)))->F.length<=48->(∀e∈F,Wd ss e/\eD ss e=w)->
  (∀j s,ss[j]?=ia s->(s.t=w->(j,1)∈F)/\(s.o=w->(j,-1)∈F))->Q (.loc p) Y):Bb T (k+1) kH [Ib xs ss,.int w] G Q X:=by
 refine⟨rfl,?_⟩;simp! only[YF,fc,Qb];refine⟨by decide,λp G1 n1=>?_⟩
 simp! only[Ib,ix_t (Gd _ _ _)];refine Te (λi ς Y=>∃(F:List Ent) (o3 o4 o5 o6 o7 o8:Option U),ς=[ia (Ib xs ss),ia (.int w),ia (.loc p),o3,o4,o5,o6,o7,o8]/\Y=Ad G1 p (.lst (F.map (Mi ss)))/\F.length<=2*i/\(∀e∈F,Wd ss e/\eD ss e=w)/\∀j s,j<i->ss[j]?=ia s->(s.t=w->(j,1)∈F)/\(s.o=w->(j,-1)∈F)) ?_ ?_ ⟨[],_,_,_,_,_,_,rfl,ET n1.at,Fb _,λ_ h=>(nomatch h),λj s h=>by lia⟩
 ·rintro ς G2 ⟨F,o3,o4,o5,o6,o7,o8,rfl,rfl,hl,he,hz⟩;rw[Su,Hb]at hl hz;refine⟨trivial,?_⟩;simp! only[];refine q p F _ (λb o hb=>?_) n1.no rf (by lia) he λj s e=>hz j s (Ea.mp e).1 e
  rw[oh (λz=>by rw[z,n1.no]at hb;cases hb)]
  exact n1.sa _ _ hb
 ·rintro i x ς G2 K hx ⟨F,o3,o4,o5,o6,o7,o8,rfl,rfl,hl,he,hz⟩ hk;obtain⟨u,hu,rfl⟩:=Ru hx;rw[Dd]at hu;cases J:ss[i]? with
  |none=>rw[J]at hu;cases hu
  |some s=>
   rw[J]at hu;have hu:=(Nd hu).symm;subst hu;have il:i<ss.length:=(Ea.mp J).1;refine⟨trivial,?_⟩;simp! only[Ab.u,li rf,ii rf,Rj,On];refine⟨trivial,trivial,?_⟩;have I:∀y:List Ent,y.length<=2*i+1->(∀e∈y,Wd ss e/\eD ss e=w)->(∀e∈F,e∈y)->(s.t=w->(i,1)∈y)->(if decide ((s.o:Int)=(w:Int))=la then
     0+1+1+1<=db/\(match Ef .append (.loc p) (Ad G1 p (.lst (y.map (Mi ss))))with
      |some _=>Ue .append (.loc p) [U.tup [.int ((0+i:Nat):Int),.int (-1),.int s.t]] (Ad G1 p (.lst (y.map (Mi ss)))) λ_ Y=>K [ia (Ib xs ss),ia (.int w),ia (.loc p),ia (.int ((0+i:Nat):Int)),ia (.str s.w),ia (.int s.o),ia (.int s.t),ia (.int s.lo),ia (.int s.hi)] Y
      |none=>False)
     else K [ia (Ib xs ss),ia (.int w),ia (.loc p),ia (.int ((0+i:Nat):Int)),ia (.str s.w),ia (.int s.o),ia (.int s.t),ia (.int s.lo),ia (.int s.hi)] (Ad G1 p (.lst (y.map (Mi ss))))):=λy za Z O xa=>by
    by_cases c:s.o=w
    ·rw[if_pos (by simp;lia),li rf,ii rf,Rj,On]
     refine⟨by decide,by rw[Hb];exact Pg (show y.length<=48 by lia) (by decide),hk _ _ ⟨y++[(i,-1)],_,_,_,_,_,_,rfl,by rw[wf];simp[Mi,eS_m J],by simp;lia,λe h=>?_,λj s' hj R=>?_⟩⟩
     ·rcases Ma.mp h with h|h
      ·exact Z e h
      ·rw[Fa.mp h,eD_m J];exact⟨⟨il,.inr rfl⟩,by lia⟩
     ·by_cases e:j=i
      ·subst e;rw[J]at R;cases R;exact⟨λh=>Sf _ (xa h),λ_=>Uf _ (Fa.mpr rfl)⟩
      ·have:=hz j s' (by lia) R
       exact⟨λh=>Sf _ (O _ (this.1 h)),λh=>Sf _ (O _ (this.2 h))⟩
    ·rw[if_neg (by simp;lia)]
     refine hk _ _ ⟨y,_,_,_,_,_,_,rfl,rfl,by lia,Z,λj s' hj R=>?_⟩
     by_cases e:j=i
     ·subst e;rw[J]at R;cases R;exact⟨xa,λh=>absurd h c⟩
     ·have:=hz j s' (by lia) R
      exact⟨λh=>O _ (this.1 h),λh=>O _ (this.2 h)⟩
   by_cases c:s.t=w
   ·rw[if_pos (by simp;lia)]
    refine⟨by decide,by rw[Hb];exact Pg (show F.length<=48 by lia) (by decide),?_⟩
    have:=I (F++[(i,1)]) (by simp;lia) (λe h=>by
     rcases Ma.mp h with h|h
     ·exact he e h
     ·rw[Fa.mp h,eD_1 J];exact⟨⟨il,.inl rfl⟩,by lia⟩) (λe h=>Sf _ h) λ_=>Uf _ (Fa.mpr rfl)
    rw[li rf,ii rf,Rj,On,wf]at this;simp only[Sd,Fo,Mi,eS_1 J]at this ⊢;simpa using this
   ·rw[if_neg (by simp;lia)]
    have:=I F (by lia) he (λ_ h=>h) λh=>absurd h c
    rw[li rf,ii rf,Rj,On]at this;exact this

def tQ        (g:G a=ia (.dK kvs)):setU (.loc a) (.int z) v G Q=(kvs.length<db/\putO G a (.dK (dPut kvs (.inl z) v)) Q):=by unfold setU;dsimp only;rw[g];rfl
def ku   z (l:List Int):((l.map U.int).any λy=>Lg y (.int z))=decide (z∈l):=by
 rw[Xj,Kd,decide_eq_true_eq];constructor
 ·rintro⟨y,F,e⟩;obtain⟨x,j,rfl⟩:=Ia.mp F;have:x=z:=by simpa[Lg]using e
  rw[<- this];exact j
 ·intro h;exact⟨.int z,Ia.mpr ⟨z,h,rfl⟩,by simp[Lg]⟩
def Tu  (l:List Int):(l.map U.int).all flat=la:=by simp[flat]
structure oB (W:Nat)(es:List (Int×Int))(w:Nat)(rs:List Int):Prop where
 nd:((w:Int)::rs).Nodup
 bd:∀x∈(w:Int)::rs,0<=x/\x<W
 co:∀x∈(w:Int)::rs,Con es w x
def Zd  (fs:List (Int×Ent)):List (Sb×U):=fs.map λf=>(Ac f.1,eu f.2)
noncomputable def Kb  (fs:List (Int×Ent)):List Int:=fs.map (·.1)
structure Zf (W:Nat)(ss:List Ab)(w:Nat)(fs:List (Int×Ent)):Prop where
 nd:((w:Int)::Kb fs).Nodup
 bd:∀x∈(w:Int)::Kb fs,0<=x/\x<W
 en:∀j f,fs[j]?=ia f->Wd ss f.2/\eS ss f.2=f.1/\eD ss f.2∈(w:Int)::Kb (fs.take j)
section
variable {W:Nat}{ss:List Ab}{w:Nat}{fs:List (Int×Ent)}
def Rl    (h:x∈Kb (fs.take j)):∃i f,i<j/\fs[i]?=ia f/\f.1=x:=by
 obtain⟨f,y,rfl⟩:=Ia.mp h;obtain⟨i,F,e⟩:=Zg y;rw[kj]at F;refine⟨i,f,by lia,?_,rfl⟩
 rw[<- e,sK];exact Ic (by lia)
def Nn  {j:Nat}(h:fs[j]?=ia f):f.1∈Kb fs:=Ia.mpr ⟨f,Hd h,rfl⟩
def rD    (h:x∈(w:Int)::Kb (fs.take j)):x∈(w:Int)::Kb fs:=by
 rcases ic.mp h with z|z
 ·rw[z];simp
 ·obtain⟨i,f,_,e,rfl⟩:=Rl z;exact Uc _ (Nn e)
theorem Zf.con  (h:Zf W ss w fs):∀(n j:Nat) (f:Int×Ent),j<n->fs[j]?=ia f->Con (Hc ss) w f.1
 |0,_,_,hj,_=>by lia
 |n+1,j,f,hj,e=>by
  obtain⟨J,y,I⟩:=h.en j f e;have:Con (Hc ss) w (eD ss f.2):=by
   rcases ic.mp I with z|z
   ·rw[z];exact .refl _
   ·obtain⟨i,g,R,F,O⟩:=Rl z;rw[<- O];exact h.con n i g (by lia) F
  rw[<- y];exact .step this (Or.symm J.adj)
def Zf.rch  (h:Zf W ss w fs):oB W (Hc ss) w (Kb fs):=⟨h.nd,h.bd,λx F=>by
 rcases ic.mp F with z|z
 ·rw[z];exact .refl _
 ·obtain⟨f,y,rfl⟩:=Ia.mp z;obtain⟨j,I,e⟩:=Zg y;exact h.con (j+1) j f (by lia) (by rw[Ic I,e])⟩
def Zf.add  (h:Zf W ss w fs)(he:Wd ss e)(hd:eD ss e∈(w:Int)::Kb fs)(hs:0<=eS ss e/\eS ss e<W)(R:eS ss e∉(w:Int)::Kb fs):Zf W ss w (fs++[(eS ss e,e)]):=by
 have I:(w:Int)::Kb (fs++[(eS ss e,e)])=((w:Int)::Kb fs)++[eS ss e]:=by simp[Kb]
 refine⟨?_,λx F=>?_,λj f y=>?_⟩
 ·rw[I];refine List.nodup_append.mpr ⟨h.nd,by simp,λa Z b O=>?_⟩
  rw[Fa.mp O];exact λz=>R (z ▸ Z)
 ·rw[I]at F;rcases Ma.mp F with z|z
  ·exact h.bd x z
  ·rw[Fa.mp z];exact hs
 ·by_cases J:j<fs.length
  ·rw[Zj J]at y;rw[nL (by lia)]
   exact h.en j f y
  ·have Y:=(Ea.mp y).1;rw[Xf,ZA]at Y;have:j=fs.length:=by lia
   subst this;rw[Vr (Fb _),Er]at y;cases y;refine⟨he,rfl,?_⟩;rw[nL (Fb _),ig];exact hd
def LR  (F:w<W):Zf W ss w []:=⟨by simp[Kb],λx y=>by rw[show((w:Int)::Kb [])=[(w:Int)]from rfl]at y;rw[Fa.mp y];lia,λj f e=>by simp at e⟩
def lR  {kvs:List (Sb×U)}(F:∀y∈kvs,y.1≠Ac z):dPut kvs (.inl z) v=kvs++[(.inl z,v)]:=by
 unfold dPut;rw[if_neg λI=>?_];obtain⟨y,j,e⟩:=Kd.mp I;exact F y j (of_decide_eq_true e)
end
section
variable {k:Nat}{G:Gp}{Q:K1}{X:KX}{xs:List Str}{ss:List Ab}{W:Nat}
def Bn   (y:∀s∈ss,s.Ok W):∀a b,(a,b)∈Hc ss->(0<=a/\a<W)/\0<=b/\b<W:=λa b h=>by
 obtain⟨s,j,e⟩:=Ia.mp h;have o:=y s j;have o1:=o.o;have o2:=o.t;obtain⟨F,I⟩:=jo e
 lia
def yL  (ss:List Ab)(w:Nat)(rs:List Int):Prop:=∀x y,x∈(w:Int)::rs->((x,y)∈Hc ss\/(y,x)∈Hc ss)->y∈(w:Int)::rs
def OF    (so:∀s∈ss,s.Ok W)(sl:ss.length<=24)(hw:w<W)(w8:W<=8)(hr:∀G1,Sa G G1->∀k:List U->Prop,k [.int w]->eg r G1 λxs _=>k xs)
  (q:∀pf fs J ,Sa G J->G pf=Aa->J pf=ia (.dK (Zd fs))->Zf W ss w fs->yL ss w (Kb fs)->Q (.loc pf) J) :
  Bb T (k+2) jv [Ib xs ss,r] G Q X:=by
 refine⟨rfl,?_⟩;simp! only[fH,fc,Qb];refine⟨by decide,λpf G1 n1=>?_⟩
 simp! only[];refine hr G1 n1.sa _ ?_;intro pr G2 n2;simp! only[FH];have va:pf≠pr:=Ta (oi n1.at n2.no);have R:∀{Ga Gb:Gp} {p:Ba} {o:MO},(p=pf\/p=pr)->Sa G Ga->Qg Ga p o Gb->Sa G Gb:=λ{Ga Gb p o} hp s w b u e=>w.sm _ _ (λz=>by
  rcases hp with rfl|rfl
  ·rw[z,n1.no]at e;cases e
  ·rw[z]at e;have:=n1.sa _ _ e;rw[n2.no]at this;cases this) (s b u e)
 rw[S_wh];refine⟨λn ς J=>∃(fs:List (Int×Ent)) (i:Nat) (o5 o6 o7:Option U),ς=[ia (Ib xs ss),ia r,ia (.loc pf),ia (.loc pr),ia (.int i),o5,o6,o7]/\n=W-i/\Sa G J/\J pf=ia (.dK (Zd fs))/\J pr=ia (.lst (((w:Int)::Kb fs).map .int))/\Zf W ss w fs/\i<=fs.length+1/\
   ∀j x y,j<i->((w:Int)::Kb fs)[j]?=ia x->((x,y)∈Hc ss\/(y,x)∈Hc ss)->y∈(w:Int)::Kb fs,⟨_,[],0,_,_,_,rfl,rfl,n1.sa.trans n2.sa,n2.sa _ _ n1.at,n2.at,LR hw,by simp,λj x y h=>by lia⟩,?_⟩
 rintro n ς G3 ⟨fs,i,o5,o6,o7,rfl,rfl,s3,gf,gr,rc,il,cl⟩;have rl:=Hg W _ rc.nd rc.bd;simp only[Kb,Td,Hb]at rl;have kl:(Kb fs).length=fs.length:=Hb _;simp! only[Kl gr,Hb,Td,kl];by_cases c:(i:Int)<((fs.length+1:Nat):Int)
 ·rw[if_pos (by simpa using c)]
  have hi:i<((w:Int)::Kb fs).length:=by rw[Td,kl];lia
  obtain⟨x,hx⟩:∃x,((w:Int)::Kb fs)[i]?=ia x:=⟨_,Ic hi⟩;have bx:=rc.bd x (Hd hx);obtain⟨xn,rfl⟩:=Cg bx.1;rw[ix_l gr (show atI (((w:Int)::Kb fs).map U.int) (i:Int)=ia (.int (xn:Int))from Qf hx)];refine FV sl λpe tr G4 s4 ne g4 tl te tm=>?_;rw[it_l g4];have za:pe≠pf:=λz=>by rw[z,gf]at ne;cases ne
  have ja:pe≠pr:=λz=>by rw[z,gr]at ne;cases ne
  refine Te (λj ς J=>∃(F:List (Int×Ent)) (o5 o6 o7:Option U),ς=[ia (Ib xs ss),ia r,ia (.loc pf),ia (.loc pr),ia (.int i),o5,o6,o7]/\Sa G J/\J pe=ia (.lst (tr.map (Mi ss)))/\J pf=ia (.dK (Zd F))/\J pr=ia (.lst (((w:Int)::Kb F).map .int))/\Zf W ss w F/\(∃ext,F=fs++ext)/\∀e∈tr.take j,eS ss e∈(w:Int)::Kb F)
   ?_ ?_ ⟨fs,_,_,_,rfl,s3.trans s4,g4,s4 _ _ gf,s4 _ _ gr,rc,⟨[],by simp⟩,λe he=>by simp at he⟩
  ·rintro ς G5 ⟨F,o5,o6,o7,rfl,s5,ge,gf',gr',rc',⟨ext,hext⟩,hm⟩;rw[Hb,ig]at hm;refine⟨by unfold ud;rw[ge],?_⟩
   simp! only[];have ll:F.length=fs.length+ext.length:=by rw[hext,Xf]
   refine⟨W-(i+1),by lia,F,i+1,_,_,_,rfl,rfl,s5,gf',gr',rc',by lia,λj x' y hj I e=>?_⟩
   have ya:((w:Int)::Kb F)[j]?=((w:Int)::Kb fs)[j]?:=by
    rw[hext,show((w:Int)::Kb (fs++ext))=((w:Int)::Kb fs)++Kb ext by simp[Kb],Zj (by rw[Td,kl];lia)]
   rw[ya]at I;have up:∀z,z∈(w:Int)::Kb fs->z∈(w:Int)::Kb F:=λz hz=>by
    rw[hext,show((w:Int)::Kb (fs++ext))=((w:Int)::Kb fs)++Kb ext by simp[Kb]]
    exact Sf _ hz
   by_cases ej:j=i
   ·subst ej;rw[hx]at I;cases I;rcases e with e|e
    ·obtain⟨s,hs,es⟩:=Ia.mp e;obtain⟨e1,e2⟩:=jo es;obtain⟨jj,Z,Y⟩:=Zg hs;have hg:ss[jj]?=ia s:=by rw[Ic Z,Y]
     have:=hm _ ((tm jj s hg).2 (by lia))
     rw[eS_m hg,e2]at this;exact this
    ·obtain⟨s,hs,es⟩:=Ia.mp e;obtain⟨e1,e2⟩:=jo es;obtain⟨jj,Z,Y⟩:=Zg hs;have hg:ss[jj]?=ia s:=by rw[Ic Z,Y]
     have:=hm _ ((tm jj s hg).1 (by lia))
     rw[eS_1 hg,e1]at this;exact this
   ·exact up _ (cl j x' y (by lia) I e)
  ·rintro j u ς G5 K hu ⟨F,o5,o6,o7,rfl,s5,ge,gf',gr',rc',⟨ext,hext⟩,hm⟩ hk2;rw[Dd]at hu;cases et:tr[j]? with
   |none=>rw[et]at hu;cases hu
   |some e=>
    rw[et]at hu;have hu:=(Nd hu).symm;subst hu;refine⟨by unfold ud;rw[ge],?_⟩
    obtain⟨oe,ed⟩:=te e (Hd et);have ka:=Hg W _ rc'.nd rc'.bd;simp only[Kb,Td,Hb]at ka;have I:(xn:Int)∈(w:Int)::Kb F:=by
     rw[hext,show((w:Int)::Kb (fs++ext))=((w:Int)::Kb fs)++Kb ext by simp[Kb]]
     exact Sf _ (Hd hx)
    simp! only[Mi];refine⟨trivial,in_l gr' rfl (Tu _) ?_⟩;rw[ku];by_cases cz:eS ss e∈(w:Int)::Kb F
    ·rw[if_neg (by rw[decide_eq_true cz];decide)]
     refine hk2 _ _ ⟨F,_,_,_,rfl,s5,ge,gf',gr',rc',⟨ext,hext⟩,λe' O=>?_⟩;rw[fg,et]at O;rcases Ma.mp O with z|z
     ·exact hm e' z
     ·rw[Fa.mp z];exact cz
    ·rw[if_pos (by rw[decide_eq_false cz];decide),tQ gf']
     have fl:(Zd F).length=F.length:=Hb _;refine⟨by decide,by rw[fl];exact Pg (show F.length<=8 by lia) (by decide),λG6 p6=>?_⟩
     have xa:=p6.sm _ _ (Ta va) gr';simp! only[li xa,ii xa];refine⟨Pg (show _<=9 by simp[Kb];lia) (by decide),λG7 p7=>?_⟩
     have bz:0<=eS ss e/\eS ss e<(W:Int):=by
      rcases oe.adj with z|z
      ·exact(Bn so _ _ z).1
      ·exact(Bn so _ _ z).2
     have pn:dPut (Zd F) (.inl (eS ss e)) (.tup [.int e.1,.int e.2])=Zd (F++[(eS ss e,e)]):=by
      rw[lR λkv wa z=>?_]
      ·simp[Zd,eu]
      ·obtain⟨f,hf,rfl⟩:=Ia.mp wa;have z:=Ac.inj z;exact cz (Uc _ (Ia.mpr ⟨f,hf,z⟩))
     rw[pn]at p6;refine hk2 _ _ ⟨F++[(eS ss e,e)],_,_,_,rfl,R (.inr rfl) (R (.inl rfl) s5 p6) p7,p7.sm _ _ ja (p6.sm _ _ za ge),p7.sm _ _ va p6.at,?_,rc'.add oe (by rw[ed];exact I) bz cz,⟨ext++[(eS ss e,e)],by rw[hext,Pr]⟩,λe' O=>?_⟩
     ·have:=p7.at
      rw[this];simp[Kb]
     ·rw[fg,et]at O;rw[show((w:Int)::Kb (F++[(eS ss e,e)]))=((w:Int)::Kb F)++[eS ss e] by simp[Kb]]
      rcases Ma.mp O with z|z
      ·exact Sf _ (hm e' z)
      ·rw[Fa.mp z];exact Uf _ (Fa.mpr rfl)
 ·rw[if_neg (by simpa using c)]
  refine q pf fs G3 s3 n1.no gf rc λx y hx e=>?_;obtain⟨j,hj,ej⟩:=Zg hx;refine cl j x y ?_ (by rw[Ic hj,ej]) e
  rw[Td,kl]at hj
  lia
def ZU    (so:∀s∈ss,s.Ok W)(R:ss.length<=24)(Y:w<W)(Z:W<=8)(g0:G F=ia (.lst [.int w]))
  (q:∀pf (kvs:List (Sb×U)) (rs:List Int) j ,Sa G j->j pf=ia (.dK kvs)->kvs.map (·.1)=rs.map (λx=>(Ac x:Sb))->oB W (Hc ss) w rs->(∀x y,x∈(w:Int)::rs->((x,y)∈Hc ss\/(y,x)∈Hc ss)->y∈(w:Int)::rs)->Q (.loc pf) j) :
  Bb T (k+2) jv [Ib xs ss,.loc F] G Q X:=
 OF so R Y Z (λG1 s1 k h=>by rw[it_l (s1 _ _ g0)];exact h) λpf fs j J _ I O c'=>q pf (Zd fs) (Kb fs) j J I (by simp[Zd,Kb]) O.rch c'
end

def Au     (g:G a=ia (.lst xs)):Ef .extend (.loc a) G=ia ("list", "list.extend"):=by unfold Ef;dsimp only;rw[g]
def LB      (g:G a=ia (.lst xs))(g':G b=ia (.lst ys)):Ue .extend (.loc a) [.loc b] G Q=(xs.length+ys.length<=db/\putO G a (.lst (xs++ys)) (Q .non)):=by unfold Ue Mq;dsimp only;rw[g,g']
def iN    {ns:List Int}{G:Gp}(g:G a=ia (.dK kvs))(h:kvs.map (·.1)=ns.map (λz=>(Ac z:Sb)))(q:newO G (.lst (ns.map .int)) Q):mkDU (.loc a) G Q:=by unfold mkDU;dsimp only;rw[g];exact⟨ns,h,q⟩
def Kx  (ps:List (List Int)):U:=.tup (ps.map Wc)
structure Pp (W:Nat)(es:List (Int×Int))(i:Nat)(ps:List (List Int))(pl:List Int):Prop where
 hd:∀p∈ps,∃h r,p=h::r/\h<(i:Int)
 as:∀p∈ps,p.Pairwise (·< ·)
 bd:∀p∈ps,∀x∈p,0<=x/\x<W
 co:∀p∈ps,∀x∈p,∀y∈p,Con es x y
 cl:∀p∈ps,∀x∈p,∀y,Con es x y->y∈p
 so:ps.Pairwise Sl
 me:∀x,x∈pl↔∃p∈ps,x∈p
 up:∀x:Int,0<=x->x<i->x∈pl
 l1:ps.length<=i
 l2:pl.length<=8*i
section
variable {W:Nat}{es:List (Int×Int)}
def Pp.nil  : Pp W es 0 [] []:=⟨λ_ h=>(nomatch h),λ_ h=>(nomatch h),λ_ h=>(nomatch h),λ_ h=>(nomatch h),λ_ h=>(nomatch h),.nil,λx=>by simp,λx y j=>by lia,Fb _,Fb _⟩
def Pp.skip     (h:Pp W es i ps j)(y:(i:Int)∈j):Pp W es (i+1) ps j:=by
 refine⟨λp F=>?_,h.as,h.bd,h.co,h.cl,h.so,h.me,λx I J=>?_,by have:=h.l1;lia,by have:=h.l2;lia⟩
 ·obtain⟨a,r,e,l⟩:=h.hd p F;exact⟨a,r,e,by lia⟩
 ·by_cases e:x=i
  ·rw[e];exact y
  ·exact h.up x I (by lia)
def Pp.add     (h:Pp W es i ps pl)(hi:(i:Int)∉pl)(w8:W<=8)(J:oB W es i rs)(cl:∀x y,x∈(i:Int)::rs->((x,y)∈es\/(y,x)∈es)->y∈(i:Int)::rs)
  (F:zs.Perm ((i:Int)::rs)) (hs:zs.Pairwise (·< ·)):Pp W es (i+1) (ps++[zs]) (pl++zs):=by
 have I:∀y,y∈zs↔y∈(i:Int)::rs:=λy=>F.mem_iff;have zc:∀x∈zs,∀y,Con es x y->y∈zs:=λx j y g=>(I y).mpr (g.closed (S:=λz=>z∈(i:Int)::rs) (λa b ha e=>cl a b ha e) ((I x).mp j));have Z:(i:Int)∈zs:=(I _).mpr (by simp)
 have xa:∀y∈zs,(i:Int)<=y:=λy R=>by
  by_cases c:(i:Int)<=y
  ·exact c
  ·have za:=J.bd y ((I y).mp R);obtain⟨p,O,Y⟩:=(h.me y).mp (h.up y za.1 (by lia))
   exact absurd ((h.me _).mpr ⟨p,O,h.cl p O y Y i (J.co y ((I y).mp R)).symm⟩) hi
 obtain⟨r,ez⟩:∃r,zs=(i:Int)::r:=by
  cases zs with
  |nil=>cases Z
  |cons a r=>
   refine⟨r,?_⟩;rcases ic.mp Z with z|z
   ·rw[z]
   ·have:=(Vb.mp hs).1 _ z;have:=xa a (by simp)
    lia
 have lz:zs.length<=8:=by
  rw[F.length_eq];exact Lb (Hg W _ J.nd J.bd) w8
 have one:∀{P:List Int->Prop},(∀p∈ps,P p)->P zs->∀p∈ps++[zs],P p:=λ{P} h1 h2 p F=>by
  rcases Ma.mp F with z|z
  ·exact h1 p z
  ·rw[Fa.mp z];exact h2
 refine⟨one (λp F=>?_) ⟨_,r,ez,by lia⟩,one h.as hs,one h.bd λx j=>J.bd x ((I x).mp j),one h.co λx j y R=>(J.co x ((I x).mp j)).symm.trans (J.co y ((I y).mp R)),one h.cl zc,?_,λx=>?_,λx h1 h2=>?_,by have:=h.l1;simp;lia,by have:=h.l2;simp;lia⟩
 ·obtain⟨a,r,e,l⟩:=h.hd p F;exact⟨a,r,e,by lia⟩
 ·refine List.pairwise_append.mpr ⟨h.so,IK _ _,λp F z hz=>?_⟩;rw[Fa.mp hz,ez];obtain⟨a,r',e,l⟩:=h.hd p F;rw[e];show HT.lexLt _ _=la;rw[HT.lexLt_cons,if_neg (by lia)]
  exact decide_eq_true l
 ·rw[Ma,h.me x];constructor
  ·rintro(⟨p,F,j⟩|j)
   ·exact⟨p,Sf _ F,j⟩
   ·exact⟨zs,Uf _ (Fa.mpr rfl),j⟩
  ·rintro⟨p,F,j⟩;rcases Ma.mp F with z|z
   ·exact .inl ⟨p,z,j⟩
   ·rw[Fa.mp z]at j;exact .inr j
 ·by_cases e:x=i
  ·rw[e];exact Uf _ Z
  ·exact Sf _ (h.up x h1 (by lia))
def Pp.isP    (h:Pp W es W ps pl)(J:∀a b,(a,b)∈es->0<=a/\a<W):Ee W es ps:=by
 refine⟨λp j=>?_,h.as,h.bd,λx I F=>(h.me x).mp (h.up x I F),λp j q O x I F=>?_,?_,λa b e=>?_,h.co⟩
 ·obtain⟨a,r,e,_⟩:=h.hd p j;rw[e];simp
 ·exact pw_ext gN (h.as p j) (h.as q O) λy=>⟨λR=>h.cl q O x F y (h.co p j x I y R),λR=>h.cl p j x I y (h.co q O x F y R)⟩
 ·exact h.so.imp λ{a b} g e=>by rw[e]at g;exact JM _ _ g g
 ·have Z:=J a b e;obtain⟨p,j,Y⟩:=(h.me a).mp (h.up a Z.1 Z.2);exact⟨p,j,Y,h.cl p j a Y b (Con.one (.inl e))⟩
end

def uN  {W:Nat}(y:∀s∈ss,s.Ok W):∀a b,(a,b)∈Hc ss->(0<=a/\a<W)/\0<=b/\b<W:=λa b h=>by
 obtain⟨s,j,e⟩:=Ia.mp h;have o:=y s j;have o1:=o.o;have o2:=o.t;obtain⟨F,I⟩:=jo e
 lia
def uG  (so:∀s∈ss,s.Ok xs.length)(sl:ss.length<=24)(w8:xs.length<=8)(q:∀(ps:List (List Int)) y ,Ee xs.length (Hc ss) ps->ps.Pairwise Sl->ps.length<=8->Sa G y->Q (Kx ps) y):Bb T (k+3) Vy [Ib xs ss] G Q X:=by
 refine⟨rfl,?_⟩;simp! only[KF,fc,Qb];refine⟨by decide,λF G1 n1=>?_⟩
 simp! only[];refine⟨by decide,λY G2 R=>?_⟩
 have O:Y≠F:=oi n1.at R.no;have j:∀{Ga Gb:Gp} {p:Ba} {o:MO},(p=F\/p=Y)->Sa G Ga->Qg Ga p o Gb->Sa G Gb:=λ{Ga Gb p o} hp s w b u e=>w.sm _ _ (λz=>by
  rcases hp with rfl|rfl
  ·rw[z,n1.no]at e;cases e
  ·rw[z]at e;have:=n1.sa _ _ e;rw[R.no]at this;cases this) (s b u e)
 simp! only[cH,Ib,ix_t (Le _ _),Hb];refine⟨by lia,by lia,?_⟩
 refine Te (λi ς y=>∃(ps:List (List Int)) (ls:List Int) (o3 o4:Option U),ς=[ia (Ib xs ss),ia (.loc F),ia (.loc Y),o3,o4]/\Sa G y/\y F=ia (.lst (ps.map Wc))/\y Y=ia (.lst (ls.map .int))/\Pp xs.length (Hc ss) i ps ls) ?_ ?_ ⟨[],[],_,_,rfl,n1.sa.trans R.sa,R.sa _ _ n1.at,R.at,Pp.nil⟩
 ·rintro ς G3 ⟨ps,ls,o3,o4,rfl,s3,gp,gl,h⟩;rw[Xd]at h;refine⟨trivial,?_⟩;simp! only[it_l gp];exact q ps _ (h.isP λa b e=>(uN so a b e).1) h.so (by have:=h.l1;lia) s3
 ·rintro i x ς G3 K hx ⟨ps,ls,o3,o4,rfl,s3,gp,gl,h⟩ hk;obtain⟨hi,rfl⟩:=Nf hx;refine⟨trivial,?_⟩;simp! only[];refine in_l gl rfl (Tu _) ?_;rw[ku];by_cases c:(i:Int)∈ls
  ·rw[if_neg (by rw[decide_eq_true c];decide)]
   exact hk _ _ ⟨ps,ls,_,_,rfl,s3,gp,gl,h.skip c⟩
  ·rw[if_pos (by rw[decide_eq_false c];decide)]
   refine⟨by decide,λp4 G4 n4=>⟨by decide,λp5 G5 n5=>?_⟩⟩
   refine ZU so sl hi w8 n5.at λpf va rs G6 s6 gf ja rc cl=>?_;refine iN gf ja λp7 G7 n7=>?_;have g4:=n7.sa _ _ (s6 _ _ (n5.sa _ _ n4.at));have rl:=Hg _ _ rc.nd rc.bd;simp only[Td]at rl;refine⟨_,_,g4,n7.at,Lb (show _<=9 by simp;lia) (by decide),λp8 G8 n8=>?_⟩
   have e8:[U.int (i:Int)]++rs.map .int=((i:Int)::rs).map .int:=rfl;rw[e8]at n8;simp! only[];refine LM n8.at rc.nd (by simp;lia) λzs hp hs p9 G9 Z=>?_
   have s8:Sa G3 G8:=(((n4.sa.trans n5.sa).trans s6).trans n7.sa).trans n8.sa;have s9:Sa G3 G9:=s8.trans Z.sa;have q1:p9≠Y:=oi (s8 _ _ gl) Z.no;have q2:p9≠F:=oi (s8 _ _ gp) Z.no;have za:=s9 _ _ gp;have I:=s9 _ _ gl;have h':=h.add c w8 rc cl hp hs;have lz:zs.length<=8:=by rw[hp.length_eq];simp;lia
   have l2:=h.l2;have l1:=h.l1;simp! only[Au I,LB I Z.at];refine⟨Lb (show _<=100 by simp;lia) (by decide),λGa pa=>?_⟩
   have J:=pa.sm _ _ (Ta O) za;have xa:=pa.sm _ _ q1 Z.at
   simp! only[li J,it_l xa,ii J];refine⟨by rw[Hb];exact Pg (show ps.length<=8 by lia) (by decide),λGb pb=>?_⟩
   refine hk _ _ ⟨ps++[zs],ls++zs,_,_,rfl,j (.inl rfl) (j (.inr rfl) (s3.trans s9) pa) pb,?_,?_,h'⟩
   ·rw[wf];exact pb.at
   ·rw[wf];exact pb.sm _ _ O pa.at

def Wu    (s:Sa G G')(h:G' p=Aa):G p=Aa:=by
 cases e:G p with
 |none=>rfl
 |some o=>rw[s _ _ e]at h;cases h

def Wk  (ss:List Ab):List Ent->Int->Int->Prop
 |[],a,b=>a=b
 |e::r,a,b=>Wd ss e/\eS ss e=a/\Wk ss r (eD ss e) b
noncomputable def Mf  (e:Ent):Ent:=(e.1,-e.2)
section
variable {ss:List Ab}
theorem Wk.app  : ∀{r r' } {a m b },Wk ss r a m->Wk ss r' m b->Wk ss (r++r') a b
 |[],_,_,_,_,h,g=>by rw[show _=_ from h];exact g
 |_::r,_,_,_,_,⟨h1,h2,h3⟩,g=>⟨h1,h2,Wk.app h3 g⟩
theorem Wk.last  : ∀{r } {e } {a b },Wk ss (r++[e]) a b->Wk ss r a (eS ss e)/\Wd ss e/\eD ss e=b
 |[],e,a,b,⟨h1,h2,h3⟩=>⟨h2.symm,h1,h3⟩
 |_::r,e,a,b,⟨h1,h2,h3⟩=>let ⟨y,j⟩:=Wk.last h3;⟨⟨h1,h2,y⟩,j⟩
def Wd.flip   (h:Wd ss e):Wd ss (Mf e)/\eS ss (Mf e)=eD ss e/\eD ss (Mf e)=eS ss e:=by
 obtain⟨s,j,z⟩:=h.get;rcases z with⟨z,F,y⟩|⟨z,F,y⟩
 ·rw[F,y,z];exact⟨⟨h.1,.inr rfl⟩,eS_m j,eD_m j⟩
 ·rw[F,y,z];exact⟨⟨h.1,.inl rfl⟩,eS_1 j,eD_1 j⟩
theorem Wk.rev  : ∀{r } {a b },Wk ss r a b->Wk ss (r.reverse.map Mf) b a
 |[],_,_,h=>Eq.symm h
 |e::r,a,b,⟨h1,h2,h3⟩=>by
  rw[Rr,wf];refine(Wk.rev h3).app ?_;obtain⟨j,y,F⟩:=h1.flip;exact⟨j,y,F.trans h2⟩
theorem Wk.all  : ∀{r } {a b },Wk ss r a b->∀e∈r,Wd ss e
 |_::_,_,_,⟨h1,_,h3⟩,e,he=>by
  rcases ic.mp he with z|z
  ·rw[z];exact h1
  ·exact h3.all e z
def dN        (g:G a=ia (.frk o kvs))(q:k (dGet kvs (.inl z)).isSome):Jg (.int z) (.loc a) G k:=by unfold Jg;dsimp only;rw[g];exact q
def YB         (g:G a=ia (.frk o kvs))(h:dGet kvs (.inl z)=ia u):bf (.loc a) (.int z) G Q=Q u G:=by unfold bf;dsimp only;rw[g];dsimp only[kU];rw[h]
def QR       (g:G a=ia (.dK kvs)):mh f (.loc a) G Q=∀o j,Qg G a (.frk o kvs) j->Q (f kvs) (λj=>j a=ia (.frk o kvs)) j:=by unfold mh;dsimp only;rw[g]
def wD        (g:G a=ia (.frk o kvs)):mh f (.loc a) G Q=Q (f kvs) (λj=>j a=ia (.frk o kvs)) G:=by unfold mh;dsimp only;rw[g]
theorem nD  : ∀{fs } {z },z∉Kb fs->dGet (Zd fs) (.inl z)=Aa
 |[],_,_=>rfl
 |f::fs,z,h=>by
  have y:¬f.1=z:=λe=>h (by rw[<- e];simp[Kb])
  have j:z∉Kb fs:=λe=>h (Uc _ e);have:=nD j;unfold dGet Zd at this ⊢;rw[Sd,FA (by simpa using y)]
  exact this
theorem pD  : ∀{fs } {j:Nat} {f },(Kb fs).Nodup->fs[j]?=ia f->dGet (Zd fs) (.inl f.1)=ia (eu f.2)
 |[],_,_,_,h=>by simp at h
 |g::fs,0,f,_,h=>by
  simp at h;subst h;unfold dGet Zd;rw[Sd,aL (by simp)];rfl
 |g::fs,j+1,f,y,h=>by
  simp at h;have y:=Ra.mp (show(g.1::Kb fs).Nodup from y);have F:¬g.1=f.1:=λe=>y.1 (by rw[e];exact Nn h)
  have:=pD y.2 h;unfold dGet Zd at this ⊢;rw[Sd,FA (by simpa using F)]
  exact this
def jQ   {w:Nat}(y:((w:Int)::Kb fs).Nodup)(h:z∈(w:Int)::Kb (fs.take n)) :
  (z=w/\dGet (Zd fs) (.inl z)=Aa)\/∃j f,j<n/\fs[j]?=ia f/\f.1=z/\dGet (Zd fs) (.inl z)=ia (eu f.2):=by
 have y:=Ra.mp y;rcases ic.mp h with z'|z'
 ·exact .inl ⟨z',by rw[z'];exact nD y.1⟩
 ·obtain⟨i,f,F,e,rfl⟩:=Rl z';exact .inr ⟨i,f,F,e,rfl,pD y.2 e⟩
end

def OD   (h:Wd ss e)(q:Q (.tup [.int (eS ss e),.int (eD ss e)]) G):Bb T (k+1) Py [Ib xs ss,eu e] G Q X:=by
 obtain⟨s,F,z⟩:=h.get;refine⟨rfl,?_⟩;simp! only[xF,fc,Qb,eu,Ib,ix_t (Gd _ _ _),ix_t (Qf F),Ab.u];refine⟨trivial,trivial,?_⟩;rcases z with⟨z,y,j⟩|⟨z,y,j⟩
 ·rw[show e.2=1 by rw[z],if_pos (by decide)]
  rw[y,j]at q;exact⟨by decide,q⟩
 ·rw[show e.2=-1 by rw[z],if_neg (by decide)]
  rw[y,j]at q;exact⟨by decide,q⟩
def QD       (R:Zf W ss w fs)(w8:W<=8)(Z:G pf=ia (.frk o (Zd fs)))(hz:z∈(w:Int)::Kb fs)
  (q:∀p (F:List Ent) J ,Sa G J->G p=Aa->J p=ia (.lst (F.map eu))->Wk ss F z w->F.length<=fs.length->(∀e∈F,∃f∈fs,f.2=e)->Q (.tup [.loc p,.int w]) J) :
  Bb T (k+2) tz [Ib xs ss,.loc pf,.int z] G Q X:=by
 have rl:=Hg W _ R.nd R.bd;simp only[Kb,Td,Hb]at rl;refine⟨rfl,?_⟩;simp! only[LH,fc,Qb];refine⟨by decide,λp G1 O=>?_⟩
 simp! only[XI];rw[S_wh];refine⟨λn ς J=>∃(F:List Ent) (y:Int),ς=[ia (Ib xs ss),ia (.loc pf),ia (.int y),ia (.loc p)]/\Sa G J/\J p=ia (.lst (F.map eu))/\Wk ss F z y/\y∈(w:Int)::Kb (fs.take n)/\n<=fs.length/\F.length+n<=fs.length/\∀e∈F,∃f∈fs,f.2=e,
  ⟨fs.length,[],z,rfl,O.sa,O.at,rfl,by rw[ig];exact hz,Fb _,by simp,λ_ h=>(nomatch h)⟩,?_⟩
 rintro n ς G2 ⟨F,y,rfl,s2,gp,wk,hy,hn,hl,hm⟩;have I:=s2 _ _ Z;simp! only[];refine dN I ?_;rcases jQ R.nd hy with⟨rfl,e⟩|⟨j,f,hj,ef,rfl,e⟩
 ·rw[e,if_neg (by decide)]
  simp! only[];exact⟨by decide,q p F G2 s2 O.no gp wk (by lia) hm⟩
 ·obtain⟨h1,h2,h3⟩:=R.en j f ef;rw[e,if_pos (by rfl)]
  simp! only[li gp,YB I e,ii gp];refine⟨by rw[Hb];exact Pg (show F.length<=8 by lia) (by decide),λG3 p3=>?_⟩
  have Y:pf≠p:=λz=>by rw[z,O.no]at Z;cases Z
  have xa:=p3.sm _ _ Y I;simp! only[YB xa e];refine OD h1 ?_;rw[ix_t (Gd _ _ _)];refine⟨j,hj,F++[f.2],eD ss f.2,rfl,λb u hb=>p3.sm _ _ (λz=>by rw[z,O.no]at hb;cases hb) (s2 _ _ hb),by rw[wf];exact p3.at,wk.app ⟨h1,h2,rfl⟩,h3,by lia,by simp;lia,λe he=>?_⟩
  rcases Ma.mp he with z|z
  ·exact hm e z
  ·rw[Fa.mp z];exact⟨f,Hd ef,rfl⟩

def mt_pop     (g:G p=ia (.lst us)):Ef .pop (.loc p) G=ia ("list", "list.pop"):=by unfold Ef;dsimp only;rw[g]
def GE       (g:G p=ia (.lst ((es++[e]).map eu)))(q:∀j,Qg G p (.lst (es.map eu)) j->Q (eu e) j):Ue .pop (.loc p) [] G Q:=by
 dsimp only[Ue];unfold popU;dsimp only;rw[g];dsimp only;have y:((es++[e]).map eu)[((es++[e]).map eu).length-1]?=ia (eu e):=by simp
 have F:((es++[e]).map eu).dropLast=es.map eu:=by simp
 rw[y,F];exact λj h=>q j h
def BD    : atI ((es++[e]).map eu) (-1)=ia (eu e):=by
 refine(Qu eu _ _).trans ?_;unfold atI;rw[show dg (es++[e]).length (-1)=ia es.length by unfold dg;simp;lia]
 simp
def UM     (q:k (decide (e=j))):cmpU .Eq (eu e) (eu j) G k:=by
 refine(?_:eqU (eu e) (eu j) G k);have d:∀x:Ent,DU G (eu x) (.tuple ([(x.1:Int),x.2].map .int)):=λx=>.tup (Ju [(x.1:Int),x.2]);have sm:∀l:List Int,Small (.tuple (l.map .int)):=λl=>⟨(Qj l).1,by show rj (l.map .int)+1<=100;rw[(Qj l).2.1];decide⟩
 refine⟨_,_,d e,d j,sm _,sm _,?_⟩;have:ie (.list ([(e.1:Int),e.2].map .int)) (.list ([(j.1:Int),j.2].map .int))=decide (e=j):=by
  rw[qD,Xj,decide_eq_true_eq,decide_eq_true_eq];constructor
  ·intro h;injection h with h1 h2
   injection h2 with h2 _
   exact Vj (by lia) h2
  ·intro h;rw[h]
 rw[show ie (.tuple ([(e.1:Int),e.2].map .int)) (.tuple ([(j.1:Int),j.2].map .int))=decide (e=j)from this];exact q
def Yt     {kk:Bool->Prop}(g:G a=ia (.lst us)):truU (.loc a) G kk=kk (!us.isEmpty):=by unfold truU;dsimp only;rw[g]
def GM      (g:G a=ia (.lst us)):revU (.loc a) (.int (-1)) G Q=newO G (.lst us.reverse) Q:=by
 unfold revU ud;dsimp only;rw[g];simp
def Tf  (fs:List (Int×Ent))(e:Ent):Prop:=∃f∈fs,f.2=e\/f.2=Mf e
structure CR (ss:List Ab)(fs:List (Int×Ent))(i:Nat)(s:Ab)(ring:List Ent):Prop where
 at':ss[i]?=ia s
 wk:Wk ss ring s.o s.o
 l:ring.length<=1+2*fs.length
 tl:∃r,ring=(i,1)::r/\∀e∈r,Tf fs e
theorem snoc  {j:Type}:∀l:List j,l=[]\/∃r e,l=r++[e]
 |[]=>.inl rfl
 |a::l=>.inr (by
  rcases snoc l with z|⟨r,e,z⟩
  ·exact⟨[],a,by rw[z];rfl⟩
  ·exact⟨a::r,e,by rw[z];rfl⟩)

def LS       (hF:Zf W ss w fs)(w8:W<=8)(gf:G pf=ia (.frk o (Zd fs)))(hs:ss[i]?=ia s)(h1:(s.o:Int)∈(w:Int)::Kb fs)(h2:(s.t:Int)∈(w:Int)::Kb fs)
  (q:∀(F:List Ent) y ,Sa G y->CR ss fs i s F->Q (.tup (F.map eu)) y):Bb T (k+3) NH [Ib xs ss,.loc pf,.int i] G Q X:=by
 have rl:=Hg W _ hF.nd hF.bd;simp only[Kb,Td,Hb]at rl;have il:=(Ea.mp hs).1;refine⟨rfl,?_⟩;simp! only[HH,fc,Qb,Ib,ix_t (Gd _ _ _),ix_t (Qf hs),Ab.u];refine⟨trivial,?_⟩;simp! only[GI];refine QD (xs:=xs) hF w8 gf h2 λpt ts G1 s1 nt g1 wt lt O=>?_;simp! only[];refine⟨trivial,?_⟩;refine QD (xs:=xs) hF w8 (s1 _ _ gf) h1 λpb bs G2 s2 nb g2 J lb mb=>?_;simp! only[HI];refine⟨trivial,?_⟩;rw[S_wh];have xa:pt≠pb:=λz=>by rw[z]at g1;rw[nb]at g1;cases g1
 refine⟨λn ς y=>∃(ts bs:List Ent) (m:Int),ς=[ia (Ib xs ss),ia (.loc pf),ia (.int i),ia (.str s.w),ia (.int s.o),ia (.int s.t),ia (.int s.lo),ia (.int s.hi),ia (.loc pt),ia (.int w),ia (.loc pb),ia (.int w),Aa]/\n=ts.length/\Sa G y/\y pt=ia (.lst (ts.map eu))/\y pb=ia (.lst (bs.map eu))/\Wk ss ts s.t m/\Wk ss bs s.o m/\ts.length<=fs.length/\bs.length<=fs.length/\(∀e∈ts,∃f∈fs,f.2=e)/\∀e∈bs,∃f∈fs,f.2=e,
  ⟨_,ts,bs,w,rfl,rfl,s1.trans s2,s2 _ _ g1,g2,wt,J,lt,lb,O,mb⟩,?_⟩
 have ja:G pb=Aa:=Wu s1 nb;clear s1 g1 wt lt O s2 g2 J lb mb nb;rintro n ς G3 ⟨ts,bs,m,rfl,rfl,s3,gt,gb,wt,J,lt,lb,O,mb⟩;have j:Md T.gs (Bb T (k+2)) Bz ⟨λ_ y=>Q .non y,Q,λx _ y=>X x y⟩ [ia (Ib xs ss),ia (.loc pf),ia (.int i),ia (.str s.w),ia (.int s.o),ia (.int s.t),ia (.int s.lo),ia (.int s.hi),ia (.loc pt),ia (.int w),ia (.loc pb),ia (.int w),Aa] G3:=by
  simp! only[Bz];rw[if_pos (by simp)]
  refine⟨by decide,λph G4 n4=>?_⟩
  simp! only[II];refine⟨by decide,by decide,λp5 G5 Z=>?_⟩
  refine⟨_,_,Z.at,Z.sa _ _ (n4.sa _ _ gt),Lb (show _<=20 by simp;lia) (by decide),λp6 G6 n6=>?_⟩
  refine⟨_,_,n6.at,n6.sa _ _ (Z.sa _ _ n4.at),Lb (show _<=20 by simp;lia) (by decide),λp7 G7 n7=>?_⟩
  have za:=n7.sa _ _ (n6.sa _ _ (Z.sa _ _ (n4.sa _ _ gb)));dsimp only;rw[GM za];intro p8 G8 n8;rw[it_l n8.at];refine⟨Lb (show _<=20 by simp;lia) (by decide),?_⟩
  rw[<- sA];refine Xi (λu=>match u with|.tup [.int a,.int b]=>.tup [.int a,.int (-b)]|u=>u) (by unfold ud;rw[n8.at,sA]) (λu hu K hK=>?_) ?_
  ·obtain⟨e,I,rfl⟩:=Ia.mp hu;simp! only[eu];exact⟨trivial,by decide,hK⟩
  ·intro p9 G9 n9;have e9:[]++(bs.reverse.map eu).map (λu=>match u with|.tup [.int a,.int b]=>.tup [.int a,.int (-b)]|u=>u)=(bs.reverse.map Mf).map eu:=by
    rw[zi,jg,jg];rfl
   rw[e9]at n9;refine⟨_,_,n9.sa _ _ (n8.sa _ _ n7.at),n9.at,Lb (show _<=30 by simp;lia) (by decide),λpa Ga na=>?_⟩
   dsimp only;rw[it_l na.at];have va:[U.tup [.int i,.int 1]]++ts.map eu++[]++(bs.reverse.map Mf).map eu=(((i,1)::(ts++bs.reverse.map Mf)):List Ent).map eu:=by simp[eu]
   rw[va];have wa:Wd ss (i,1):=⟨il,.inl rfl⟩;refine q _ Ga (s3.trans ((((((n4.sa.trans Z.sa).trans n6.sa).trans n7.sa).trans n8.sa).trans n9.sa).trans na.sa)) ⟨hs,⟨wa,eS_1 hs,?_⟩,by simp;lia,_,rfl,λe I=>?_⟩
   ·rw[eD_1 hs];exact wt.app J.rev
   ·rcases Ma.mp I with z|z
    ·obtain⟨f,hf,rfl⟩:=O e z;exact⟨f,hf,.inl rfl⟩
    ·obtain⟨e',ya,rfl⟩:=Ia.mp z;obtain⟨f,hf,rfl⟩:=mb e' (List.mem_reverse.mp ya);exact⟨f,hf,.inr (by simp[Mf])⟩
 simp! only[];rw[Yt gt];rcases snoc ts with rfl|⟨ts',et,rfl⟩
 ·rw[if_neg (by simp)];exact j
 rw[if_pos (by simp),Yt gb]
 rcases snoc bs with rfl|⟨bs',eb,rfl⟩
 ·rw[if_neg (by simp)];exact j
 rw[if_pos (by simp),ix_l gt BD,ix_l gb BD]
 refine UM ?_;by_cases c:et=eb
 ·subst c;rw[if_pos (by simp),mt_pop gt]
  refine GE gt λG4 p4=>?_;have R:=p4.sm _ _ (Ta xa) gb;rw[mt_pop R];refine GE R λG5 p5=>?_;obtain⟨w1,w2,w3⟩:=wt.last;obtain⟨v1,v2,v3⟩:=J.last;refine⟨ts'.length,by simp,ts',bs',eS ss et,trivial,rfl,λb u Y=>p5.sm _ _ (λz=>by rw[z,ja]at Y;cases Y) (p4.sm _ _ (λz=>by rw[z,nt]at Y;cases Y) (s3 _ _ Y)),p5.sm _ _ xa p4.at,p5.at,w1,v1,by simp at lt;lia,by simp at lb;lia,λe I=>O e (Sf _ I),λe I=>mb e (Sf _ I)⟩
 ·rw[if_neg (by simpa using c)];exact j

def vg  (r:List Ent):U:=.tup (r.map eu)

def YU      (hF:Zf W ss w fs)(w8:W<=8)(sl:ss.length<=24)(gf:G pf=ia (.dK (Zd fs)))(hc:yL ss w (Kb fs))(hp:∀x∈ps,x∈(w:Int)::Kb fs)
  (q:∀p (rs:List (List Ent)) o R ,Sm pf G R->G p=Aa->R p=ia (.lst (rs.map vg))->R pf=ia (.frk o (Zd fs))->(∀r∈rs,∃i s,CR ss fs i s r)->(∀i s,ss[i]?=ia s->(s.o:Int)∈ps->(∃f∈fs,f.2.1=i)\/∃r∈rs,CR ss fs i s r)->rs.length<=24->Q (.loc p) R) :
  Bb T (k+4) zH [Ib xs ss,Wc ps,.loc pf] G Q X:=by
 have rl:=Hg W _ hF.nd hF.bd;simp only[Kb,Td,Hb]at rl;refine⟨rfl,?_⟩;simp! only[vH,fc,Qb,QR gf];intro o G1 p1;have ev:Gh (Zd fs)=fs.map λf=>eu f.2:=by unfold Gh Zd;rw[jg];rfl
 refine⟨by rw[ev,Hb];exact Lb (show fs.length<=8 by lia) (by decide),?_⟩
 refine Xi (λu=>match u with|.tup (a::_)=>a|u=>u) p1.at (λu hu K hK=>?_) ?_
 ·rw[ev]at hu;obtain⟨f,hf,rfl⟩:=Ia.mp hu;simp! only[eu];exact⟨trivial,hK⟩
 intro pu G2 n2;have va:[]++(Gh (Zd fs)).map (λu=>match u with|.tup (a::_)=>a|u=>u)=(fs.map λf=>((f.2.1:Nat):Int)).map U.int:=by
  rw[ev,zi,jg,jg];rfl
 rw[va]at n2;simp! only[Ib,ix_t (Gd _ _ _),Hb];refine⟨by lia,by lia,by rw[Xd];exact Lb (show((ss.length:Int)).toNat<=24 by lia) (by decide),?_⟩
 refine cg (λn j R=>R=G2/\∃I:List Nat,j=I.map (λ(i:Nat)=>U.int (i:Int))/\I.length<=n/\(∀i∈I,∃s,ss[i]?=ia s/\(s.o:Int)∈ps)/\∀i s,i<n->ss[i]?=ia s->(s.o:Int)∈ps->(∃f∈fs,f.2.1=i)\/i∈I) ?_ ?_ ⟨rfl,[],rfl,Fb _,λ_ h=>(nomatch h),λi s h=>by lia⟩
 ·rintro j R ⟨rfl,I,rfl,il,h1,h2⟩;rw[Xd]at il h2;refine⟨trivial,λp3 G3 n3=>?_⟩;simp! only[it_l n3.at];refine⟨by rw[Hb];exact Lb (show I.length<=24 by lia) (by decide),?_⟩
  have xa:G3 pf=ia (.frk o (Zd fs)):=n3.sa _ _ (n2.sa _ _ p1.at);refine cg (λn j R=>Sa G3 R/\∃rs:List (List Ent),j=rs.map vg/\rs.length<=n/\(∀r∈rs,∃i s,CR ss fs i s r)/\∀i∈I.take n,∃s,∃r∈rs,CR ss fs i s r) ?_ ?_ ⟨Sa.refl,[],rfl,Fb _,λ_ h=>(nomatch h),λi h=>by simp at h⟩
  ·rintro j G4 ⟨s4,rs,rfl,rl4,c1,c2⟩;rw[Hb]at rl4 c2;rw[ig]at c2;refine⟨by unfold ud;rw[s4 _ _ n3.at],λp5 G5 n5=>?_⟩
   have sm:Sm pf G G4:=λb u hb e=>s4 _ _ (n3.sa _ _ (n2.sa _ _ (p1.sm _ _ hb e)));refine q p5 rs o G5 (λb u hb e=>n5.sa _ _ (sm b u hb e)) ?_ n5.at (n5.sa _ _ (s4 _ _ xa)) c1 (λi s O J=>?_) (by lia)
   ·cases e:G p5 with
    |none=>rfl
    |some u=>
     by_cases z:p5=pf
     ·have:=s4 _ _ xa;rw[<- z,n5.no]at this;cases this
     ·have:=sm _ _ z e;rw[n5.no]at this;cases this
   ·rcases h2 i s (by have:=(Ea.mp O).1;lia) O J with z|z
    ·exact .inl z
    ·obtain⟨Y,r,hr,h⟩:=c2 i z;have:=h.at';rw[O]at this;cases this;exact .inr ⟨r,hr,h⟩
  ·rintro n x j G4 K Z ⟨s4,rs,rfl,rl4,c1,c2⟩ hk _;rw[Dd]at Z;cases ei:I[n]? with
   |none=>rw[ei]at Z;cases Z
   |some i=>
    rw[ei]at Z;cases Z;obtain⟨s,O,J⟩:=h1 i (Hd ei);have ja:=hp _ J;have ht:=hc _ _ ja (.inl (Ia.mpr ⟨s,Hd O,rfl⟩));refine⟨by unfold ud;rw[s4 _ _ n3.at],?_⟩
    simp! only[];refine LS (xs:=xs) hF w8 (s4 _ _ xa) O ja ht λr G5 s5 h5=>hk _ _ ⟨s4.trans s5,rs++[r],by rw[wf];rfl,by simp;lia,λr' za=>?_,λi' y=>?_⟩
    ·rcases Ma.mp za with z|z
     ·exact c1 r' z
     ·rw[Fa.mp z];exact⟨i,s,h5⟩
    ·rw[fg,ei]at y;rcases Ma.mp y with z|z
     ·obtain⟨Y,r',za,h⟩:=c2 i' z;exact⟨Y,r',Sf _ za,h⟩
     ·rw[Fa.mp z];exact⟨s,r,Uf _ (Fa.mpr rfl),h5⟩
 ·rintro n x j R K Z ⟨rfl,I,rfl,il,h1,h2⟩ hk hn;obtain⟨hi,rfl⟩:=Nf Z;obtain⟨s,O⟩:∃s,ss[n]?=ia s:=⟨ss[n]'(by lia),Ic _⟩
  refine⟨trivial,?_⟩;simp! only[ix_t (Gd _ _ _),ix_t (Qf O),Ab.u];refine⟨rfl,Tu _,?_⟩;rw[ku];dsimp only;by_cases c:(s.o:Int)∈ps
  ·rw[if_pos (by rw[decide_eq_true c])]
   refine in_l n2.at rfl (Tu _) ?_;rw[ku];by_cases d:((n:Nat):Int)∈fs.map λf=>((f.2.1:Nat):Int)
   ·rw[if_neg (by rw[decide_eq_true d];decide)]
    refine hn _ ⟨rfl,I,rfl,by lia,h1,λi Y y F J=>?_⟩
    by_cases e:i=n
    ·obtain⟨f,hf,ef⟩:=Ia.mp d;exact .inl ⟨f,hf,by lia⟩
    ·exact h2 i Y (by lia) F J
   ·rw[if_pos (by rw[decide_eq_false d];decide)]
    refine hk _ _ ⟨rfl,I++[n],by simp,by simp;lia,λi y=>?_,λi Y y F J=>?_⟩
    ·rcases Ma.mp y with z|z
     ·exact h1 i z
     ·rw[Fa.mp z];exact⟨s,O,c⟩
    ·by_cases e:i=n
     ·exact .inr (Uf _ (Fa.mpr e))
     ·rcases h2 i Y (by lia) F J with z|z
      ·exact .inl z
      ·exact .inr (Sf _ z)
  ·rw[if_neg (by rw[decide_eq_false c];decide)]
   refine hn _ ⟨rfl,I,rfl,by lia,h1,λi Y y F J=>?_⟩
   by_cases e:i=n
   ·subst e;rw[O]at F;cases F;exact absurd J c
   ·exact h2 i Y (by lia) F J

abbrev Wn:=List (Int×Int)
noncomputable def wu  (w:Int×Int):U:=.tup [.int w.1,.int w.2]
def Oc  (ws:Wn):U:=.tup (ws.map wu)
noncomputable def Pe  (ws:Wn)(e:Ent):Int:=if e.2=1 then (ws.getD e.1 (0,0)).1 else -(ws.getD e.1 (0,0)).2
noncomputable def Qe  (ws:Wn)(e:Ent):Int:=if e.2=1 then (ws.getD e.1 (0,0)).2 else -(ws.getD e.1 (0,0)).1
def Ze  (ws:Wn)(r:List Ent):Int:=(r.map (Pe ws)).sum
def Re  (ws:Wn)(r:List Ent):Int:=(r.map (Qe ws)).sum
def Dh  (P:Int)(ws:Wn)(r:List Ent):Prop:=Re ws r/P*P<Ze ws r
noncomputable instance {P:Int} {ws:Wn} {r:List Ent}:Decidable (Dh P ws r):=inferInstanceAs (Decidable (_<_))
def getW  {ws:Wn}(h:ws[i]?=ia w):ws.getD i (0,0)=w:=by simp[ee,h]
def fC   {l:List Int}(g:G a=ia (.lst (l.map .int))):sumU [.loc a] G Q=Q (.int l.sum) G:=by
 unfold sumU;dsimp only;rw[g];dsimp only;rw[mE]

def NS   (wl:ws.length=ss.length)(j:Wd ss e)(q:Q (.tup [.int (Pe ws e),.int (Qe ws e)]) G):Bb T (k+1) lH [bu,Oc ws,eu e] G Q X:=by
 have F:e.1<ws.length:=by rw[wl];exact j.1
 have y:ws[e.1]?=ia ws[e.1]:=Ic F;refine⟨rfl,?_⟩;simp! only[ZF,fc,Qb,eu,Oc,ix_t (Qf y),wu];refine⟨trivial,trivial,?_⟩;unfold Pe Qe at q;rw[getW y]at q;rcases j.2 with z|z
 ·rw[z,if_pos (by decide)]
  rw[if_pos z,if_pos z]at q;exact⟨by decide,q⟩
 ·rw[z,if_neg (by decide)]
  rw[if_neg (by lia),if_neg (by lia)]at q
  exact⟨by decide,q⟩
def LQ   (wl:ws.length=ss.length)(hr:∀e∈r,Wd ss e)(J:r.length<=30)(q:∀R,Sa G R->Q (.tup [.int (Ze ws r),.int (Re ws r)]) R):Bb T (k+2) rF [Ib xs ss,.int P,bu,Oc ws,vg r] G Q X:=by
 refine⟨rfl,?_⟩;simp! only[CF,fc,Qb,vg];refine⟨by rw[Hb];exact Lb J (by decide),?_⟩
 refine Xi (λu=>match u with|.tup [.int a,.int b]=>.tup [.int (Pe ws (a.toNat,b)),.int (Qe ws (a.toNat,b))]|u=>u) trivial (λu hu K y=>?_) ?_
 ·obtain⟨e,O,rfl⟩:=Ia.mp hu;simp! only[];exact NS wl (hr e O) y
 intro p1 G1 j;have Z:[]++(r.map eu).map (λu=>match u with|.tup [.int a,.int b]=>U.tup [.int (Pe ws (a.toNat,b)),.int (Qe ws (a.toNat,b))]|u=>u)=r.map λe=>U.tup [.int (Pe ws e),.int (Qe ws e)]:=by
  rw[zi,jg];rfl
 rw[Z]at j;simp! only[it_l j.at];refine⟨by rw[Hb];exact Lb J (by decide),?_⟩
 refine Xi (λu=>match u with|.tup [a,_]=>a|u=>u) (by unfold ud;rw[j.at]) (λu hu K y=>?_) ?_
 ·obtain⟨e,O,rfl⟩:=Ia.mp hu;simp! only[];exact⟨trivial,y⟩
 intro p2 G2 F;have t1:[]++(r.map λe=>U.tup [.int (Pe ws e),.int (Qe ws e)]).map (λu=>match u with|.tup [a,_]=>a|u=>u)=(r.map (Pe ws)).map .int:=by
  rw[zi,jg,jg];rfl
 rw[t1]at F;rw[fC F.at,it_l (F.sa _ _ j.at)];refine⟨by rw[Hb];exact Lb J (by decide),?_⟩
 refine Xi (λu=>match u with|.tup [_,b]=>b|u=>u) (by unfold ud;rw[F.sa _ _ j.at]) (λu hu K y=>?_) ?_
 ·obtain⟨e,O,rfl⟩:=Ia.mp hu;simp! only[];exact⟨trivial,y⟩
 intro p3 Y I;have t2:[]++(r.map λe=>U.tup [.int (Pe ws e),.int (Qe ws e)]).map (λu=>match u with|.tup [_,b]=>b|u=>u)=(r.map (Qe ws)).map .int:=by
  rw[zi,jg,jg];rfl
 rw[t2]at I;rw[fC I.at];exact⟨by decide,q Y ((j.sa.trans F.sa).trans I.sa)⟩
def FR   (wl:ws.length=ss.length)(hr:∀e∈r,Wd ss e)(F:r.length<=30)(J:1<=P)(I:P<=600)(q:∀j,Sa G j->Q (.bl (decide (Dh P ws r))) j):Bb T (k+3) tG [Ib xs ss,.int P,bu,Oc ws,vg r] G Q X:=by
 refine⟨rfl,?_⟩;simp! only[nG,fc,Qb];refine LQ wl hr F λy s1=>?_;simp! only[];exact⟨trivial,by lia,by lia,.inr (by constructor<;>lia),q y s1⟩

noncomputable def eL  (L:List Int)(e:Ent):Int:=e.2*L.getD e.1 0
def sumL  (L:List Int)(r:List Ent):Int:=(r.map (eL L)).sum
def eL_1    (h:e.2=1):eL L e=L.getD e.1 0:=by unfold eL;rw[h];lia
def eL_m    (h:e.2=-1):eL L e=-L.getD e.1 0:=by unfold eL;rw[h];lia
def dQ   L e:eL L (Mf e)=-eL L e:=by unfold eL Mf;simp[Int.neg_mul]
def tD  {L:List Int}(h:L[i]?=ia x):L.getD i 0=x:=by simp[ee,h]
structure Wi (L:List Int)(ws:Wn):Prop where
 l:L.length=ws.length
 b:∀(i:Nat) (w:Int×Int),ws[i]?=ia w->w.1<=L.getD i 0/\L.getD i 0<=w.2
def Wi.ent     (h:Wi L ws)(wl:ws.length=ss.length)(j:Wd ss e):Pe ws e<=eL L e/\eL L e<=Qe ws e:=by
 have y:ws[e.1]?=ia (ws[e.1]'(by rw[wl];exact j.1)):=Ic _
 have:=h.b _ _ y;unfold Pe Qe;rw[getW y];rcases j.2 with z|z
 ·rw[if_pos z,if_pos z,eL_1 z];exact this
 ·rw[if_neg (by lia),if_neg (by lia),eL_m z];lia
theorem Wi.sum     (h:Wi L ws)(wl:ws.length=ss.length):∀{r },(∀e∈r,Wd ss e)->Ze ws r<=sumL L r/\sumL L r<=Re ws r
 |[],_=>by simp[Ze,Re,sumL]
 |e::r,hr=>by
  have O:=h.ent wl (hr e Cf);have J:=Wi.sum h wl (r:=r) λx y=>hr x (Uc _ y);have j:Ze ws (e::r)=Pe ws e+Ze ws r:=by simp[Ze]
  have F:Re ws (e::r)=Qe ws e+Re ws r:=by simp[Re]
  have I:sumL L (e::r)=eL L e+sumL L r:=by simp[sumL]
  rw[j,F,I];lia
noncomputable def bt  (bs:List Int)(x:Int):Int:=bs.getD x.toNat 0
def Fl  {bs:List Int}{x:Int}(h0:0<=x)(F:x<bs.length):atI (bs.map U.int) x=ia (.int (bt bs x)):=by
 obtain⟨j,rfl⟩:=Cg h0;have y:j<bs.length:=by lia
 have:bs[j]?=ia (bt bs (j:Int)):=by unfold bt;simp[ee,y]
 exact Qf this
def Jx    (h0:0<=x)(F:x<bs.length)(j:0<=y):bt (bs.set x.toNat v) y=if y=x then v else bt bs y:=by
 unfold bt;by_cases e:y=x
 ·subst e;rw[if_pos rfl];simp[ee,show y.toNat<bs.length by lia]
 ·rw[if_neg e];simp only[ee];rw[Ah (by lia)]
def Kp  (ss:List Ab)(L:List Int)(P:Int)(bs:List Int)(e:Ent):Prop:=P ∣ bt bs (eS ss e)+eL L e-bt bs (eD ss e)
def Lu  (ss:List Ab)(G:Gp)(j:U)(L:List Int):Prop:=L.length=ss.length/\((∃p,j=.loc p/\G p=ia (.lst (L.map .int)))\/j=Wc L)
def Lu.sa      (h:Lu ss G y L)(s:Sa G G'):Lu ss G' y L:=by
 obtain⟨j,⟨p,e,g⟩|F⟩:=h
 ·exact⟨j,.inl ⟨p,e,s _ _ g⟩⟩
 ·exact⟨j,.inr F⟩
def Lu.ix        (h:Lu ss G y L)(F:Wd ss e)(q:Q (.int (L.getD e.1 0)) G):bf y (.int e.1) G Q:=by
 have I:e.1<L.length:=by rw[h.1];exact F.1
 have j:L[e.1]?=ia (L.getD e.1 0):=by simp[ee,I]
 rcases h.2 with⟨p,rfl,g⟩|rfl
 ·rw[ix_l g (Qf j)];exact q
 ·rw[show Wc L=.tup (L.map .int)from rfl,ix_t (Qf j)];exact q

def KS       (O:Zf W ss w fs)(w8:W<=8)(za:Lu ss G lu L)(p1:1<=P)(p2:P<=600)(bl:bs.length=W)(bb:∀b∈bs,0<=b/\b<P)(gf:G pf=ia (.frk o (Zd fs)))
  (q:∀(F:List Int) G' ,Sa G G'->F.length=W->(∀b∈F,0<=b/\b<P)->(∀x,0<=x->x∉Kb fs->bt F x=bt bs x)->(∀f∈fs,Kp ss L P F f.2)->Q (Wc F) G') :
  Bb T (k+2) JG [Ib xs ss,.int P,Wc bs,.loc pf,lu] G Q X:=by
 have rl:=Hg W _ O.nd O.bd;simp only[Kb,Td,Hb]at rl;refine⟨rfl,?_⟩;simp! only[eH,fc,Qb,Wc];intro Z G1 n1;simp! only[wD (n1.sa _ _ gf)];have ei:Oj (Zd fs)=fs.map λf=>U.tup [.int f.1,eu f.2]:=by unfold Oj Zd;rw[jg];rfl
 rw[ei];have xb:pf≠Z:=λz=>by rw[z,n1.no]at gf;cases gf
 refine Te (λj ς G'=>∃(F:List Int) (o6 o7 o8 o9:Option U),ς=[ia (Ib xs ss),ia (.int P),ia (.tup (bs.map .int)),ia (.loc pf),ia lu,ia (.loc Z),o6,o7,o8,o9]/\Sa G G'/\G' Z=ia (.lst (F.map .int))/\F.length=W/\(∀b∈F,0<=b/\b<P)/\(∀x,0<=x->x∉Kb (fs.take j)->bt F x=bt bs x)/\∀i f,i<j->fs[i]?=ia f->Kp ss L P F f.2) ?_ ?_
  ⟨bs,_,_,_,_,rfl,n1.sa,n1.at,bl,bb,λ_ _ _=>rfl,λi f h=>by lia⟩
 ·rintro ς G2 ⟨F,o6,o7,o8,o9,rfl,s2,g2,l2,b2,k2,h2⟩;rw[Hb]at k2 h2;rw[ig]at k2;refine⟨s2 _ _ gf,?_⟩;simp! only[it_l g2];exact q F G2 s2 l2 b2 k2 λf hf=>by
   obtain⟨i,hi,e⟩:=Zg hf;exact h2 i f hi (by rw[Ic hi,e])
 ·rintro j u ς G2 K hu ⟨F,o6,o7,o8,o9,rfl,s2,g2,l2,b2,k2,h2⟩ hk;rw[Dd]at hu;cases R:fs[j]? with
  |none=>rw[R]at hu;cases hu
  |some f=>
   rw[R]at hu;cases hu;obtain⟨h1,hS,hD⟩:=O.en j f R;have bx:=O.bd f.1 (Uc _ (Nn R));have bD:=O.bd _ (rD hD);have nd:=Ra.mp O.nd;have new:∀y,y∈(w:Int)::Kb (fs.take j)->y≠f.1:=λy Y z=>by
    rcases ic.mp Y with z'|z'
    ·exact nd.1 (by rw[<- z',z];exact Nn R)
    ·obtain⟨i,f',hi,I,e'⟩:=Rl z';have a1:(Kb fs)[i]?=ia f.1:=by unfold Kb;rw[Dd,I,aB,e',z]
     have a2:(Kb fs)[j]?=ia f.1:=by unfold Kb;rw[Dd,R];rfl
     have:=(MA (Ea.mp a1).1 nd.2).mp (a1.trans a2.symm)
     lia
   refine⟨s2 _ _ gf,?_⟩;simp! only[eu];refine⟨trivial,trivial,by decide,?_⟩
   refine OD (e:=f.2) h1 ?_;rw[ix_t (Gd _ _ _)];simp! only[ix_l g2 (Fl bD.1 (show eD ss f.2<(F.length:Int) by omega))]
   refine(za.sa s2).ix h1 ?_;refine⟨.inl (by rcases h1.2 with z|z<;>rw[z]<;>constructor<;>lia),by lia,?_⟩
   obtain⟨xn,wa⟩:=Cg bx.1;rw[wa,yx g2 (ny (by rw[Hb];lia))]
   intro G3 p3;obtain⟨v,hv⟩:∃v,v=(bt F (eD ss f.2)-f.2.2*L.getD f.2.1 0)%P:=⟨_,rfl⟩;have v0:0<=v:=by rw[hv];exact xh _ (by lia)
   have v1:v<P:=by rw[hv];exact Ai _ (by lia)
   rw[<- hv,<- Xz]at p3;have J:∀y,0<=y->bt (F.set xn v) y=if y=f.1 then v else bt F y:=λy Y=>by
    have:=Jx (bs:=F) (v:=v) (y:=y) bx.1 (by lia) Y
    rw[show f.1.toNat=xn by lia]at this
    exact this
   refine hk _ _ ⟨F.set xn v,_,_,_,_,rfl,λb u' hb=>p3.sm _ _ (λz=>by rw[z,n1.no]at hb;cases hb) (s2 _ _ hb),p3.at,by simp[l2],λb hb=>?_,λy Y hn=>?_,λi f' hi I=>?_⟩
   ·rcases QK hb with z|z
    ·exact b2 b z
    ·rw[z];exact⟨v0,v1⟩
   ·rw[fg,R]at hn;have ja:y∉Kb (fs.take j):=λz=>hn (by simp[Kb]at z ⊢;exact .inl z)
    have ka:y≠f.1:=λz=>hn (by simp[Kb,z])
    rw[J y Y,if_neg ka,k2 y Y ja]
   ·by_cases e:i=j
    ·subst e;rw[R]at I;cases I;unfold Kp;rw[hS,J _ bx.1,if_pos rfl,J _ bD.1,if_neg (new _ hD)];refine⟨-((bt F (eD ss f.2)-f.2.2*L.getD f.2.1 0)/P),?_⟩;have:=iw (bt F (eD ss f.2)-f.2.2*L.getD f.2.1 0) P;rw[<- hv]at this;unfold eL;rw[Yz]
     lia
    ·have xa:i<j:=by lia
     obtain⟨o1,oS,oD⟩:=O.en i f' I;have ha:=O.bd f'.1 (Uc _ (Nn I));have va:=O.bd _ (rD oD);have ya:∀y,y∈(w:Int)::Kb (fs.take i)->y∈(w:Int)::Kb (fs.take j):=λy Y=>by
      rcases ic.mp Y with z|z
      ·rw[z];simp
      ·obtain⟨i2,f2,zb,e2,e3⟩:=Rl z;refine Uc _ (Ia.mpr ⟨f2,?_,e3⟩);exact Hd (i:=i2) (by rw[Hr,if_pos (by lia)];exact e2)
     have mS:f'.1∈(w:Int)::Kb (fs.take j):=by
      refine Uc _ (Ia.mpr ⟨f',?_,rfl⟩);exact Hd (i:=i) (by rw[Hr,if_pos xa];exact I)
     have:=h2 i f' xa I;unfold Kp at this ⊢;rw[oS]at this ⊢;rw[J _ ha.1,if_neg (new _ mS),J _ va.1,if_neg (new _ (ya _ oD))];exact this

section
variable {ss:List Ab}{L:List Int}{P:Int}{bs:List Int}
theorem Iw  : ∀{r } {a b },(∀e∈r,Kp ss L P bs e)->Wk ss r a b->P ∣ bt bs a+sumL L r-bt bs b
 |[],a,b,_,h=>by
  rw[show a=b from h];exact⟨0,by simp[sumL]⟩
 |e::r,a,b,hk,⟨_,h2,h3⟩=>by
  have J:=hk e Cf;have F:=Iw (λI O=>hk I (Uc _ O)) h3;have:=Int.dvd_add J F;rw[h2]at this;have y:sumL L (e::r)=eL L e+sumL L r:=by simp[sumL]
  rw[y];have j:bt bs a+eL L e-bt bs (eD ss e)+(bt bs (eD ss e)+sumL L r-bt bs b)=bt bs a+(eL L e+sumL L r)-bt bs b:=by lia
  rw[j]at this;exact this
def Kp.flip   (h:Kp ss L P bs e)(F:Wd ss e):Kp ss L P bs (Mf e):=by
 obtain⟨_,j,y⟩:=F.flip;unfold Kp at h ⊢;rw[j,y,dQ];have:=Int.dvd_neg.mpr h;rw[show -(bt bs (eS ss e)+eL L e-bt bs (eD ss e))=bt bs (eD ss e) + -eL L e-bt bs (eS ss e) by lia]at this
 exact this
def RT   e:Mf (Mf e)=e:=by unfold Mf;simp
def Tf.kp    (h:Tf fs e)(y:Wd ss e)(hk:∀f∈fs,Kp ss L P bs f.2):Kp ss L P bs e:=by
 obtain⟨f,j,z|z⟩:=h
 ·rw[<- z];exact hk f j
 ·have:=hk f j;rw[z]at this;have:=this.flip y.flip.1;rw[RT]at this;exact this
def uV    (hk:∀i,i<ss.length->Kp ss L P bs (i,1))(j:Wk ss r a a):P ∣ sumL L r:=by
 have all:∀e∈r,Kp ss L P bs e:=λe F=>?_
 ·have:=Iw all j;rw[show bt bs a+sumL L r-bt bs a=sumL L r by lia]at this
  exact this
 ·have ok:=j.all e F;have y:=hk e.1 ok.1;rcases ok.2 with z|z
  ·rw[show e=(e.1,1)from Vj rfl z];exact y
  ·have:=y.flip (e:=(e.1,1)) ⟨ok.1,.inl rfl⟩;rw[show Mf (e.1,1)=e from Vj rfl (by simp[Mf,z])]at this
   exact this
end
def GT  {p:List Int}(h:p≠[]):p.headD 0∈p:=by
 cases p with
 |nil=>exact absurd rfl h
 |cons a r=>simp
def Ee.apart     (h:Ee W es ps)(F:ps[n]?=ia p)(j:I∈ps.take n)(Y:x∈p)(R:x∈I):False:=by
 have e:=h.un p (Hd F) I (Em j) x Y R;subst e;obtain⟨i,J,y⟩:=Zg j;rw[kj]at J;rw[sK]at y;have O:ps[i]?=ia p:=by rw[Ic (by lia),y]
 have:=(MA (by lia) h.nd).mp (O.trans F.symm)
 lia

def Kw  (ss:List Ab)(P:Int)(ws:Wn)(b:List Int)(i:Nat):Prop:=∃l,(ws.getD i (0,0)).1<=l/\l<=(ws.getD i (0,0)).2/\P ∣ bt b (eS ss (i,1))+l-bt b (eD ss (i,1))
inductive Cs (ss:List Ab)(P:Int):Nat->Nat->Wn->U->Prop
 |ring {n:Nat} {ws:Wn} {r:List Ent} {a:Int}:Wk ss r a a->r≠[]->r.length<=30->Dh P ws r->Cs ss P n 1 ws (.tup [.str "ring",vg r])
 |split {n m1 m2:Nat} {ws:Wn} {s:Nat} {l h cut:Int} {c1 c2:U}:ws[s]?=ia (l,h)->l<=cut->cut<h->Cs ss P n m1 (ws.set s (l,cut)) c1->Cs ss P n m2 (ws.set s (cut+1,h)) c2->Cs ss P (n+1) (m1+m2+1) ws (.tup [.str "split",.int s,.int cut,c1,c2])
section
variable {ss:List Ab}{P:Int}{ws:Wn}{b:List Int}
def yN  (wl:ws.length=ss.length)(h:∀i,i<ss.length->Kw ss P ws b i):∃L,Wi L ws/\∀i,i<ss.length->Kp ss L P b (i,1):=by
 have I:∀i,∃l,i<ss.length->(ws.getD i (0,0)).1<=l/\l<=(ws.getD i (0,0)).2/\P ∣ bt b (eS ss (i,1))+l-bt b (eD ss (i,1)):=λi=>by
  by_cases j:i<ss.length
  ·obtain⟨l,J⟩:=h i j;exact⟨l,λ_=>J⟩
  ·exact⟨0,λz=>absurd z j⟩
 obtain⟨f,y⟩:∃f:Nat->Int,∀i,i<ss.length->(ws.getD i (0,0)).1<=f i/\f i<=(ws.getD i (0,0)).2/\P ∣ bt b (eS ss (i,1))+f i-bt b (eD ss (i,1)):=⟨λi=>Classical.choose (I i),λi=>Classical.choose_spec (I i)⟩;have F:∀i,i<ss.length->((md ss.length).map f).getD i 0=f i:=λi j=>by simp[ee,j]
 refine⟨(md ss.length).map f,⟨by simp[wl],λi w e=>?_⟩,λi j=>?_⟩
 ·have j:i<ss.length:=by rw[<- wl];exact(Ea.mp e).1
  have:=y i j;rw[F i j];rw[getW e]at this;exact⟨this.1,this.2.1⟩
 ·unfold Kp;rw[eL_1 rfl,F i j];exact(y i j).2.2
def Wi.set     (h:Wi L ws)(I:w.1<=L.getD s 0)(F:L.getD s 0<=w.2):Wi L (ws.set s w):=by
 refine⟨by rw[Mh];exact h.l,λi j e=>?_⟩
 by_cases c:i=s
 ·subst c;have y:i<ws.length:=by
   have:=(Ea.mp e).1
   rwa [Mh]at this
  rw[Fi y]at e;cases e;exact⟨I,F⟩
 ·rw[Ah (λz=>c z.symm)]at e;exact h.b i j e
def Cs.no     (h:Cs ss P n m ws c)(p1:1<=P):ws.length=ss.length->∀L,Wi L ws->(∀i,i<ss.length->Kp ss L P b (i,1))->False:=by
 induction h with
 |@ring n ws r a I _ _ R=>
  intro wl L j hk;have s:=j.sum wl I.all;obtain⟨q,O⟩:=uV hk I;unfold Dh at R;have:q<=Re ws r/P:=Int.le_ediv_of_mul_le (by lia) (by rw[Do,<- O];exact s.2)
  have:=Ur this (show 0<=P by lia)
  rw[Do q P]at this
  lia
 |@split n m1 Z ws s l h cut c1 c2 J h1 Y _ _ F y=>
  intro wl L j hk;have b:=j.b s _ J;by_cases c:L.getD s 0<=cut
  ·exact F (by rw[Mh];exact wl) L (j.set b.1 c) hk
  ·exact y (by rw[Mh];exact wl) L (j.set (by show cut+1<=_;lia) b.2) hk
def wU   r:Ud 2 (vg r):=Ud.tup λu hu=>by
 obtain⟨e,_,rfl⟩:=Ia.mp hu;exact Ud.tup λv j=>by
  simp only[ic,Ve,or_false]at j;rcases j with rfl|rfl<;>exact Ud.int _
def Cs.sml     (h:Cs ss P n m ws c):Ud (n+3) c:=by
 induction h with
 |@ring n ws r a _ _ _ _=>
  refine(Ud.tup (n:=2) λu hu=>?_).mono (by lia)
  simp only[ic,Ve,or_false]at hu;rcases hu with rfl|rfl
  ·exact(Ud.str (by decide +kernel)).mono (by decide)
  ·exact wU r
 |@split n I F ws s l h cut c1 c2 _ _ _ _ _ y j=>
  refine(Ud.tup (n:=n+3) λu hu=>?_).mono (by lia)
  simp only[ic,Ve,or_false]at hu;rcases hu with rfl|rfl|rfl|rfl|rfl
  ·exact(Ud.str (by decide +kernel)).mono (by lia)
  ·exact(Ud.int _).mono (by lia)
  ·exact(Ud.int _).mono (by lia)
  ·exact y
  ·exact j
structure Tm (P:Int)(fs:List (Int×Ent))(rs:List (List Ent))(ws ws':Wn):Prop where
 l:ws'.length=ws.length
 sub:∀(i:Nat) (w w':Int×Int),ws[i]?=ia w->ws'[i]?=ia w'->w.1<=w'.1/\w'.1<=w'.2/\w'.2<=w.2
 pt:∀f∈fs,∀w',ws'[f.2.1]?=ia w'->w'.1=w'.2
 nb:∀r∈rs,¬Dh P ws' r
def Tm.kw       (h:Tm P fs rs ws j)(wl:ws.length=ss.length)(p1:1<=P)(hk:∀f∈fs,Wd ss f.2/\Kp ss (j.map (·.1)) P b f.2)(J:ss[i]?=ia s)
  (hr:(∃f∈fs,f.2.1=i)\/∃r∈rs,CR ss fs i s r):Kw ss P ws b i:=by
 have il:=(Ea.mp J).1;have ew:ws[i]?=ia (ws[i]'(by lia)):=Ic _
 have y:j[i]?=ia (j[i]'(by rw[h.l];lia)):=Ic _
 generalize ws[i]'(by lia)=w at ew
 generalize j[i]'(by rw[h.l];lia)=w' at y
 have sb:=h.sub i w w' ew y;have lw:(j.map (·.1)).getD i 0=w'.1:=tD (by rw[Dd,y];rfl)
 unfold Kw;rw[getW ew];rcases hr with⟨f,I,rfl⟩|⟨r,hr,cr⟩
 ·obtain⟨ok,kf⟩:=hk f I;have R:Kp ss (j.map (·.1)) P b (f.2.1,1):=by
   rcases ok.2 with z|z
   ·rw[show(f.2.1,(1:Int))=f.2 from Vj rfl z.symm];exact kf
   ·have:=kf.flip ok;rw[show Mf f.2=(f.2.1,1)from Vj rfl (by simp[Mf,z])]at this
    exact this
  unfold Kp at R;rw[eL_1 rfl,lw]at R;exact⟨w'.1,sb.1,by lia,R⟩
 ·have nb:=h.nb r hr;obtain⟨F,rfl,ht⟩:=cr.tl;obtain⟨_,_,Y⟩:=cr.wk;have t:=Iw (λe he=>(ht e he).kp (Y.all e he) λf I=>(hk f I).2) Y;have xa:∀r:List Ent,(∀e∈r,Tf fs e)->(∀e∈r,Wd ss e)->Ze j r=sumL (j.map (·.1)) r/\Re j r=sumL (j.map (·.1)) r:=λr=>by
   induction r with
   |nil=>intros;exact⟨rfl,rfl⟩
   |cons e r ih=>
    intro h1 h2;obtain⟨i1,i2⟩:=ih (λx Z=>h1 x (Uc _ Z)) λx Z=>h2 x (Uc _ Z);obtain⟨f,I,z⟩:=h1 e Cf;have ok:=h2 e Cf;have ef:f.2.1=e.1:=by rcases z with z|z<;>rw[z]<;>rfl
    have O:j[e.1]?=ia (j[e.1]'(by rw[h.l,wl];exact ok.1)):=Ic _
    generalize j[e.1]'(by rw[h.l,wl];exact ok.1)=v at O
    have pv:=h.pt f I v (by rw[ef];exact O)
    have lv:(j.map (·.1)).getD e.1 0=v.1:=tD (by rw[Dd,O];rfl)
    have one:Pe j e=eL (j.map (·.1)) e/\Qe j e=eL (j.map (·.1)) e:=by
     unfold Pe Qe;rw[getW O];rcases ok.2 with z|z
     ·rw[if_pos z,if_pos z,eL_1 z,lv];lia
     ·rw[if_neg (by lia),if_neg (by lia),eL_m z,lv];lia
    have a1:Ze j (e::r)=Pe j e+Ze j r:=by simp[Ze]
    have a2:Re j (e::r)=Qe j e+Re j r:=by simp[Re]
    have a3:sumL (j.map (·.1)) (e::r)=eL (j.map (·.1)) e+sumL (j.map (·.1)) r:=by simp[sumL]
    rw[a1,a2,a3,one.1,one.2,i1,i2];exact⟨rfl,rfl⟩
  obtain⟨q1,q2⟩:=xa F ht Y.all;generalize sumL (j.map (·.1)) F=S at t q1 q2;have b1:Ze j ((i,1)::F)=w'.1+S:=by
   have a1:Ze j ((i,1)::F)=Pe j (i,1)+Ze j F:=by simp[Ze]
   rw[a1,q1];unfold Pe;rw[if_pos rfl,getW y]
  have b2:Re j ((i,1)::F)=w'.2+S:=by
   have a2:Re j ((i,1)::F)=Qe j (i,1)+Re j F:=by simp[Re]
   rw[a2,q2];unfold Qe;rw[if_pos rfl,getW y]
  unfold Dh at nb;rw[b1,b2]at nb;have m1:=Int.ediv_mul_le (w'.2+S) (show P≠0 by lia)
  rw[eD_1 J]at t;refine⟨(w'.2+S)/P*P-S,by lia,by lia,?_⟩
  rw[eS_1 J,eD_1 J];have d1:P ∣ (w'.2+S)/P*P:=⟨(w'.2+S)/P,Do _ _⟩;have:=Int.dvd_sub d1 t;rw[show(w'.2+S)/P*P-(bt b s.t+S-bt b s.o)=bt b s.o+((w'.2+S)/P*P-S)-bt b s.t by lia]at this
  exact this
end


def MQ   (Y:F=ws)(q0:(∀w∈ws,w.1<=w.2)->Q .non G)(q1:∀(i:Nat) (w:Int×Int),ws[i]?=ia w->w.2<w.1->Q (.int i) G):Bb T (k+1) mH [Oc F] G Q X:=by
 subst Y;refine⟨rfl,?_⟩;simp! only[aG,fc,Qb,Oc];refine Te (λi I R=>∃o1 o2 o3:Option U,I=[ia (Oc F),o1,o2,o3]/\R=G/\∀j w,j<i->F[j]?=ia w->w.1<=w.2) ?_ ?_ ⟨_,_,_,rfl,rfl,λj w h=>by lia⟩
 ·rintro I R ⟨o1,o2,o3,rfl,rfl,h⟩;rw[Su,Hb]at h;refine⟨trivial,?_⟩;simp! only[];exact q0 λw Y=>by
   obtain⟨j,O,e⟩:=Zg Y;exact h j w O (by rw[Ic O,e])
 ·rintro i x I R K Z ⟨o1,o2,o3,rfl,rfl,h⟩ hk;obtain⟨u,hu,rfl⟩:=Ru Z;rw[Dd]at hu;cases y:F[i]? with
  |none=>rw[y]at hu;cases hu
  |some w=>
   rw[y]at hu;have hu:=(Nd hu).symm;subst hu;refine⟨trivial,?_⟩;simp! only[wu];refine⟨trivial,trivial,?_⟩;by_cases c:w.2<w.1
   ·rw[if_pos (by simpa using c)]
    rw[show((0+i:Nat):Int)=(i:Int) by lia]
    exact q1 i w y c
   ·rw[if_neg (by simpa using c)]
    refine hk _ _ ⟨_,_,_,rfl,rfl,λj w' O J=>?_⟩;by_cases e:j=i
    ·subst e;rw[y]at J;cases J
     lia
    ·exact h j w' (by lia) J
def NQ     (Y:G pf=ia (.frk o (Zd fs)))(wl:ws.length=ss.length)(hf:∀f∈fs,Wd ss f.2)(q0:(∀f∈fs,∀w,ws[f.2.1]?=ia w->¬w.1<w.2)->Q .non G)
  (q1:∀f∈fs,∀w,ws[f.2.1]?=ia w->w.1<w.2->Q (.int f.2.1) G):Bb T (k+1) nH [.loc pf,Oc ws] G Q X:=by
 refine⟨rfl,?_⟩;simp! only[bG,fc,Qb,wD Y];have ev:Gh (Zd fs)=fs.map λf=>eu f.2:=by unfold Gh Zd;rw[jg];rfl
 rw[ev];refine Te (λi O R=>∃o2 o3 o4 o5:Option U,O=[ia (.loc pf),ia (Oc ws),o2,o3,o4,o5]/\R=G/\∀f∈fs.take i,∀w,ws[f.2.1]?=ia w->¬w.1<w.2) ?_ ?_ ⟨_,_,_,_,rfl,rfl,λf h=>by simp at h⟩
 ·rintro O R ⟨o2,o3,o4,o5,rfl,rfl,h⟩;rw[Hb,ig]at h;refine⟨Y,?_⟩;simp! only[];exact q0 h
 ·rintro i x O R K F ⟨o2,o3,o4,o5,rfl,rfl,h⟩ hk;rw[Dd]at F;cases J:fs[i]? with
  |none=>rw[J]at F;cases F
  |some f=>
   rw[J]at F;cases F;have Z:=Hd J;have il:f.2.1<ws.length:=by rw[wl];exact(hf f Z).1
   have I:ws[f.2.1]?=ia ws[f.2.1]:=Ic il;generalize ws[f.2.1]=w at I;refine⟨Y,?_⟩;simp! only[eu,Oc,ix_t (Qf I),wu];refine⟨trivial,trivial,?_⟩;by_cases c:w.1<w.2
   ·rw[if_pos (by simpa using c)]
    exact q1 f Z w I c
   ·rw[if_neg (by simpa using c)]
    refine hk _ _ ⟨_,_,_,_,rfl,rfl,λf' y w' j=>?_⟩;rw[fg,J]at y;rcases Ma.mp y with z|z
    ·exact h f' z w' j
    ·rw[Fa.mp z,I]at j;cases j;exact c
def SD  {s:Nat}(hs:s<ws.length)(wl:ws.length<=24)(q:Q (Oc (ws.set s w)) G):Bb T (k+1) yz [Oc ws,.int s,wu w] G Q X:=by
 refine⟨rfl,?_⟩;simp! only[GG,fc,Qb,Oc];have y:cut (ws.map wu) Aa (ia (s:Int))=(ws.take s).map wu:=by rw[Gn,Ar]
 have j:cut (ws.map wu) (ia ((s:Int)+1)) Aa=(ws.drop (s+1)).map wu:=by
  have:=eE (ws.map wu) (s+1);rw[List.map_drop];exact this
 rw[y,j];refine⟨by decide,Lb (show _<=30 by simp;lia) (by decide),Lb (show _<=60 by simp;lia) (by decide),?_⟩
 have F:(ws.take s).map wu++[wu w]++(ws.drop (s+1)).map wu=(ws.set s w).map wu:=by
  rw[jL,if_pos hs];simp
 rw[F];exact q
def aV  {s:Nat}(hs:ws[s]?=ia w)(wl:ws.length<=24)(q:Q (.tup [.int ((w.1+w.2)/2),.tup [Oc (ws.set s (w.1,(w.1+w.2)/2)),Oc (ws.set s ((w.1+w.2)/2+1,w.2))]]) G):Bb T (k+2) bF [Oc ws,.int s] G Q X:=by
 have j:=(Ea.mp hs).1;refine⟨rfl,?_⟩;simp! only[fE,fc,Qb,Oc,ix_t (Qf hs)];show Yc _ (.tup [.int w.1,.int w.2]) _ _;simp! only[];refine⟨trivial,by decide,by decide,by decide,?_⟩
 refine SD (ws:=ws) (w:=(w.1,(w.1+w.2)/2)) j wl ?_
 simp! only[];refine⟨by decide,?_⟩
 refine SD (ws:=ws) (w:=((w.1+w.2)/2+1,w.2)) j wl ?_
 exact⟨by decide,by decide,q⟩

def Tm.of        (hs:ws[s]?=ia w)(e:j=ws.set s v)(R:w.1<=v.1)(O:v.2<=w.2)(h:Tm P fs rs j y):Tm P fs rs ws y:=by
 subst e;have J:=(Ea.mp hs).1;refine⟨by rw[h.l,Mh],λi a b F I=>?_,h.pt,h.nb⟩
 by_cases c:i=s
 ·subst c;rw[hs]at F;cases F;have:=h.sub i v b (Fi J) I
  lia
 ·exact h.sub i a b (by rw[Ah (λz=>c z.symm)];exact F) I
def pS   n:(2:Int) ^ (n+1)=2*2 ^ n:=by rw[Int.pow_succ,Do]
def nP  {l h:Int}(y:l<h)(j:h-l<2 ^ n):∃m,n=m+1/\(l+h)/2-l<2 ^ m/\h-((l+h)/2+1)<2 ^ m:=by
 cases n with
 |zero=>exact absurd j (by have:(2:Int) ^ 0=1:=rfl;lia)
 |succ m=>
  refine⟨m,rfl,?_⟩;rw[pS]at j;generalize (2:Int) ^ m=x at j
  lia
noncomputable def Ij  (e:Nat->Nat)(s m i:Nat):Nat:=if i=s then m else e i
theorem JE    (I:e s=m+1):∀{fs:List (Int×Ent)},(fs.map λf=>Ij e s m f.2.1).sum<=(fs.map λf=>e f.2.1).sum/\((∃f∈fs,f.2.1=s)->(fs.map λf=>Ij e s m f.2.1).sum<(fs.map λf=>e f.2.1).sum)
 |[]=>⟨Fb _,λ⟨_,h,_⟩=>(nomatch h)⟩
 |f::fs=>by
  obtain⟨R,J⟩:=JE I (fs:=fs);simp only[Sd,Rv];by_cases c:f.2.1=s
  ·have F:Ij e s m f.2.1=m:=if_pos c;rw[F,c,I];exact⟨by lia,λ_=>by lia⟩
  ·have F:Ij e s m f.2.1=e f.2.1:=if_neg c;rw[F];refine⟨by lia,λ⟨O,j,y⟩=>?_⟩
   rcases ic.mp j with z|z
   ·rw[z]at y;exact absurd y c
   ·have:=J ⟨O,z,y⟩;lia
noncomputable def wd  (ws:Wn)(i:Nat):Nat:=((ws.getD i (0,0)).2-(ws.getD i (0,0)).1+1).toNat
noncomputable def VZ  (ws:Wn):List (Int×Ent)->Nat
 |[]=>1
 |f::r=>wd ws f.2.1*VZ ws r
def QP   (h:∀w∈ws,w.1<=w.2) i:1<=wd ws i:=by
 unfold wd;cases e:ws[i]? with
 |none=>simp[ee,e]
 |some w=>
  rw[getW e];have:=h w (Hd e)
  lia
theorem QB   (h:∀w∈ws,w.1<=w.2):∀fs ,1<=VZ ws fs
 |[]=>Fb _
 |_::r=>wA (QP h _) (QB h r)
def Ux     (h:i≠s):wd (ws.set s v) i=wd ws i:=by
 unfold wd;simp only[ee];rw[Ah (λz=>h z.symm)]
theorem jx     : ∀{fs },s∉fs.map (·.2.1)->VZ (ws.set s v) fs=VZ ws fs
 |[],_=>rfl
 |f::r,h=>by
  have y:f.2.1≠s:=λz=>h (by simp[z])
  have j:s∉r.map (·.2.1):=λz=>h (Uc _ z);show wd _ _*VZ _ r=wd _ _*VZ _ r;rw[Ux y,jx j]
theorem AD     (j:ws[s]?=ia (l,h))(J:l<=ct)(F:ct<h):∀{fs },(fs.map (·.2.1)).Nodup->s∈fs.map (·.2.1)->VZ (ws.set s (l,ct)) fs+VZ (ws.set s (ct+1,h)) fs=VZ ws fs
 |[],_,hm=>by simp at hm
 |f::r,nd,hm=>by
  have y:=(Ea.mp j).1;obtain⟨I,O⟩:=Ra.mp nd;show wd _ _*VZ _ r+wd _ _*VZ _ r=wd _ _*VZ _ r;by_cases c:f.2.1=s
  ·have no:s∉r.map (·.2.1):=λz=>I (by rw[<- c]at z;exact z)
   rw[jx no,jx no,<- Zz,c];congr 1;unfold wd;rw[getW (Fi y),getW (Fi y),getW j];dsimp only
   lia
  ·have R:s∈r.map (·.2.1):=(ic.mp hm).resolve_left λz=>c z.symm;rw[Ux c,Ux c,<- Nat.mul_add,AD j J F O R]
theorem V_le    (h:∀i,wd ws i<=p):∀fs ,VZ ws fs<=p ^ fs.length
 |[]=>Fb _
 |_::r=>by
  rw[Td,Sz,Nat.mul_comm];exact wA (h _) (V_le h r)
def Zf.dn     (h:Zf W ss w fs):(fs.map (·.2.1)).Nodup:=by
 refine Xc.mpr λi j Z R O e=>?_;rw[Hb]at Z R;rw[BJ,BJ]at e;have ei:=Ic Z;have I:=Ic R;obtain⟨a1,a2,a3⟩:=h.en i _ ei;obtain⟨b1,Y,b3⟩:=h.en j _ I;obtain⟨s,es,z1⟩:=a1.get;obtain⟨s',F,z2⟩:=b1.get;rw[<- e,es]at F;cases F;have nd:=Ra.mp h.nd;have inj:∀x,x∈(w:Int)::Kb (fs.take j)->x≠fs[j].1:=λy hy z=>by
  rcases ic.mp hy with z'|z'
  ·exact nd.1 (by rw[<- z',z];exact Nn I)
  ·obtain⟨i',f',za,J,e'⟩:=Rl z';have c1:(Kb fs)[i']?=ia fs[j].1:=by unfold Kb;rw[Dd,J,aB,e',z]
   have c2:(Kb fs)[j]?=ia fs[j].1:=by unfold Kb;rw[Dd,I];rfl
   have:=(MA (Ea.mp c1).1 nd.2).mp (c1.trans c2.symm)
   lia
 have up:∀x,x∈(w:Int)::Kb (fs.take i)->x∈(w:Int)::Kb (fs.take j):=λx hx=>by
  rcases ic.mp hx with z|z
  ·rw[z];simp
  ·obtain⟨i2,f2,xa,e2,e3⟩:=Rl z;exact Uc _ (Ia.mpr ⟨f2,Hd (i:=i2) (by rw[Hr,if_pos (by lia)];exact e2),e3⟩)
 have k1:eS ss fs[i].2∈(w:Int)::Kb (fs.take j):=by
  rw[a2];exact Uc _ (Ia.mpr ⟨fs[i],Hd (i:=i) (by rw[Hr,if_pos O];exact ei),rfl⟩)
 have k2:eD ss fs[i].2∈(w:Int)::Kb (fs.take j):=up _ a3;have:eS ss fs[j].2=eS ss fs[i].2\/eS ss fs[j].2=eD ss fs[i].2:=by
  rcases z1 with⟨_,y1,y2⟩|⟨_,y1,y2⟩<;>rcases z2 with⟨_,x1,x2⟩|⟨_,x1,x2⟩<;>lia
 rcases this with z|z
 ·exact inj _ (z ▸ k1) Y
 ·exact inj _ (z ▸ k2) Y
def Sk  (xs:List Str)(ss:List Ab)(P:Int)(fs:List (Int×Ent))(rs:List (List Ent))(pf pr:Ba)(o:Obj)(bu:U)(n:Nat):Prop:=
 ∀(k:Nat) (G:Gp) (Q:K1) (X:KX) (ws:Wn) (e:Nat->Nat),ws.length=ss.length->(∀w∈ws,w.1<=w.2)->(∀f∈fs,∀v,ws[f.2.1]?=ia v->v.2-v.1<2 ^ (e f.2.1))->(fs.map λf=>e f.2.1).sum<=n->G pf=ia (.frk o (Zd fs))->G pr=ia (.lst (rs.map vg))->
  (∀(c:U) (m:Nat) (G':Gp),Sa G G'->Cs ss P n m ws c->m+1<=2*VZ ws fs->Q (.tup [.str "none",c]) G')->(∀(j:Wn) (G':Gp),Sa G G'->Tm P fs rs ws j->Q (.tup [.str "times",Oc j]) G')->Bb T (k+n+4) Bu [Ib xs ss,.int P,bu,.loc pf,.loc pr,Oc ws] G Q X

def TF   (hF:Zf W ss w fs)(w8:W<=8)(sl:ss.length<=24)(p1:1<=P)(p2:P<=600)(xb:∀r∈rs,∃i s,CR ss fs i s r)(ih:∀m,n=m+1->Sk xs ss P fs rs pf pr o bu m):Sk xs ss P fs rs pf pr o bu n:=by
 intro k G Q X ws e wl nv hm hs gf gr q1 q2;have hf:∀f∈fs,Wd ss f.2:=λf hf=>by
  obtain⟨j,hj,ej⟩:=Zg hf;exact(hF.en j f (by rw[Ic hj,ej])).1
 have zb:=Hg _ _ hF.nd hF.bd;simp only[Kb,Td,Hb]at zb;refine⟨rfl,?_⟩;simp! only[oC,fc,Qb,it_l gr];refine Te (λi ς Y=>∃o6:Option U,ς=[ia (Ib xs ss),ia (.int P),ia bu,ia (.loc pf),ia (.loc pr),ia (Oc ws),o6,Aa,Aa,Aa,Aa,Aa,Aa,Aa]/\Sa G Y/\∀r∈rs.take i,¬Dh P ws r) ?_ ?_ ⟨_,rfl,Sa.refl,λr hr=>by simp at hr⟩
 ·rintro ς O ⟨o6,rfl,s1,nb⟩;rw[Hb,ig]at nb;have wa:=s1 _ _ gf;refine⟨by unfold ud;rw[s1 _ _ gr],?_⟩
  simp! only[ME];refine NQ (ss:=ss) wa wl hf (λhn=>?_) λf fm v R c=>?_
  ·have za:∀kk:Bool->Prop,kk la->Ig .non .non kk:=λ_ h=>h;simp! only[Dy];refine za _ ?_;rw[if_pos rfl];refine⟨by decide,q2 ws O s1 ⟨rfl,λi a b ea eb=>?_,λf xa v R=>?_,nb⟩⟩
   ·rw[ea]at eb;cases eb;have:=nv a (Hd ea)
    lia
   ·have:=hn f xa v R;have:=nv v (Hd R)
    lia
  ·have za:∀kk:Bool->Prop,kk ua->Ig (.int (f.2.1:Int)) .non kk:=λ_ h=>h;simp! only[Dy];refine za _ ?_;rw[if_neg (by decide)]
   obtain⟨m',yb,c1,c2⟩:=nP c (hm f fm v R);have xc:=(JE (s:=f.2.1) yb (fs:=fs)).2 ⟨f,fm,rfl⟩;obtain⟨m,rfl⟩:∃m,n=m+1:=⟨n-1,by lia⟩
   have il:=(Ea.mp R).1;generalize va:(v.1+v.2)/2=ct at c1 c2;have l1:v.1<=ct:=by lia
   have l2:ct<v.2:=by lia
   simp! only[NE];refine aV (ws:=ws) R (by lia) ?_
   rw[va];simp! only[];refine⟨trivial,?_⟩;simp! only[OE];refine⟨by decide,λpc G2 n2=>?_⟩
   simp! only[QE];have ja:∀(x:Int×Int),v.1<=x.1->x.1<=x.2->x.2<=v.2->x.2-x.1<2 ^ m'->(ws.set f.2.1 x).length=ss.length/\(∀y∈ws.set f.2.1 x,y.1<=y.2)/\∀f'∈fs,∀y,(ws.set f.2.1 x)[f'.2.1]?=ia y->y.2-y.1<2 ^ (Ij e f.2.1 m' f'.2.1):=λx x1 x2 x3 x4=>by
    refine⟨by rw[Mh];exact wl,λy hy=>?_,λf' xa y ey=>?_⟩
    ·rcases QK hy with z|z
     ·exact nv y z
     ·rw[z];exact x2
    ·by_cases z:f'.2.1=f.2.1
     ·rw[z,Fi il]at ey;cases ey;rw[show Ij e f.2.1 m' f'.2.1=m' from if_pos z];exact x4
     ·rw[Ah (λy=>z y.symm)]at ey;rw[show Ij e f.2.1 m' f'.2.1=e f'.2.1 from if_neg z];exact hm f' xa y ey
   refine Te (λj ς Y=>∃(I:List U) (o11 o12 o13:Option U),ς=[ia (Ib xs ss),ia (.int P),ia bu,ia (.loc pf),ia (.loc pr),ia (Oc ws),o6,ia (.int f.2.1),ia (.int ct),ia (.tup [Oc (ws.set f.2.1 (v.1,ct)),Oc (ws.set f.2.1 (ct+1,v.2))]),ia (.loc pc),o11,o12,o13]/\Sa G Y/\Y pc=ia (.lst I)/\I.length=j/\(∀c,I[0]?=ia c->∃n,Cs ss P m n (ws.set f.2.1 (v.1,ct)) c/\n+1<=2*VZ (ws.set f.2.1 (v.1,ct)) fs)/\∀c,I[1]?=ia c->∃n,Cs ss P m n (ws.set f.2.1 (ct+1,v.2)) c/\n+1<=2*VZ (ws.set f.2.1 (ct+1,v.2)) fs) ?_ ?_ ⟨[],_,_,_,rfl,s1.trans n2.sa,n2.at,rfl,λc h=>by simp at h,λc h=>by simp at h⟩
   ·rintro ς G3 ⟨I,o11,o12,o13,rfl,s3,g3,cl,h1,h2⟩;have cl:I.length=2:=cl;refine⟨trivial,?_⟩;obtain⟨ca,cb,rfl⟩:∃a b,I=[a,b]:=by
     match I,cl with
     |[a,b],_=>exact⟨a,b,rfl⟩
    obtain⟨n1,k1,v1⟩:=h1 ca rfl;obtain⟨qc,k2,v2⟩:=h2 cb rfl;have vs:=AD R l1 l2 hF.dn (Ia.mpr ⟨f,fm,rfl⟩);simp! only[RE,ix_l g3 (Le _ _),ix_l g3 (Gd _ _ _)];exact⟨by decide,by decide,q1 _ _ G3 s3 (.split R l1 l2 k1 k2) (by lia)⟩
   ·rintro j x ς G3 K F ⟨I,o11,o12,o13,rfl,s3,g3,cl,h1,h2⟩ hk;have wb:=s3 _ _ gf;have vb:=s3 _ _ gr;have jb:G pc=Aa:=Wu s1 n2.no;have ha:∀{Ga Gb:Gp} {u:MO},Sa G Ga->Qg Ga pc u Gb->Sa G Gb:=λ{Ga Gb u} s w b z e=>w.sm _ _ (λy=>by rw[y,jb]at e;cases e) (s b z e)
    refine⟨trivial,?_⟩;simp! only[];have go:∀(y:Int×Int),v.1<=y.1->y.1<=y.2->y.2<=v.2->y.2-y.1<2 ^ m'->(∀(c:U) (n:Nat),Cs ss P m n (ws.set f.2.1 y) c->n+1<=2*VZ (ws.set f.2.1 y) fs->∀Y,Sa G Y->Y pc=ia (.lst (I++[c]))->∀o12 o13,K [ia (Ib xs ss),ia (.int P),ia bu,ia (.loc pf),ia (.loc pr),ia (Oc ws),o6,ia (.int f.2.1),ia (.int ct),ia (.tup [Oc (ws.set f.2.1 (v.1,ct)),Oc (ws.set f.2.1 (ct+1,v.2))]),ia (.loc pc),ia (Oc (ws.set f.2.1 y)),o12,o13] Y)->
      Bb T (k+m+4) Bu [Ib xs ss,.int P,bu,.loc pf,.loc pr,Oc (ws.set f.2.1 y)] G3 (λu O=>Yc (.t (.cons (.n 12) (.cons (.n 13) .nil))) u [ia (Ib xs ss),ia (.int P),ia bu,ia (.loc pf),ia (.loc pr),ia (Oc ws),o6,ia (.int f.2.1),ia (.int ct),ia (.tup [Oc (ws.set f.2.1 (v.1,ct)),Oc (ws.set f.2.1 (ct+1,v.2))]),ia (.loc pc),ia (Oc (ws.set f.2.1 y)),o12,o13] λJ=>slot J 12 λu=>cmpU .Eq u (.str "times") O λb=>if b=la then slot J 13 λu=>0+1+1<=db/\Q (.tup [.str "times",u]) O else slot J 10 λu=>match Ef .append u O with
       |some _=>slot J 13 λka=>Ue .append u [ka] O λ_ O=>K J O
       |none=>False) λx O=>X x O:=λy y1 y2 y3 y4 add=>by
     obtain⟨a1,a2,a3⟩:=ja y y1 y2 y3 y4;refine ih m rfl k G3 _ _ _ (Ij e f.2.1 m') a1 a2 a3 (by lia) wb vb (λc n' G4 Z hc hv=>?_) λkb G4 Z ht=>?_
     ·have g4:=Z _ _ g3;simp! only[];refine⟨trivial,?_⟩;rw[if_neg (by decide +kernel)]
      simp! only[li g4,ii g4];refine⟨Pg (show I.length<=2 by have:=(Ea.mp F).1;simp at this;lia) (by decide),λG5 p5=>?_⟩
      exact add c n' hc hv G5 (ha (s3.trans Z) p5) p5.at _ _
     ·simp! only[];refine⟨trivial,?_⟩;rw[if_pos (by decide +kernel)]
      simp! only[];exact⟨by decide,q2 kb G4 (s3.trans Z) (Tm.of R rfl y1 y3 ht)⟩
    rw[show k+(m+1)+3=k+m+4 by lia]
    match j,F,cl with
    |0,F,cl=>
     have F:Oc (ws.set f.2.1 (v.1,ct))=x:=Nd F;subst F;have e0:I=[]:=List.length_eq_zero_iff.mp cl;subst e0;refine go (v.1,ct) (zg _) l1 (by show ct<=v.2;lia) c1 λc n' hc hv G4 Z g4 a b=>hk _ _ ⟨[c],_,_,_,rfl,Z,g4,rfl,λc' h=>?_,λc' h=>by simp at h⟩
     cases h;exact⟨n',hc,hv⟩
    |1,F,cl=>
     have F:Oc (ws.set f.2.1 (ct+1,v.2))=x:=Nd F;subst F;obtain⟨c0,rfl⟩:∃c,I=[c]:=by
      match I,cl with
      |[c],_=>exact⟨c,rfl⟩
     refine go (ct+1,v.2) (by show v.1<=ct+1;lia) (by show ct+1<=v.2;lia) (zg _) c2 λc n' hc hv G4 Z g4 a b=>hk _ _ ⟨[c0,c],_,_,_,rfl,Z,g4,rfl,λc' h=>?_,λc' h=>?_⟩
     ·cases h;exact h1 _ rfl
     ·cases h;exact⟨n',hc,hv⟩
    |j+2,F,cl=>simp at F
 ·rintro i x ς O K F ⟨o6,rfl,s1,nb⟩ hk;rw[Dd]at F;cases er:rs[i]? with
  |none=>rw[er]at F;cases F
  |some r=>
   rw[er]at F;cases F;obtain⟨j,s,hr⟩:=xb r (Hd er);have hb:=hr.l;obtain⟨t,ht,_⟩:=hr.tl;refine⟨by unfold ud;rw[s1 _ _ gr],?_⟩
   simp! only[];refine FR (xs:=xs) (k:=k+n) wl hr.wk.all (by lia) p1 p2 λG2 s2=>?_
   simp! only[];by_cases c:Dh P ws r
   ·rw[if_pos (by simpa using c)]
    exact⟨by decide,by decide,q1 _ 1 G2 (s1.trans s2) (.ring hr.wk (by rw[ht];simp) (by lia) c) (by have:=QB nv fs;lia)⟩
   ·rw[if_neg (by simpa using c)]
    refine hk _ _ ⟨_,rfl,s1.trans s2,λr' ya=>?_⟩;rw[fg,er]at ya;rcases Ma.mp ya with z|z
    ·exact nb r' z
    ·rw[Fa.mp z];exact c
def IR   n (O:Zf W ss w fs)(I:W<=8)(F:ss.length<=24)(J:1<=P)(y:P<=600)(j:∀r∈rs,∃i s,CR ss fs i s r):Sk xs ss P fs rs pf pr o bu n:=by
 induction n with
 |zero=>exact TF O I F J y j λm h=>(nomatch h)
 |succ n R=>exact TF O I F J y j λm h=>by cases h;exact R


def ap_4  {X: KX}{bs: List Int}{ja: Option U}{o t:Nat}(Z:Fn G f c n)(hn:n<=850000000)(h1:1<=P)(h2:P<=600)(I:G pb=ia (.lst (bs.map .int)))(bl:bs.length=W)(ho:o<W)(ht:t<W)(gp:G p=ia (.lst (ss.map Ab.u)))(J:p≠f/\p≠c/\p≠pb)(sl:ss.length<=30)
  (kk:∀(s:Ab) o11 F,s.Ok W->Fn F f c (n+7)->F p=ia (.lst ((ss++[s]).map Ab.u))->F pb=ia (.lst (bs.map .int))->(∀q v,q≠f->q≠p->G q=ia v->F q=ia v)->K [ia (.loc f),ia (.int W),ia (.int P),O,ia (.loc pb),ia (.int y),ia (.loc p),Y,u8,ia (.int o),ia (.int t),o11] F) :
  Md T.gs (Bb T (k+2)) fv ⟨K,Q,λx _ F=>X x F⟩ [ia (.loc f),ia (.int W),ia (.int P),O,ia (.loc pb),ia (.int y),ia (.loc p),Y,u8,ia (.int o),ia (.int t),ja] G:=by
 have za:∀(s:Ab) o11 j,s.Ok W->Fn j f c (n+7)->Sm f G j->putO j p (.lst (ss.map Ab.u++[s.u])) λG2=>K [ia (.loc f),ia (.int W),ia (.int P),O,ia (.loc pb),ia (.int y),ia (.loc p),Y,u8,ia (.int o),ia (.int t),o11] G2:=λs o11 j so R s1 G2 p2=>by
  refine kk s o11 G2 so (R.off ⟨J.1,J.2.1⟩ p2) (by rw[wf];exact p2.at) (p2.sm _ _ (Ta J.2.2) (s1 _ _ ?_ I)) λq v hq xa e=>p2.sm _ _ xa (s1 _ _ hq e)
  intro z;obtain⟨ns,a,l,t,e1,_⟩:=Z.ex;rw[z,e1]at I;cases I
 have app:∀(b:Bool) (G0:Gp) (n0:Nat),n0<=n+1->Fn G0 f c n0->Sm f G G0->(match Ef .append (.loc p) G0 with
   |some _=>if b=la then Bb T (k+2) qz [.loc f,.int P,.int o,.int t] G0 (λx j=>Ue .append (.loc p) [x] j λ_ j=>K [ia (.loc f),ia (.int W),ia (.int P),O,ia (.loc pb),ia (.int y),ia (.loc p),Y,u8,ia (.int o),ia (.int t),ia (.bl b)] j) (λx j=>X x j) else Bb T (k+2) Vq [.loc f,.int P,.loc pb,.int o,.int t] G0 (λx j=>Ue .append (.loc p) [x] j λ_ j=>K [ia (.loc f),ia (.int W),ia (.int P),O,ia (.loc pb),ia (.int y),ia (.loc p),Y,u8,ia (.int o),ia (.int t),ia (.bl b)] j) (λx j=>X x j)
   |none=>False):=by
  intro b G0 n0 h0 f0 s0;have g0:=s0 _ _ J.1 gp;have va:pb≠f:=λz=>by
   obtain⟨ns,a,l,t,e1,_⟩:=Z.ex;rw[z,e1]at I;cases I
  rw[li g0];dsimp only;have ap:∀(s:Ab) (j:Gp),s.Ok W->Fn j f c (n0+6)->Sm f G0 j->Ue .append (.loc p) [s.u] j λ_ j=>K [ia (.loc f),ia (.int W),ia (.int P),O,ia (.loc pb),ia (.int y),ia (.loc p),Y,u8,ia (.int o),ia (.int t),ia (.bl b)] j:=λs j so R s1=>by
   have g1:=s1 _ _ J.1 g0;rw[ii g1];exact⟨by rw[Hb];exact Pg sl (by decide),za s _ j so (R.mono (by lia)) (s0.trans s1)⟩
  cases b with
  |true=>rw[if_pos rfl];exact mW (k:=k) f0 (by lia) h1 h2 ho ht ap
  |false=>rw[if_neg (by decide)];exact tP (k:=k) f0 (by lia) h1 h2 (s0 _ _ va I) bl ho ht ap
 simp! only[fv];by_cases c5:y=5
 ·rw[if_pos (by simpa using c5)]
  exact app _ G n (by lia) Z Sm.refl
 ·rw[if_neg (by simpa using c5)]
  by_cases c2:2<y
  ·rw[if_pos (by simpa using c2)]
   refine Qc Z (by lia) (by decide) (by decide) λr j a1 b1 R s1=>?_
   simp! only[];exact app _ j (n+1) (Fb _) R s1
  ·rw[if_neg (by simpa using c2)]
   exact app _ G n (by lia) Z Sm.refl
def ap_0  {X: KX}{bs: List Int}{u9: Option U}{xa: Option U}{F: Option U}{i:Nat}(hf:Fn G f c n)(hn:n<=840000000)(h1:1<=P)(h2:P<=600)(gb:G pb=ia (.lst (bs.map .int)))(bl:bs.length=W)(w0:0<W)(w8:W<=8)(gp:G p=ia (.lst (ss.map Ab.u)))(hp:p≠f/\p≠c/\p≠pb)(sl:ss.length<=30)
  (kk:∀(s:Ab) o9 o10 o11 j,s.Ok W->Fn j f c (n+12)->j p=ia (.lst ((ss++[s]).map Ab.u))->j pb=ia (.lst (bs.map .int))->(∀q v,q≠f->q≠p->G q=ia v->j q=ia v)->K [ia (.loc f),ia (.int W),ia (.int P),u3,ia (.loc pb),ia (.int y),ia (.loc p),u7,ia (.int i),o9,o10,o11] j) :
  Md T.gs (Bb T (k+2)) Cz ⟨K,Q,λx _ j=>X x j⟩ [ia (.loc f),ia (.int W),ia (.int P),u3,ia (.loc pb),ia (.int y),ia (.loc p),u7,ia (.int i),u9,xa,F] G:=by
 have va:pb≠f:=λz=>by
  obtain⟨ns,a,l,t,e1,_⟩:=hf.ex;rw[z,e1]at gb;cases gb
 have t3:∀(o t:Nat) (G0:Gp),o<W->t<W->Fn G0 f c (n+4)->Sm f G G0->Md T.gs (Bb T (k+2)) Ez ⟨K,Q,λx _ j=>X x j⟩ [ia (.loc f),ia (.int W),ia (.int P),u3,ia (.loc pb),ia (.int y),ia (.loc p),u7,ia (.int i),ia (.int o),ia (.int t),F] G0:=by
  intro o t G0 O Y f0 s0;simp! only[Ez];refine⟨by decide,by decide,by decide,λp1 G1 n1=>Qc (f0.new n1) (by lia) (by decide) (by decide) λr R a2 b2 J s2=>?_⟩
  have I:Sm f G R:=(s0.nw n1).trans s2;have Z:∀(o t:Nat),o<W->t<W->Md T.gs (Bb T (k+2)) fv ⟨K,Q,λx _ j=>X x j⟩ [ia (.loc f),ia (.int W),ia (.int P),u3,ia (.loc pb),ia (.int y),ia (.loc p),u7,ia (.int i),ia (.int o),ia (.int t),F] R:=λo t O Y=>
   ap_4 (k:=k) J (by lia) h1 h2 (I _ _ va gb) bl O Y (I _ _ hp.1 gp) hp sl λs o11 G3 so f3 g3 ja fr=>kk s _ _ _ G3 so (f3.mono (by lia)) g3 ja λq v hq za e=>fr q v hq za (I _ _ hq e)
  refine Nu (s2 _ _ (f0.away n1).1 n1.at) a2 b2 λu hu=>?_;simp only[ic,Ve,or_false]at hu;rcases hu with rfl|rfl
  ·simp! only[];exact⟨trivial,Z o t O Y⟩
  ·simp! only[];exact⟨trivial,Z t o Y O⟩
 have t2:∀(o t:Nat) (G0:Gp),o<W->t<W->Fn G0 f c (n+3)->Sm f G G0->Md T.gs (Bb T (k+2)) Dz ⟨K,Q,λx _ j=>X x j⟩ [ia (.loc f),ia (.int W),ia (.int P),u3,ia (.loc pb),ia (.int y),ia (.loc p),u7,ia (.int i),ia (.int o),ia (.int t),F] G0:=by
  intro o t G0 O Y f0 s0;simp! only[Dz];by_cases c:(i:Int)+1<W
  ·rw[if_pos (by simpa using c)]
   refine Qc f0 (by lia) (by lia) (by lia) λr R a2 b2 J s2=>?_
   obtain⟨r,rfl⟩:=Cg a2;simp! only[];exact⟨trivial,t3 (i+1) r R (by lia) (by lia) J (s0.trans s2)⟩
  ·rw[if_neg (by simpa using c)]
   exact t3 o t G0 O Y (f0.mono (by lia)) s0
 simp! only[Cz];refine Qc hf (by lia) (by lia) (by lia) λo G1 a1 b1 f1 s1=>Qc f1 (by lia) (by lia) (by lia) λt R a2 b2 J s2=>?_
 obtain⟨o,rfl⟩:=Cg a1;obtain⟨t,rfl⟩:=Cg a2;have I:=s1.trans s2;simp! only[];refine⟨trivial,?_⟩;by_cases c:(o:Int)=t
 ·rw[if_pos (by simpa using c)]
  refine Qc J (by lia) (by decide) (by decide) λr G3 a3 b3 f3 s3=>?_
  simp! only[];by_cases c2:0<r
  ·rw[if_pos (by simpa using c2)]
   refine⟨by lia,?_⟩
   exact t2 o ((o+1)%W) G3 (by lia) (Nat.mod_lt _ w0) f3 (I.trans s3)
  ·rw[if_neg (by simpa using c2)]
   exact t2 o t G3 (by lia) (by lia) f3 (I.trans s3)
 ·rw[if_neg (by simpa using c)]
  exact t2 o t R (by lia) (by lia) (J.mono (by lia)) I

noncomputable def Cn  : List Str:=["a", "ab", "works", "span", "apart", "ring", "b", "stay"]
def aF  : ∀x∈Cn,Nm x:=by
 have h:∀x∈Cn,x.length<=8/\∀c∈x.cps.toList,c<128:=by decide +kernel
 exact λx j=>⟨(h x j).1,(h x j).2⟩

def ap_6  {X: KX}{ss: List Ab}{xa: Option U}{M:Int}(hf:Fn G f c n)(hn:n<=850000000)(w0:0<W)(w8:W<=8)(M0:1<=M)(M1:M<=24)(gp:G p=ia (.lst (ss.map Ab.u)))(sl:(ss.length:Int)<=M)(so:∀s∈ss,s.Ok W)
  (q:∀(xs:List Str) (ss:List Ab) j ,xs.length=W->(∀x∈xs,Nm x)->ss.length<=24->(∀s∈ss,s.Ok W)->Fn j f c (n+2)->Sm f G j->Q (Ib xs ss) j) :
  Md T.gs (Bb T (k+2)) uz ⟨λ_ j=>Q .non j,Q,λx _ j=>X x j⟩ [ia (.loc f),ia (.int W),u3,ia (.int M),u4,u5,ia (.loc p),u7,u8,u9,ja,xa] G:=by
 have va:∀(ss:List Ab) (p:Ba) (F:Gp),F p=ia (.lst (ss.map Ab.u))->ss.length<=24->(∀s∈ss,s.Ok W)->Fn F f c (n+1)->Sm f G F->Md T.gs (Bb T (k+2)) cv ⟨λ_ j=>Q .non j,Q,λx _ j=>X x j⟩ [ia (.loc f),ia (.int W),u3,ia (.int M),u4,u5,ia (.loc p),u7,u8,u9,ja,xa] F:=by
  intro ss p F g1 sl so f1 s1;simp! only[cv];refine⟨by decide,λp2 J n2=>Qc (f1.new n2) (by lia) (by decide) (by decide) λr G3 a3 b3 f3 s3=>?_⟩
  have S3:=(s1.nw n2).trans s3;have pf:p≠f:=λz=>by
   obtain⟨ns,a,l,t,e1,_⟩:=f1.ex;rw[z,e1]at g1;cases g1
  have g3:=s3 _ _ pf (n2.sa _ _ g1);simp! only[];refine Ih [1,-1] (s3 _ _ (f1.away n2).1 n2.at) (by split<;>decide) (by split<;>decide) λz Y=>?_
  have ya:z=1\/z=-1:=by simpa using Y
  unfold revU ud;dsimp only;rw[g3];dsimp only;refine⟨ya,λp4 G4 O=>⟨by decide,?_⟩⟩
  obtain⟨ts,et,lt,mt⟩:∃ts:List Ab,(if z=1 then ss.map Ab.u else (ss.map Ab.u).reverse)=ts.map Ab.u/\ts.length=ss.length/\∀s∈ts,s∈ss:=by
   rcases ya with rfl|rfl
   ·exact⟨ss,rfl,rfl,λ_ h=>h⟩
   ·exact⟨ss.reverse,by rw[if_neg (by decide),sA],by simp,λs h=>List.mem_reverse.mp h⟩
  rw[et]at O;rw[it_l O.at];refine⟨by decide,?_⟩
  have ec:Z.cut [U.str "a",.str "ab",.str "works",.str "span",.str "apart",.str "ring",.str "b",.str "stay"] Aa (ia (W:Int))=(Cn.take W).map .str:=by rw[Gn,Ar];rfl
  rw[ec];exact q (Cn.take W) ts G4 (by rw[kj];exact BA w8) (λx hx=>aF x (Em hx)) (by lia) (λs R=>so s (mt s R)) (f3.new O) (S3.nw O)
 have pf:p≠f:=λz=>by
  obtain⟨ns,a,l,t,e1,_⟩:=hf.ex;rw[z,e1]at gp;cases gp
 simp! only[uz,sl_l gp];intro p1 F n1;have c1:Z.cut (ss.map Ab.u) Aa (ia 1)=(ss.take 1).map Ab.u:=by rw[show(1:Int)=((1:Nat):Int)from rfl,Gn,Ar]
 rw[c1]at n1;have f1:=hf.new n1;have wa:=hf.away n1;have za:∀(z:Int) (J:Gp),(z=0\/(z=1/\(ss.length:Int)<M))->Fn J f c (n+1)->Sm f F J->binU .Mult (.loc p1) (.int z) J λy J=>binU .Add (.loc p) y J λu F=>Md T.gs (Bb T (k+2)) cv ⟨λ_ j=>Q .non j,Q,λx _ j=>X x j⟩ [ia (.loc f),ia (.int W),u3,ia (.int M),u4,u5,ia u,u7,u8,u9,ja,xa] F:=by
  intro z J Y f2 s2;have tl:(ss.take 1).length<=1:=by rw[kj];lia
  refine⟨_,s2 _ _ wa.1 n1.at,by rcases Y with rfl|⟨rfl,_⟩<;>decide,by rcases Y with rfl|⟨rfl,_⟩<;>decide,?_,λp3 G3 n3=>⟨_,_,n3.sa _ _ (s2 _ _ pf (n1.sa _ _ gp)),n3.at,?_,λp4 G4 O=>?_⟩⟩
  ·rw[Hb];rcases Y with rfl|⟨rfl,_⟩
   ·exact He _
   ·exact Lb (show _<=1 by simpa using tl) (by decide)
  ·rcases Y with rfl|⟨rfl,_⟩
   ·exact Lb (show(ss.map Ab.u).length+0<=24 by rw[Hb];lia) (by decide)
   ·have e:(Qb (Av 1) ((ss.take 1).map Ab.u)).flatten=(ss.take 1).map Ab.u:=by simp
    rw[e,Hb,Hb];exact Lb (show ss.length+(ss.take 1).length<=25 by lia) (by decide)
  have S4:Sm f G G4:=((n1.sa.sm.trans s2).nw n3).nw O;have f4:=(f2.new n3).new O;have I:=O.at
  rcases Y with rfl|⟨rfl,hl⟩
  ·have e:ss.map Ab.u++(Qb (Av 0) ((ss.take 1).map Ab.u)).flatten=ss.map Ab.u:=by simp
   rw[e]at I;exact va ss p4 G4 I (by lia) so f4 S4
  ·have e:ss.map Ab.u++(Qb (Av 1) ((ss.take 1).map Ab.u)).flatten=(ss++ss.take 1).map Ab.u:=by simp
   rw[e]at I;refine va _ p4 G4 I (by rw[Xf];lia) (λs R=>?_) f4 S4
   rcases Ma.mp R with R|R
   ·exact so s R
   ·exact so s (Em R)
 simp! only[Kl (n1.sa _ _ gp),Hb];by_cases l0:(0:Int)<ss.length
 ·rw[if_pos (by simpa using l0)]
  by_cases l1:(ss.length:Int)<M
  ·rw[if_pos (by simpa using l1)]
   refine Qc f1 (by lia) (by decide) (by decide) λr J a2 b2 f2 s2=>?_
   simp! only[];refine za _ J ?_ f2 s2;split
   ·exact .inr ⟨rfl,l1⟩
   ·exact .inl rfl
  ·rw[if_neg (by simpa using l1)]
   simp! only[];refine za _ F (.inl ?_) (f1.mono (by lia)) Sm.refl
   rw[if_neg (by simpa using l1)]
 ·rw[if_neg (by simpa using l0)]
  simp! only[];exact za _ F (.inl rfl) (f1.mono (by lia)) Sm.refl
def WU  (hf:Fn G f c n)(hn:n<=800000000)(h1:1<=P)(h2:P<=600)(w0:0<W)(w8:W<=8)(m0:1<=m)(m1:m<=24)
  (q:∀(xs:List Str) (ss:List Ab) j ,xs.length=W->(∀x∈xs,Nm x)->ss.length<=24->(∀s∈ss,s.Ok W)->Fn j f c (n+1000)->Sm f G j->Q (Ib xs ss) j):Bb T (k+3) oH [.loc f,.int W,.int P,.int m] G Q X:=by
 refine⟨rfl,?_⟩;simp! only[cG,fc,Qb];refine⟨by lia,by lia,by rw[Xd];exact Lb (show _<=8 by lia) (by decide),?_⟩
 refine cg (λi J j=>Fn j f c (n+i)/\Sm f G j/\∃bs:List Int,J=bs.map .int/\bs.length=i) ?_ ?_ ⟨hf,Sm.refl,[],rfl,rfl⟩
 ·rintro J G1 ⟨f1,s1,bs,rfl,bl⟩;rw[Xd]at f1 bl;refine⟨trivial,λpb G2 n2=>?_⟩;have f2:=f1.new n2;have hb:=f1.away n2;simp! only[SH];refine⟨by decide,λp3 G3 n3=>Qc (f2.new n3) (by lia) (by decide) (by decide) λr4 G4 a4 b4 f4 s4=>?_⟩
  simp! only[];refine Ih [m,24] (s4 _ _ (f2.away n3).1 n3.at) (by split<;>decide) (by show _<(2:Int);split<;>decide) λM hM=>?_
  have Z:1<=M/\M<=24:=by simp only[ic,Ve,or_false]at hM;lia
  refine Qc f4 (by lia) (by decide) (by decide) λya G5 a5 b5 f5 s5=>⟨by decide,λp6 G6 F=>?_⟩
  have f6:=f5.new F;have h6:=f5.away F;simp! only[];refine Qc f6 (by lia) (by lia) (by lia) λr7 G7 a7 b7 f7 s7=>⟨by decide,λp8 G8 n8=>Qc (f7.new n8) (by lia) (by decide) (by decide) λr9 G9 a9 b9 f9 s9=>?_⟩
  refine Ih [(W:Int)-1,W,W+1,r7,M,W] (s9 _ _ (f7.away n8).1 n8.at) a9 b9 λmany I=>?_;have hm:0<=many/\many<=24:=by simp only[ic,Ve,or_false]at I;lia
  have S5:Sm f G G5:=(((s1.nw n2).nw n3).trans s4).trans s5;have O:Sm f G6 G9:=(s7.nw n8).trans s9;have S9:Sm f G G9:=(S5.nw F).trans O;have Y:G5 pb=ia (.lst (bs.map .int)):=s5 _ _ hb.1 (s4 _ _ hb.1 (n3.sa _ _ n2.at));have wa:G9 pb=ia (.lst (bs.map .int)):=O _ _ hb.1 (F.sa _ _ Y);have za:G9 p6=ia (.lst []):=O _ _ h6.1 F.at
  have va:p6≠pb:=oi Y F.no;simp! only[TH];obtain⟨R,hR,zb,RM⟩:∃R:Nat,(if many<M then many else M)=(R:Int)/\R<=24/\(R:Int)<=M:=by
   obtain⟨a,ha⟩:=Cg (show 0<=if many<M then many else M by split<;>lia)
   exact⟨a,ha,by split at ha<;>lia,by split at ha<;>lia⟩
  rw[hR];refine⟨by lia,by lia,?_⟩
  refine Te (λi ς j=>∃ss o8 o9 o10 o11,ς=[ia (.loc f),ia (.int W),ia (.int P),ia (.int M),ia (.loc pb),ia (.int ya),ia (.loc p6),ia (.int many),o8,o9,o10,o11]/\Fn j f c (n+30+12*i)/\Sm f G j/\j p6=ia (.lst (ss.map Ab.u))/\j pb=ia (.lst (bs.map .int))/\ss.length=i/\∀s∈ss,s.Ok W) ?_ ?_ ⟨[],_,_,_,_,rfl,f9.mono (by lia),S9,za,wa,rfl,λs h=>(nomatch h)⟩
  ·rintro ς Ga ⟨ss,o8,o9,o10,o11,rfl,fa,sa,ga,gba,sl,so⟩;rw[Xd]at sl fa;refine⟨trivial,?_⟩;exact ap_6 (k:=k) fa (by lia) w0 w8 Z.1 Z.2 ga (by lia) so λxs xb Gb xl nm ja xa fb sb=>q xs xb Gb xl nm ja xa (fb.mono (by lia)) (sa.trans sb)
  ·rintro i x ς Ga K hx ⟨ss,o8,o9,o10,o11,rfl,fa,sa,ga,gba,sl,so⟩ hk;obtain⟨hi,rfl⟩:=Nf hx;refine⟨trivial,?_⟩;refine ap_0 (k:=k) fa (by lia) h1 h2 gba bl w0 w8 ga ⟨h6.1,h6.2,va⟩ (by lia) λs o9 o10 o11 Gb hs fb gb ka fr=>hk _ _ ⟨ss++[s],_,_,_,_,rfl,fb.mono (by lia),λb o y e=>fr b o y (λz=>?_) (sa _ _ y e),gb,ka,by rw[Xf,sl];rfl,λt ht=>?_⟩
   ·have:=S5 _ _ y e;rw[z,F.no]at this;cases this
   ·rcases Ma.mp ht with h|h
    ·exact so t h
    ·rw[Fa.mp h];exact hs
 ·rintro i x J G1 K hx ⟨f1,s1,bs,rfl,bl⟩ hk _;obtain⟨hi,rfl⟩:=Nf hx;refine⟨trivial,?_⟩;simp! only[];exact Qc f1 (by lia) (by lia) (by lia) λr G2 a2 b2 f2 s2=>hk _ _ ⟨f2,s1.trans s2,bs++[r],by simp,by simp[bl]⟩

def gs24  : T.gs=[.int 300]:=rfl

def RF   (R:p.length<=8)(q:∀a F ,Sa G F->F a=ia (.lst [])->Q (.loc a) F):Bb T (k+1) Qy [Wc p,.tup []] G Q X:=by
 refine⟨rfl,?_⟩;simp! only[BF,fc,Qb,Wc];refine⟨by rw[Hb];exact Lb R (by decide),?_⟩
 refine cg (λi y F=>F=G/\y=[]) ?_ ?_ ⟨rfl,rfl⟩
 ·rintro y O ⟨rfl,rfl⟩;exact⟨trivial,λa J I=>q a J I.sa I.at⟩
 ·rintro i x y O K j ⟨rfl,rfl⟩ hk hn;rw[Dd]at j;cases e:p[i]? with
  |none=>rw[e]at j;cases j
  |some z=>
   rw[e]at j;have j:=(Nd j).symm;subst j;refine⟨trivial,?_⟩;simp! only[];exact⟨rfl,rfl,hn _ ⟨rfl,rfl⟩⟩
def DE     (h:Ee W es ps)(y:W<=8)(j:p∈ps):p.length<=8:=
 Lb (Hg W p ((h.as p j).imp λ{a b} g e=>by lia) (h.bd p j)) y
def ZS     (h:Ee W es ps)(y:0<W):1<=ps.length:=by
 obtain⟨p,j,_⟩:=h.al 0 (by lia) (by lia)
 exact GA j
def IV  (w0:0<xs.length)(O:xs.length<=8)(so:∀s∈ss,s.Ok xs.length)(sl:ss.length<=24)(h1:1<=P)(h2:P<=600)(pb:∀ps ,Ee xs.length (Hc ss) ps->P.toNat ^ (xs.length-ps.length)<=5000000)
  (q:∀(ps:List (List Int)) F ,Ee xs.length (Hc ss) ps->Sa G F->Q (.int (P.toNat ^ (xs.length-ps.length):Nat)) F):Bb T (k+4) qF [Ib xs ss,.int P,.tup []] G Q X:=by
 refine⟨rfl,?_⟩;simp! only[AF,fc,Qb];refine uG so sl O λps G1 I hs pl s1=>?_;have pn:=ZS I w0;simp! only[Kx];refine⟨by rw[Hb];exact Lb pl (by decide),?_⟩
 refine cg (λi y F=>Sa G1 F/\y=(ps.take i).map Wc) ?_ ?_ ⟨Sa.refl,rfl⟩
 ·rintro y G2 ⟨s2,rfl⟩;rw[Hb,ig];refine⟨trivial,λp3 R Z=>?_⟩;simp! only[vG];simp! only[wG,Ib,ix_t (Le _ _),Hb,Kl Z.at];refine⟨by lia,by lia,?_⟩
  refine Te (λi J F=>F=R/\∃o5,J=[ia (Ib xs ss),ia (.int P),ia (.tup []),ia (.loc p3),ia (.int ((P.toNat ^ i:Nat):Int)),o5]) ?_ ?_ ⟨rfl,_,rfl⟩
  ·rintro J Y ⟨rfl,o5,rfl⟩;rw[Xd];refine⟨trivial,?_⟩;simp! only[];have:=q ps Y I ((s1.trans s2).trans Z.sa);rw[show((xs.length:Int)-((0:Nat):Int)-(ps.length:Int)).toNat=xs.length-ps.length by lia]
   exact this
  ·rintro i x J Y K j ⟨rfl,o5,rfl⟩ hk;obtain⟨hi,rfl⟩:=Nf j;refine⟨trivial,?_⟩;simp! only[];have b1:P.toNat ^ i<=5000000:=Lb (oj (by lia) (by lia)) (pb ps I)
   generalize ez:P.toNat ^ i=z at b1;refine⟨.inr (by constructor<;>lia),hk _ _ ⟨rfl,ia (.int (i:Int)),?_⟩⟩
   have e:((P.toNat ^ (i+1):Nat):Int)=(z:Int)*P:=by rw[Sz,ez,Int.natCast_mul];congr 1;lia
   rw[e]
 ·rintro i x y G2 K j ⟨s2,rfl⟩ hk hn;rw[Dd]at j;cases e:ps[i]? with
  |none=>rw[e]at j;cases j
  |some z=>
   rw[e]at j;have j:=(Nd j).symm;subst j;refine⟨trivial,?_⟩;simp! only[];refine RF (DE I O (Hd e)) λa R s3 g3=>?_;rw[Yt g3];rw[if_pos (by decide)]
   exact hk _ _ ⟨s2.trans s3,by rw[fg,e,wf];rfl⟩
def eV  (J:0<xs.length)(R:xs.length<=8)(Z:∀s∈ss,s.Ok xs.length)(O:ss.length<=24)(Y:1<=P)(I:P<=600)(pb:∀ps ,Ee xs.length (Hc ss) ps->P.toNat ^ (xs.length-ps.length)<=5000000)
  (q:∀(ps:List (List Int)) G' ,Ee xs.length (Hc ss) ps->P.toNat ^ (xs.length-ps.length)<=300->Sa G G'->Q .non G')
  (j:∀(ps:List (List Int)) G' ,Ee xs.length (Hc ss) ps->300<P.toNat ^ (xs.length-ps.length)->Sa G G'->X ⟨2,[.str "plan"]⟩ G'):Bb T (k+5) QH [Ib xs ss,.int P,.tup []] G Q X:=by
 refine⟨rfl,?_⟩;simp! only[MH,fc,Qb];refine IV J R Z O Y I pb λps y F s1=>?_;have q:=q ps y F;have j:=j ps y F;simp! only[gs24,jr];generalize P.toNat ^ (xs.length-ps.length)=z at q j;by_cases c:300<z
 ·rw[if_pos (by rw[decide_eq_true_eq];lia)]
  exact⟨rfl,j c s1⟩
 ·rw[if_neg (by rw[decide_eq_true_eq];lia)]
  exact q (by lia) s1

noncomputable def endZ  (P:Int)(s:Ab):Int:=if s.lo+P-1<(if s.w = "span" then s.hi else P-s.hi) then s.lo+P-1 else if s.w = "span" then s.hi else P-s.hi
def winO  (P:Int)(ss:List Ab):Wn:=ss.map λs=>(s.lo,endZ P s)
def uC    : endZ P s-s.lo<=P-1:=by unfold endZ;split<;>lia
section
variable {k:Nat}{G:Gp}{Q:K1}{X:KX}{xs:List Str}{ss:List Ab}{ws:Wn}{P:Int}{W:Nat}
def uP  {i:Nat}(hs:ss[i]?=ia s)(h:s.Ok W)(q:Q (.int (if s.w = "span" then s.hi else P-s.hi)) G):Bb T (k+1) cF [Ib xs ss,.int P,.int i] G Q X:=by
 refine⟨rfl,?_⟩;simp! only[hE,fc,Qb,Ib,ix_t (Gd _ _ _),ix_t (Qf hs),Ab.u];refine⟨trivial,?_⟩;rcases h.w with z|z
 ·rw[z,if_neg (by decide +kernel)]
  rw[z,if_neg (show ¬(("apart" : Str) = "span") by decide +kernel)]at q
  exact q
 ·rw[z,if_pos (by decide +kernel)]
  rw[z,if_pos rfl]at q;exact q
def JV  (Y:∀s∈ss,s.Ok W)(Z:ss.length<=24)(q:∀y,Sa G y->Q (Oc (winO P ss)) y):Bb T (k+3) rH [Ib xs ss,.int P] G Q X:=by
 refine⟨rfl,?_⟩;simp! only[iG,fc,Qb,Ib,ix_t (Gd _ _ _),Hb];refine⟨by lia,by lia,by rw[Xd];exact Lb (show((ss.length:Int)).toNat<=24 by lia) (by decide),?_⟩
 refine cg (λi j y=>y=G/\j=(winO P (ss.take i)).map wu) ?_ ?_ ⟨rfl,rfl⟩
 ·rintro j y ⟨rfl,rfl⟩;rw[Xd,ig];refine⟨trivial,λp O J=>?_⟩;dsimp only;rw[it_l J.at];exact q O J.sa
 ·rintro i x j y K R ⟨rfl,rfl⟩ hk _;obtain⟨F,rfl⟩:=Nf R;have F:i<ss.length:=by lia
  have I:ss[i]?=ia ss[i]:=Ic F;refine⟨trivial,?_⟩;simp! only[];refine⟨rfl,?_⟩;simp! only[oG,fc,Qb,Ib,ix_t (Gd _ _ _),ix_t (Qf I)];show bf (.tup [.str ss[i].w,.int ss[i].o,.int ss[i].t,.int ss[i].lo,.int ss[i].hi]) _ _ _;rw[ix_t (show atI [U.str ss[i].w,.int ss[i].o,.int ss[i].t,.int ss[i].lo,.int ss[i].hi] 3=ia (.int ss[i].lo)from rfl)];simp! only[];refine uP (xs:=xs) (P:=P) I (Y _ (Fm F)) ?_;simp! only[];refine⟨by decide,hk _ _ ⟨rfl,?_⟩⟩
  unfold winO;rw[fg,I,wf,wf];rfl
def RP    (y:1<=P) i:wd (winO P ss) i<=P.toNat:=by
 unfold wd;cases e:(winO P ss)[i]? with
 |none=>simp[ee,e];lia
 |some w=>
  rw[getW e];obtain⟨s,j,rfl⟩:=Ia.mp (Hd e);have:=uC (P:=P) (s:=s);dsimp only
  lia
structure Pw (W:Nat)(ss:List Ab)(P:Int)(ws:Wn)(ps:List (List Int))(n:Nat)(bs:List Int):Prop where
 l:bs.length=W
 b:∀b∈bs,0<=b/\b<P
 k:∀i s,ss[i]?=ia s->(∃p∈ps.take n,(s.o:Int)∈p)->Kw ss P ws bs i
def vR     (h:Kw ss P ws bs i)(hs:ss[i]?=ia s)(F:bt j s.o=bt bs s.o)(y:bt j s.t=bt bs s.t):Kw ss P ws j i:=by
 unfold Kw at h ⊢;rw[eS_1 hs,eD_1 hs]at h ⊢;rw[F,y];exact h
def Pw.step {n w:Nat}{fs:List (Int×Ent)}{p:List Int}{ps:List (List Int)}{bs j:List Int}(h:Pw W ss P ws ps n bs)(O:Ee W (Hc ss) ps)(R:ps[n]?=ia p)(he:∀x,x∈p↔x∈(w:Int)::Kb fs)
  (l':j.length=W) (b':∀b∈j,0<=b/\b<P) (Y:∀x,0<=x->x∉Kb fs->bt j x=bt bs x) (k':∀i s,ss[i]?=ia s->(s.o:Int)∈p->Kw ss P ws j i):Pw W ss P ws ps (n+1) j:=by
 have off:∀x,x∉p->x∉Kb fs:=λx hx z=>hx ((he x).mpr (Uc _ z));refine⟨l',b',λi s I ⟨Z,F,y⟩=>?_⟩;rw[fg,R]at F;rcases Ma.mp F with z|z
 ·have ht:(s.t:Int)∈Z:=O.part (Em z) y (.one (.inl (Ia.mpr ⟨s,Hd I,rfl⟩)));exact vR (h.k i s I ⟨Z,z,y⟩) I (Y _ (by lia) (off _ λJ=>O.apart R z J y)) (Y _ (by lia) (off _ λJ=>O.apart R z J ht))
 ·rw[Fa.mp z]at y;exact k' i s I y
theorem nN  (so:∀s∈ss,s.Ok xs.length)(R:ss.length<=24)(w0:0<xs.length)(Y:xs.length<=8)(p1:1<=P)(p2:P<=600)(pb:∀ps ,Ee xs.length (Hc ss) ps->P.toNat ^ (xs.length-ps.length)<=5000000)
  (q1:∀c m y ,Sa G y->Cs ss P 70 m (winO P ss) c->m<=2*P.toNat ^ (min (xs.length-1) ss.length)->(∃ps ,Ee xs.length (Hc ss) ps/\P.toNat ^ (xs.length-ps.length)<=300)->Q (.tup [.str "none",c]) y)
  (q2:∀(bs:List Int) y ,Sa G y->bs.length=xs.length->(∀b∈bs,0<=b/\b<P)->(∀i,i<ss.length->Kw ss P (winO P ss) bs i)->Q (.tup [.str "times",Wc bs]) y)
  (qx:∀(ps:List (List Int)) y ,Ee xs.length (Hc ss) ps->300<P.toNat ^ (xs.length-ps.length)->Sa G y->X ⟨2,[.str "plan"]⟩ y) :
  Bb T (k+75) tJ [Ib xs ss,.int P,.tup [],.tup []] G Q X:=by
 have wl:(winO P ss).length=ss.length:=Hb _;refine⟨rfl,?_⟩;simp! only[sJ,fc,Qb];refine eV (k:=k+69) w0 Y so R p1 p2 pb (λpz G1 hz cz s1=>?_) λps G1 F c s1=>qx ps G1 F c s1;simp! only[kJ];refine JV (k:=k+71) so R λG2 s2=>?_;simp! only[lJ];refine MQ (k:=k+73) (ws:=winO P ss) rfl (λnv=>?_) λi w ew c=>?_
 ·have Z:∀kk:Bool->Prop,kk la->Ig .non .non kk:=λ_ h=>h;simp! only[zz];refine Z _ ?_;rw[if_neg (by decide)]
  simp! only[mJ,Ib,ix_t (Le _ _),Hb];refine⟨by lia,by lia,by rw[Xd];exact Lb (show((xs.length:Int)).toNat<=8 by lia) (by decide),?_⟩
  refine Xi (λ_=>.int 0) trivial (λu hu K hK=>?_) ?_
  ·obtain⟨i,_,rfl⟩:=Ia.mp hu;simp! only[];exact⟨rfl,rfl,hK⟩
  intro p3 G3 n3;have e3:[]++(rngU 0 xs.length).map (λ_=>U.int 0)=(Qb xs.length (0:Int)).map .int:=by
   rw[zi,List.map_const',Xd,List.map_replicate]
  rw[e3]at n3;rw[it_l n3.at];refine(?_:Md T.gs (Bb T (k+74)) Az ⟨λ_ y=>Q .non y,Q,λx _ y=>X x y⟩ [ia (Ib xs ss),ia (.int P),ia (.tup []),ia (.tup []),ia (Oc (winO P ss)),ia .non,ia (Wc (Qb xs.length 0)),Aa,Aa,Aa,Aa] G3)
  have wa:Sa G G3:=s1.trans (s2.trans n3.sa);simp! only[Az];refine uG (k:=k+71) (xs:=xs) so R Y λps G4 F hS hl s4=>?_;simp! only[Kx];refine Te (λn ς y=>∃(bs:List Int) (o7 o8 o9 o10:Option U),ς=[ia (Ib xs ss),ia (.int P),ia (.tup []),ia (.tup []),ia (Oc (winO P ss)),ia .non,ia (Wc bs),o7,o8,o9,o10]/\Sa G y/\Pw xs.length ss P (winO P ss) ps n bs) ?_ ?_
   ⟨Qb xs.length 0,_,_,_,_,rfl,wa.trans s4,by simp,λb hb=>by rw[List.eq_of_mem_replicate hb];lia,λi s _ ⟨p,hp,_⟩=>by simp at hp⟩
  ·rintro ς G5 ⟨bs,o7,o8,o9,o10,rfl,s5,pt⟩;rw[Hb]at pt;refine⟨trivial,?_⟩;simp! only[nJ];refine⟨by decide,q2 bs G5 s5 pt.l pt.b λi hi=>?_⟩
   have J:ss[i]?=ia ss[i]:=Ic hi;obtain⟨p,hp,zb,_⟩:=F.ed _ _ (Ia.mpr ⟨ss[i],Fm hi,rfl⟩);exact pt.k i _ J ⟨p,by rw[ig];exact hp,zb⟩
  ·rintro n u ς G5 K hu ⟨bs,o7,o8,o9,o10,rfl,s5,pt⟩ hk;rw[Dd]at hu;cases ep:ps[n]? with
   |none=>rw[ep]at hu;cases hu
   |some p=>
    rw[ep]at hu;cases hu;have pm:=Hd ep;have pl:=DE F Y pm;obtain⟨x0,rest,rfl⟩:∃x r,p=x::r:=by
     cases p with
     |nil=>exact absurd rfl (F.ne _ pm)
     |cons x r=>exact⟨x,r,rfl⟩
    have b0:=F.bd _ pm x0 (by simp)
    obtain⟨w,rfl⟩:=Cg b0.1;refine⟨trivial,?_⟩;simp! only[];refine RF (k:=k+73) pl λpa G6 s6 g6=>?_;rw[Yt g6,if_neg (by simp)]
    simp! only[Wc];have ec:cut (U.int w::rest.map U.int) Aa (ia 1)=[.int w]:=Gn (U.int w::rest.map U.int) 1;rw[ec];refine OF (k:=k+72) (r:=.tup [.int w]) (xs:=xs) so R (show w<xs.length by lia) Y (λ_ _ _ h=>h) λpf fs G7 s7 nf gf I hC=>?_
    have ja:∀x,x∈(w:Int)::rest↔x∈(w:Int)::Kb fs:=λx=>
     ⟨λO=>(F.co _ pm w (by simp) x O).closed (S:=λz=>z∈(w:Int)::Kb fs) (λa b ha e=>hC a b ha e) (by simp),λO=>F.part pm (by simp) (I.rch.co x O)⟩
    have xb:=Hg _ _ I.nd I.bd;simp only[Kb,Td,Hb]at xb;refine YU (k:=k+70) (xs:=xs) (ps:=(w:Int)::rest) I Y R gf hC (λx O=>(ja x).mp O) λpr rs o G8 s8 nr gr va c1 c2 rl=>?_;have ka:Sa G6 G8:=λb u hb=>s8 _ _ (λz=>by rw[z,nf]at hb;cases hb) (s7 _ _ hb)
    have S8:Sa G G8:=(s5.trans s6).trans ka;have sk:=IR (xs:=xs) (rs:=rs) (pf:=pf) (pr:=pr) (o:=o) (bu:=Wc bs) 70 I Y R p1 (show P<=600 by lia) c1
    refine sk k G8 _ _ (winO P ss) (λ_=>10) wl nv (λf hf v ev=>?_) ?_ va gr (λc m G9 s9 hc hv=>?_) λxa G9 s9 ht=>?_
    ·obtain⟨s,hs,rfl⟩:=Ia.mp (Hd ev);have:=uC (P:=P) (s:=s);have e2:(2:Int) ^ 10=1024:=rfl;rw[e2];show endZ P s-s.lo<1024
     lia
    ·have:∀l:List (Int×Ent),(l.map λ_=>10).sum=10*l.length:=λl=>by
      induction l with
      |nil=>rfl
      |cons a l ih=>rw[Sd,Rv,ih,Td];lia
     rw[this];lia
    ·simp! only[];refine⟨trivial,?_⟩;rw[if_pos (by decide +kernel)]
     have fl:fs.length<=min (xs.length-1) ss.length:=by
      have dn:=I.dn;have e1:(fs.map λf=>((f.2.1:Nat):Int)).Nodup:=by
       have:=Fc.mp dn;exact Fc.mpr (this.imp λ{a b} h z=>h (bK z))
      have:=Hg ss.length _ e1 λx O=>by
       obtain⟨f,hf,rfl⟩:=Ia.mp O;obtain⟨j,hj,ej⟩:=Zg hf;have:=(I.en j f (by rw[Ic hj,ej])).1.1
       lia
      rw[Hb]at this
      lia
     have vl:=V_le (RP (ss:=ss) p1) fs;have pp:P.toNat ^ fs.length<=P.toNat ^ (min (xs.length-1) ss.length):=oj (by lia) fl
     exact⟨by decide,q1 c m G9 (S8.trans s9) hc (by lia) ⟨pz,hz,cz⟩⟩
    ·simp! only[];refine⟨trivial,?_⟩;rw[if_neg (by decide +kernel)]
     simp! only[Oc];refine⟨by rw[Hb,ht.l,wl];exact Lb R (by decide),?_⟩
     refine Xi (λu=>match u with|.tup [a,_]=>a|u=>u) trivial (λu hu K hK=>?_) ?_
     ·obtain⟨v,_,rfl⟩:=Ia.mp hu;show Yc _ (.tup [.int v.1,.int v.2]) _ _;simp! only[];exact⟨trivial,hK⟩
     intro za Ga na;have ea:[]++(xa.map wu).map (λu=>match u with|.tup [a,_]=>a|u=>u)=(xa.map (·.1)).map U.int:=by
      rw[zi,jg,jg];rfl
     rw[ea]at na;have lu:Lu ss Ga (.loc za) (xa.map (·.1)):=⟨by rw[Hb,ht.l,wl],.inl ⟨za,rfl,na.at⟩⟩
     refine KS (k:=k+72) (xs:=xs) I Y lu p1 (show P<=600 by lia) pt.l pt.b (na.sa _ _ (s9 _ _ va)) λya Gb sb l7 b7 e7 k7=>?_
     simp! only[];refine hk _ _ ⟨ya,_,_,_,_,rfl,S8.trans (s9.trans (na.sa.trans sb)),pt.step F ep ja l7 b7 e7 λi s J ho=>?_⟩;refine ht.kw wl p1 (λf hf=>⟨?_,k7 f hf⟩) J (c2 i s J ho);obtain⟨j,hj,ej⟩:=Zg hf;exact(I.en j f (by rw[Ic hj,ej])).1
 ·have Z:∀kk:Bool->Prop,kk ua->Ig (.int (i:Int)) .non kk:=λ_ h=>h;simp! only[zz];refine Z _ ?_;rw[if_pos (by decide)]
  have il:i<ss.length:=by rw[<- wl];exact(Ea.mp ew).1
  have J:ss[i]?=ia ss[i]:=Ic il;refine⟨by decide,by decide,by decide,by decide,by decide,q1 (.tup [.str "ring",vg [(i,1),(i,-1)]]) 1 G2 (s1.trans s2) (.ring (a:=(ss[i].o:Int)) ⟨⟨il,.inl rfl⟩,eS_1 J,⟨il,.inr rfl⟩,?_,eD_m J⟩ (by simp) (by simp) ?_) (by have hp:0<P.toNat ^ (min (xs.length-1) ss.length):=Nat.pow_pos (by lia);lia) ⟨pz,hz,cz⟩⟩
  ·rw[eS_m J,eD_1 J]
  ·have a1:Ze (winO P ss) [(i,1),(i,-1)]=w.1-w.2:=by
    have:Ze (winO P ss) [(i,1),(i,-1)]=Pe (winO P ss) (i,1)+(Pe (winO P ss) (i,-1)+0):=by simp[Ze]
    rw[this];unfold Pe;rw[if_pos rfl,if_neg (show ¬((-1:Int)=1) by decide),getW ew];lia
   have a2:Re (winO P ss) [(i,1),(i,-1)]=w.2-w.1:=by
    have:Re (winO P ss) [(i,1),(i,-1)]=Qe (winO P ss) (i,1)+(Qe (winO P ss) (i,-1)+0):=by simp[Re]
    rw[this];unfold Qe;rw[if_pos rfl,if_neg (show ¬((-1:Int)=1) by decide),getW ew];lia
   unfold Dh;rw[a1,a2];have:=Int.ediv_mul_le (w.2-w.1) (show P≠0 by lia)
   lia
theorem YS  (R:∀s∈ss,s.Ok xs.length)(I:ss.length<=24)(y:0<xs.length)(J:xs.length<=8)(O:1<=P)(F:P<=600)(pb:∀ps ,Ee xs.length (Hc ss) ps->P.toNat ^ (xs.length-ps.length)<=5000000)
  (q1:∀c m j ,Sa G j->Cs ss P 70 m (winO P ss) c->m<=2*P.toNat ^ (min (xs.length-1) ss.length)->(∃ps ,Ee xs.length (Hc ss) ps/\P.toNat ^ (xs.length-ps.length)<=300)->Q (.tup [.str "none",c]) j)
  (q2:∀(bs:List Int) j ,Sa G j->bs.length=xs.length->(∀b∈bs,0<=b/\b<P)->(∀i,i<ss.length->Kw ss P (winO P ss) bs i)->Q (.tup [.str "times",Wc bs]) j)
  (Y:∀(ps:List (List Int)) j ,Ee xs.length (Hc ss) ps->300<P.toNat ^ (xs.length-ps.length)->Sa G j->X ⟨2,[.str "plan"]⟩ j) :
  Bb T (k+76) CH [Ib xs ss,.int P] G Q X:=by
 refine⟨rfl,?_⟩;simp! only[yH,fc,Qb];exact⟨by decide,by decide,nN (k:=k) R I y J O F pb q1 q2 Y⟩
end

section
variable {k:Nat}{G:Gp}{Q:K1}{X:KX}{xs:List Str}{ss:List Ab}{ws:Wn}{P:Int}{W:Nat}{b bs:List Int}
def GC    (j:ss[i]?=ia s)(Z:1<=P):Kw ss P (winO P ss) b i↔s.lo+(bt b s.t-bt b s.o-s.lo)%P<=endZ P s:=by
 have y:(winO P ss)[i]?=ia (s.lo,endZ P s):=by unfold winO;rw[Dd,j];rfl
 have R:=iw (bt b s.t-bt b s.o-s.lo) P;have O:=xh (bt b s.t-bt b s.o-s.lo) (show P≠0 by lia)
 unfold Kw;rw[getW y,eS_1 j,eD_1 j];dsimp only;constructor
 ·rintro⟨l,Y,I,d⟩;have e:(l-s.lo)%P=(bt b s.t-bt b s.o-s.lo)%P:=by
   refine Int.emod_eq_emod_iff_emod_sub_eq_zero.mpr (Int.emod_eq_zero_of_dvd ?_);rw[show l-s.lo-(bt b s.t-bt b s.o-s.lo)=bt b s.o+l-bt b s.t by lia]
   exact d
  have F:=iw (l-s.lo) P;have J:=Int.mul_nonneg (show 0<=P by lia) (Int.ediv_nonneg (show 0<=l-s.lo by lia) (show 0<=P by lia))
  rw[e]at F
  lia
 ·intro h;refine⟨_,by lia,h,-((bt b s.t-bt b s.o-s.lo)/P),?_⟩
  rw[Yz];lia
def QF  {i:Nat}(hs:ss[i]?=ia s)(h:s.Ok W)(q:Q (wu (s.lo,endZ P s)) G):Bb T (k+1) gz [Ib xs ss,.int P,.int i] G Q X:=by
 refine⟨rfl,?_⟩;simp! only[gG,fc,Qb,Ib,ix_t (Gd _ _ _),ix_t (Qf hs),Ab.u];refine⟨trivial,?_⟩;unfold endZ at q;rcases h.w with z|z
 ·rw[z,if_neg (by decide +kernel)]
  rw[z,if_neg (show ¬(("apart" : Str) = "span") by decide +kernel)]at q
  exact⟨by decide,q⟩
 ·rw[z,if_pos (by decide +kernel)]
  rw[z,if_pos rfl]at q;exact⟨by decide,q⟩
def GR  (Y:∀s∈ss,s.Ok W)(Z:ss.length<=24)(q:∀y,Sa G y->Q (Oc (winO P ss)) y):Bb T (k+2) nI [Ib xs ss,.int P] G Q X:=by
 refine⟨rfl,?_⟩;simp! only[kI,fc,Qb,Ib,ix_t (Gd _ _ _),Hb];refine⟨by lia,by lia,by rw[Xd];exact Lb (show((ss.length:Int)).toNat<=24 by lia) (by decide),?_⟩
 refine cg (λi j y=>y=G/\j=(winO P (ss.take i)).map wu) ?_ ?_ ⟨rfl,rfl⟩
 ·rintro j y ⟨rfl,rfl⟩;rw[Xd,ig];refine⟨trivial,λp O J=>?_⟩;dsimp only;rw[it_l J.at];exact q O J.sa
 ·rintro i x j y K R ⟨rfl,rfl⟩ hk _;obtain⟨F,rfl⟩:=Nf R;have F:i<ss.length:=by lia
  have I:ss[i]?=ia ss[i]:=Ic F;refine⟨trivial,?_⟩;simp! only[];refine QF (xs:=xs) (P:=P) I (Y _ (Fm F)) (hk _ _ ⟨rfl,?_⟩);unfold winO;rw[fg,I,wf,wf];rfl
def AE   {a b:Int}(hs:s<ws.length)(wl:ws.length<=24)(q:Q (Oc (ws.set s (a,b))) G):Bb T (k+1) Uy [Oc ws,.int s,.int a,.int b] G Q X:=by
 refine⟨rfl,?_⟩;simp! only[JF,fc,Qb,Oc];have j:cut (ws.map wu) Aa (ia (s:Int))=(ws.take s).map wu:=by rw[Gn,Ar]
 have F:cut (ws.map wu) (ia ((s:Int)+1)) Aa=(ws.drop (s+1)).map wu:=by
  have:=eE (ws.map wu) (s+1);rw[List.map_drop];exact this
 rw[j,F];refine⟨by decide,by decide,Lb (show _<=30 by simp;lia) (by decide),Lb (show _<=60 by simp;lia) (by decide),?_⟩
 have y:(ws.take s).map wu++[U.tup [.int a,.int b]]++(ws.drop (s+1)).map wu=(ws.set s (a,b)).map wu:=by
  rw[jL,if_pos hs];simp[wu]
 rw[y];exact q
def xT   (y:0<P):gap+(lo-gap+P-1)/P*P=lo+(gap-lo)%P:=by
 have F:=xh (gap-lo) (show P≠0 by lia)
 have r1:=Ai (gap-lo) y;have j:=iw (gap-lo) P;generalize I:(gap-lo)%P=r at F r1 j;generalize (gap-lo)/P=e at j;have:lo-gap+P-1=(P-1-r)+P*(-e):=by rw[Yz];lia
 rw[this,Int.add_mul_ediv_left _ _ (show P≠0 by lia),Int.ediv_eq_zero_of_lt (by lia) (by lia),Int.zero_add,Int.neg_mul,Do]
 lia
def lk  (P:Int)(bs:List Int)(s:Ab):Bool:=decide (s.lo+(bt bs s.t-bt bs s.o-s.lo)%P<=endZ P s)
def Ff  (P:Int)(ss:List Ab)(bs:List Int):Bool:=ss.all (lk P bs)
def KC  (y:1<=P):Ff P ss b=la↔∀i,i<ss.length->Kw ss P (winO P ss) b i:=by
 unfold Ff lk;rw[Mg];constructor
 ·intro h i j;have:=h _ (Fm j);rw[decide_eq_true_eq]at this;exact(GC (Ic j) y).mpr this
 ·intro h s F;obtain⟨i,j,e⟩:=Zg F;have I:ss[i]?=ia s:=by rw[Ic j,e]
  rw[decide_eq_true_eq];exact(GC I y).mp (h i j)
def GV  {i:Nat}(y:0<P)(F:P<=600)(bl:bs.length=W)(j:s.Ok W)(h:ss[i]?=ia s)(q:Q (.int (s.lo+(bt bs s.t-bt bs s.o-s.lo)%P)) G):Bb T (k+1) pH [Ib xs ss,.int P,Wc bs,.int i] G Q X:=by
 have o:=j.o;have t:=j.t;refine⟨rfl,?_⟩;simp! only[eG,fc,Qb,Ib,ix_t (Gd _ _ _),ix_t (Qf h),Ab.u,Wc,ix_t (Fl (bs:=bs) (x:=(s.o:Int)) (by omega) (by omega)),ix_t (Fl (bs:=bs) (x:=(s.t:Int)) (by omega) (by omega))]
 have e:=xT (gap:=(bt bs s.t-bt bs s.o)%P) (lo:=s.lo) y;rw[Int.emod_sub_emod]at e;rw[e];exact⟨trivial,by lia,by lia,by lia,.inr (by constructor<;>lia),q⟩
def eF  (R:0<P)(Y:P<=600)(bl:bs.length=W)(so:∀s∈ss,s.Ok W)(sl:ss.length<=24)(q:Q (.bl (Ff P ss bs)) G):Bb T (k+2) iz [Ib xs ss,.int P,Wc bs] G Q X:=by
 refine⟨rfl,?_⟩;simp! only[kG,fc,Qb,Ib,ix_t (Gd _ _ _),Hb];refine⟨by lia,by lia,?_⟩
 refine Te (λi y O=>O=G/\(∃o3,y=[ia (Ib xs ss),ia (.int P),ia (Wc bs),o3])/\(ss.take i).all (lk P bs)=la) ?_ ?_ ⟨rfl,⟨_,rfl⟩,rfl⟩
 ·rintro y J ⟨rfl,⟨o3,rfl⟩,h⟩;rw[Xd,ig]at h;refine⟨trivial,?_⟩;simp! only[];rw[show Ff P ss bs=la from h]at q;exact q
 ·rintro i x y J K Z ⟨rfl,⟨o3,rfl⟩,h⟩ hk;obtain⟨I,rfl⟩:=Nf Z;obtain⟨s,j⟩:∃s,ss[i]?=ia s:=⟨_,Ic I⟩;have F:=so s (Hd j);refine⟨trivial,?_⟩;simp! only[];refine GV R Y bl F j ?_;refine QF (k:=k) (xs:=xs) j F ?_;rw[show wu (s.lo,endZ P s)=.tup [.int s.lo,.int (endZ P s)]from rfl,ix_t (Gd _ _ _)];simp! only[];by_cases c:endZ P s<s.lo+(bt bs s.t-bt bs s.o-s.lo)%P
  ·rw[if_pos (decide_eq_true c)];have:Ff P ss bs=ua:=by
    rw[Bool.eq_false_iff];intro z;have:=Mg.mp z s (Hd j);unfold lk at this;rw[decide_eq_true_eq]at this
    lia
   rw[this]at q;exact q
  ·rw[if_neg (by simpa using c)]
   refine hk _ _ ⟨rfl,⟨_,rfl⟩,?_⟩;rw[fg,j,List.all_append,h];have:lk P bs s=la:=by unfold lk;rw[decide_eq_true_eq];lia
   simp[this]
end

noncomputable def mn  (a b:Int):Int:=if b<a then b else a
def bg  (m:List Int)(s:Ab):List Int:=(m.set s.o (mn (bt m s.o) (bt m s.t))).set s.t (mn (bt m s.o) (bt m s.t))
def pass  (ss:List Ab)(m:List Int):List Int:=ss.foldl bg m
noncomputable def Fe  (W:Nat)(ss:List Ab):Nat->List Int
 |0=>(md W).map λ(i:Nat)=>(i:Int)
 |n+1=>pass ss (Fe W ss n)
def jN   a b:mn a b<=a/\mn a b<=b/\(mn a b=a\/mn a b=b):=by unfold mn;split<;>lia
section
variable {W:Nat}{m:List Int}{s:Ab}{ss:List Ab}{x:Int}
def dS  : (bg m s).length=m.length:=by unfold bg;simp
def tu  (J:m.length=W)(I:s.Ok W)(h0:0<=x):bt (bg m s) x=if x=s.o\/x=s.t then mn (bt m s.o) (bt m s.t) else bt m x:=by
 have o:=I.o;have t:=I.t;unfold bg;have j:=Jx (bs:=m.set s.o (mn (bt m s.o) (bt m s.t))) (x:=(s.t:Int)) (y:=x) (v:=mn (bt m s.o) (bt m s.t)) (by lia) (by rw[Mh];lia) h0
 rw[wo]at j;rw[j];have F:=Jx (bs:=m) (x:=(s.o:Int)) (y:=x) (v:=mn (bt m s.o) (bt m s.t)) (by lia) (by lia) h0
 rw[wo]at F;rw[F];by_cases c1:x=s.t
 ·rw[if_pos c1,if_pos (.inr c1)]
 ·rw[if_neg c1];by_cases c2:x=s.o
  ·rw[if_pos c2,if_pos (.inl c2)]
  ·rw[if_neg c2,if_neg (by lia)]
structure Mk (W:Nat)(ss:List Ab)(m:List Int):Prop where
 l:m.length=W
 b:∀x:Int,0<=x->x<W->0<=bt m x/\bt m x<=x/\Con (Hc ss) x (bt m x)
def Mk.st  (h:Mk W ss m)(j:s.Ok W)(hs:s∈ss):Mk W ss (bg m s)/\(∀x ,0<=x->bt (bg m s) x<=bt m x)/\bt (bg m s) s.o<=bt m s.t/\bt (bg m s) s.t<=bt m s.o:=by
 have o:=j.o;have t:=j.t;have O:=h.b s.o (by lia) (by lia)
 have y:=h.b s.t (by lia) (by lia)
 have F:Con (Hc ss) s.o s.t:=.one (.inl (Ia.mpr ⟨s,hs,rfl⟩));obtain⟨Z,Y,I⟩:=jN (bt m s.o) (bt m s.t);have J:Con (Hc ss) s.o (mn (bt m s.o) (bt m s.t)):=by
  rcases I with z|z<;>rw[z]
  ·exact O.2.2
  ·exact F.trans y.2.2
 have pos:0<=mn (bt m s.o) (bt m s.t):=by rcases I with z|z<;>rw[z];exact O.1;exact y.1
 refine⟨⟨dS.trans h.l,λx h0 R=>?_⟩,λx h0=>?_,?_,?_⟩
 ·rw[tu h.l j h0];by_cases c:x=s.o\/x=s.t
  ·rw[if_pos c];rcases c with rfl|rfl
   ·exact⟨pos,by lia,J⟩
   ·exact⟨pos,by lia,F.symm.trans J⟩
  ·rw[if_neg c];exact h.b x h0 R
 ·rw[tu h.l j h0];by_cases c:x=s.o\/x=s.t
  ·rw[if_pos c];rcases c with rfl|rfl<;>lia
  ·rw[if_neg c];lia
 ·rw[tu h.l j (by lia),if_pos (.inl rfl)];exact Y
 ·rw[tu h.l j (by lia),if_pos (.inr rfl)];exact Z
theorem Mk.fold  : ∀(l:List Ab) {m },(∀s∈l,s.Ok W/\s∈ss)->Mk W ss m->Mk W ss (l.foldl bg m)/\(∀x ,0<=x->bt (l.foldl bg m) x<=bt m x)/\∀s∈l,bt (l.foldl bg m) s.o<=bt m s.t/\bt (l.foldl bg m) s.t<=bt m s.o
 |[],_,_,hm=>⟨hm,λ_ _=>zg _,λ_ h=>(nomatch h)⟩
 |a::r,m,hl,hm=>by
  obtain⟨Z,R⟩:=hl a Cf;obtain⟨I,F,k3,Y⟩:=hm.st Z R;obtain⟨j1,y,j3⟩:=Mk.fold r (λs j=>hl s (Uc _ j)) I;refine⟨j1,λx h0=>Co (y x h0) (F x h0),λs j=>?_⟩;rcases ic.mp j with rfl|j
  ·exact⟨Co (y _ (by lia)) k3,Co (y _ (by lia)) Y⟩
  ·obtain⟨O,J⟩:=j3 s j;exact⟨Co O (F _ (by lia)),Co J (F _ (by lia))⟩
def Am  (ss:List Ab)(m:List Int)(x:Int):Prop:=∀y,Con (Hc ss) x y->bt m x<=y
def fu  (j:∀s∈ss,s.Ok W)(h:Con (Hc ss) x y)(h0:0<=x)(F:x<W):0<=y/\y<W:=h.closed (S:=λz=>0<=z/\z<W) (λa b _ e=>by
 rcases e with e|e
 ·exact(Bn j _ _ e).2
 ·exact(Bn j _ _ e).1) ⟨h0,F⟩
def NT  (I:∀s∈ss,s.Ok W)(h0:0<=x)(F:x<W):∃y,Con (Hc ss) x y/\∀z,Con (Hc ss) x z->y<=z:=by
 have O:∀n:Nat,∀y:Int,Con (Hc ss) x y->y.toNat<=n->∃y,Con (Hc ss) x y/\∀z,Con (Hc ss) x z->y<=z:=λn=>by
  induction n with
  |zero=>exact λy c J=>⟨y,c,λz j=>by have:=fu I j h0 F;lia⟩
  |succ n R=>
   intro y c J;by_cases e:∃z,Con (Hc ss) x z/\z<y
   ·obtain⟨z,j,Y⟩:=e;have:=fu I j h0 F;exact R z j (by lia)
   ·exact⟨y,c,λz j=>by
     by_cases l:z<y
     ·exact absurd ⟨z,j,l⟩ e
     ·lia⟩
 exact O _ x (.refl x) (Fb _)
def mk_0  : Mk W ss (Fe W ss 0):=by
 refine⟨by simp[Fe],λx h0 j=>?_⟩
 obtain⟨i,rfl⟩:=Cg h0;have:bt (Fe W ss 0) (i:Int)=i:=by
  unfold bt Fe;simp[ee,show i<W by lia]
 rw[this];exact⟨h0,zg _,.refl _⟩
theorem mk_n  (y:∀s∈ss,s.Ok W):∀n,Mk W ss (Fe W ss n)
 |0=>mk_0
 |n+1=>(Mk.fold ss (λs j=>⟨y s j,j⟩) (mk_n y n)).1
theorem RB  (O:∀s∈ss,s.Ok W):∀n,∃L:List Int,L.Nodup/\(∀x∈L,(0<=x/\x<W)/\Am ss (Fe W ss n) x)/\(n<=L.length\/∀x:Int,0<=x->x<W->Am ss (Fe W ss n) x)
 |0=>⟨[],.nil,λ_ h=>(nomatch h),.inl (Fb _)⟩
 |n+1=>by
  obtain⟨L,nd,J,hn⟩:=RB O n;have hm:=mk_n O n;obtain⟨_,xa,F⟩:=Mk.fold ss (λs R=>⟨O s R,R⟩) hm;have up:∀x:Int,0<=x->Am ss (Fe W ss n) x->Am ss (Fe W ss (n+1)) x:=λx h0 h y c=>Co (xa x h0) (h y c);by_cases all:∀x:Int,0<=x->x<W->Am ss (Fe W ss n) x
  ·exact⟨L,nd,λx j=>⟨(J x j).1,up x (J x j).1.1 (J x j).2⟩,.inr λx h0 Z=>up x h0 (all x h0 Z)⟩
  have hn:=hn.resolve_right all;obtain⟨x,j⟩:=Classical.not_forall.mp all;have h0:0<=x:=by
   by_cases c:0<=x
   ·exact c
   ·exact absurd (λh=>absurd h c) j
  have Z:x<W:=by
   by_cases c:x<W
   ·exact c
   ·exact absurd (λ_ h=>absurd h c) j
  have j:¬Am ss (Fe W ss n) x:=λh=>j λ_ _=>h;obtain⟨y,cy,ly⟩:=NT O h0 Z;have iy:=fu O cy h0 Z;have ay:Am ss (Fe W ss n) y:=λz cz=>by
   have:=(hm.b y iy.1 iy.2).2.1;have:=ly z (cy.trans cz)
   lia
  have I:∃a b,Am ss (Fe W ss n) a/\((a,b)∈Hc ss\/(b,a)∈Hc ss)/\¬Am ss (Fe W ss n) b:=by
   refine gB λno=>j ?_;refine cy.symm.closed (S:=λz=>Am ss (Fe W ss n) z) (λa b ha e=>?_) ay;exact gB λhb=>no ⟨a,b,ha,e,hb⟩
  obtain⟨a,b,ha,e,hb⟩:=I;have ab:Con (Hc ss) a b:=.one e;have ib:0<=b/\b<W:=by
   rcases e with e|e
   ·exact(Bn O _ _ e).2
   ·exact(Bn O _ _ e).1
  have nb:Am ss (Fe W ss (n+1)) b:=λz cz=>by
   have l1:bt (Fe W ss (n+1)) b<=bt (Fe W ss n) a:=by
    rcases e with e|e
    ·obtain⟨s,R,es⟩:=Ia.mp e;obtain⟨e1,e2⟩:=jo es;rw[<- e1,<- e2];exact(F s R).2
    ·obtain⟨s,R,es⟩:=Ia.mp e;obtain⟨e1,e2⟩:=jo es;rw[<- e1,<- e2];exact(F s R).1
   have:=ha z (ab.trans cz)
   lia
  refine⟨b::L,Ra.mpr ⟨λz=>hb (J b z).2,nd⟩,λz Y=>?_,.inl (by rw[Td];lia)⟩
  rcases ic.mp Y with rfl|Y
  ·exact⟨ib,nb⟩
  ·exact⟨(J z Y).1,up z (J z Y).1.1 (J z Y).2⟩
def Ke  (W:Nat)(ss:List Ab):List Int:=Fe W ss W
def Rx  (R:∀s∈ss,s.Ok W)(h0:0<=x)(J:x<W):Am ss (Ke W ss) x:=by
 obtain⟨L,O,I,j⟩:=RB R W;rcases j with j|j
 ·by_cases c:x∈L
  ·exact(I x c).2
  ·have:=Hg W (x::L) (Ra.mpr ⟨c,O⟩) λy F=>by
    rcases ic.mp F with rfl|F
    ·exact⟨h0,J⟩
    ·exact(I y F).1
   rw[Td]at this
   lia
 ·exact j x h0 J
def AR  (j:∀s∈ss,s.Ok W)(hs:s∈ss):bt (Ke W ss) s.o=bt (Ke W ss) s.t:=by
 have o:=(j s hs).o;have t:=(j s hs).t;have F:=mk_n j W;have y:Con (Hc ss) s.o s.t:=.one (.inl (Ia.mpr ⟨s,hs,rfl⟩));have I:=Rx j (x:=(s.o:Int)) (by lia) (by lia) _ (y.trans (F.b s.t (by lia) (by lia)).2.2)
 have J:=Rx j (x:=(s.t:Int)) (by lia) (by lia) _ (y.symm.trans (F.b s.o (by lia) (by lia)).2.2)
 have O:Fe W ss W=Ke W ss:=rfl;rw[O]at I J
 lia
def Ou  (F:∀s∈ss,s.Ok W)(h0:0<=x)(j:x<W):bt (Ke W ss) x=x↔∀y,Con (Hc ss) x y->x<=y:=by
 have I:=mk_n F W;constructor
 ·intro e y c;have:=Rx F h0 j y c
  lia
 ·intro h;have:=h _ (I.b x h0 j).2.2;have:=(I.b x h0 j).2.1;exact Int.le_antisymm this ‹_›
end

def ZN {I:List U}{F:Cl}{y:Sg}{G:Gp}{Q:K1}{X:KX}{e:E}:(Ua I F (.rngL e)).1 y G Q X=(Ua I F e).1 y G (λx J=>match x with|.int j=>0<=j/\j<=1000000/\newO J (.lst (rngU 0 j.toNat)) Q|_=>False) X:=rfl
def sF  (w8:xs.length<=8)(Z:∀s∈ss,s.Ok xs.length)(sl:ss.length<=24)(q:∀p F,Sa G F->G p=Aa->F p=ia (.lst ((Ke xs.length ss).map .int))->Q (.loc p) F):Bb T (k+1) dz [Ib xs ss] G Q X:=by
 refine⟨rfl,?_⟩;simp! only[dG,fc,Qb,ZN,Ib,ix_t (Le _ _),Hb];refine⟨by lia,by lia,λp G1 O=>?_⟩
 simp! only[UH,Ib,ix_t (Le _ _)];refine Te (λi J F=>(∃o2 o3 o4 o5 o6 o7 o8,J=[ia (Ib xs ss),ia (.loc p),o2,o3,o4,o5,o6,o7,o8])/\Sa G F/\F p=ia (.lst ((Fe xs.length ss i).map .int))) ?_ ?_ ⟨⟨_,_,_,_,_,_,_,rfl⟩,O.sa,?_⟩
 ·rintro J G2 ⟨⟨o2,o3,o4,o5,o6,o7,o8,rfl⟩,s2,g2⟩;rw[Hb]at g2;refine⟨trivial,?_⟩;simp! only[VH];exact q p G2 s2 O.no g2
 ·rintro i x J G2 K hx ⟨⟨o2,o3,o4,o5,o6,o7,o8,rfl⟩,s2,g2⟩ hk;have hm:=mk_n Z i;refine⟨trivial,?_⟩;simp! only[qI,Ib,ix_t (Gd _ _ _)];refine Te (λj J F=>(∃o2 o3 o4 o5 o6 o7 o8,J=[ia (Ib xs ss),ia (.loc p),o2,o3,o4,o5,o6,o7,o8])/\Sa G F/\F p=ia (.lst (((ss.take j).foldl bg (Fe xs.length ss i)).map .int))) ?_ ?_ ⟨⟨_,_,_,_,_,_,_,rfl⟩,s2,g2⟩
  ·rintro J G3 ⟨⟨o2,o3,o4,o5,o6,o7,o8,rfl⟩,s3,g3⟩;rw[Hb,ig]at g3;exact⟨trivial,hk _ _ ⟨⟨_,_,_,_,_,_,_,rfl⟩,s3,g3⟩⟩
  ·rintro j y J G3 K3 I ⟨⟨o2,o3,o4,o5,o6,o7,o8,rfl⟩,s3,g3⟩ hk3;rw[Dd]at I;cases R:ss[j]? with
   |none=>rw[R]at I;cases I
   |some s=>
    rw[R]at I;have I:=(Nd I).symm;subst I;have os:=Z s (Hd R);have o:=os.o;have t:=os.t;have hl:=(Mk.fold (ss:=ss) (ss.take j) (λs hs=>⟨Z s (Em hs),Em hs⟩) hm).1.l;have nx:(ss.take (j+1)).foldl bg (Fe xs.length ss i)=bg ((ss.take j).foldl bg (Fe xs.length ss i)) s:=by
     rw[fg,R,List.foldl_append];rfl
    generalize (ss.take j).foldl bg (Fe xs.length ss i)=m at g3 hl nx;refine⟨trivial,?_⟩;rw[show s.u=.tup [.str s.w,.int s.o,.int s.t,.int s.lo,.int s.hi]from rfl];simp! only[];refine⟨trivial,?_⟩;simp! only[iJ,ix_l g3 (Fl (bs:=m) (x:=(s.o:Int)) (by omega) (by omega)),ix_l g3 (Fl (bs:=m) (x:=(s.t:Int)) (by omega) (by omega))]
    rw[show(if bt m s.t<bt m s.o then bt m s.t else bt m s.o)=mn (bt m s.o) (bt m s.t)from rfl]
    rw[yx g3 (ny (by rw[Hb];lia))]
    intro G4 Y;rw[<- Xz]at Y;have g4:=Y.at
    rw[yx g4 (ny (by rw[Hb,Mh];lia))]
    intro G5 p5;refine hk3 _ _ ⟨⟨_,_,_,_,_,_,_,rfl⟩,λb u e=>p5.sm _ _ (λz=>by rw[z,O.no]at e;cases e) (Y.sm _ _ (λz=>by rw[z,O.no]at e;cases e) (s3 _ _ e)),?_⟩
    rw[p5.at,nx,<- Xz];rfl
 ·rw[O.at];unfold Fe rngU;rw[jg];congr 2;exact fw λi _=>by simp

def vN   (k:Int)(h:a=b+P*k):a%P=b%P:=by rw[h,Int.add_mul_emod_self_left]
noncomputable def nB  (fs:List Int)(P:Nat)(w:Nat):Nat:=if (w:Int)∈fs then 1 else P
def rowX  (fs:List Int)(P:Nat)(w:Nat)(r:List Int):List (List Int):=(md (nB fs P w)).map λ(j:Nat)=>r++[(j:Int)]
noncomputable def rg  (fs:List Int)(P:Nat):Nat->List (List Int)
 |0=>[[]]
 |w+1=>(rg fs P w).flatMap (rowX fs P w)
def xU     : (rowX fs P w r).length=nB fs P w:=by simp[rowX]
def UB    (j:1<=P) w:nB fs P w<=P:=by unfold nB;split<;>lia
theorem Bx    : ∀l:List (List Int),(l.flatMap (rowX fs P w)).length=l.length*nB fs P w
 |[]=>by simp
 |r::l=>by rw[List.flatMap_cons,Xf,xU,Bx l,Td,Zz];lia
theorem Tq    : ∀{w } {b },b∈rg fs P w↔b.length=w/\∀i,i<w->0<=b.getD i 0/\b.getD i 0<(nB fs P i:Int)
 |0,b=>by
  simp only[rg,Fa];exact⟨λh=>⟨by simp[h],λi h=>absurd h (Nat.not_lt_zero i)⟩,λh=>List.length_eq_zero_iff.mp h.1⟩
 |w+1,b=>by
  show b∈(rg fs P w).flatMap _↔_;rw[List.mem_flatMap];constructor
  ·rintro⟨r,R,O⟩;obtain⟨j,I,rfl⟩:=Ia.mp O;obtain⟨F,y⟩:=Tq.mp R;have I:=Va.mp I;refine⟨by simp[F],λi h=>?_⟩
   by_cases e:i=w
   ·subst e;rw[show(r++[(j:Int)]).getD i 0=j by simp[ee,F]]
    lia
   ·rw[show(r++[(j:Int)]).getD i 0=r.getD i 0 by simp[ee,Zj (show i<r.length by lia)]]
    exact y i (by lia)
  ·rintro⟨F,y⟩;refine⟨b.take w,Tq.mpr ⟨by simp;lia,λi h=>?_⟩,Ia.mpr ⟨(b.getD w 0).toNat,Va.mpr ?_,?_⟩⟩
   ·rw[show(b.take w).getD i 0=b.getD i 0 by simp[ee,Hr,h]]
    exact y i (by lia)
   ·have:=y w (by lia);lia
   ·have Y:=y w (by lia)
    have e:((b.getD w 0).toNat:Int)=b.getD w 0:=by lia
    rw[e];have J:w<b.length:=by lia
    rw[show b.getD w 0=b[w] by simp[ee,J]]
    have:=List.take_append_getElem J;rw[this,IA (by lia)]
noncomputable def nr  (fs:List Int):Nat->Nat
 |0=>0
 |w+1=>nr fs w+if (w:Int)∈fs then 0 else 1
theorem Ny    : ∀w,(rg fs P w).length=P ^ nr fs w
 |0=>rfl
 |w+1=>by
  show((rg fs P w).flatMap (rowX fs P w)).length=P ^ (nr fs w+if (w:Int)∈fs then 0 else 1)
  rw[Bx,Ny w,Nat.pow_add];unfold nB;split<;>simp
def DR    (h:w<=v):nr fs w<=nr fs v:=by
 induction v with
 |zero=>rw[Nat.le_zero.mp h];exact Fb _
 |succ v j=>
  by_cases e:w=v+1
  ·rw[e];exact Fb _
  ·exact Lb (j (by lia)) (Nat.le_add_right _ _)
theorem Qx   : ∀w ,nr fs w+(((md w).map λ(i:Nat)=>(i:Int)).filter λx=>decide (x∈fs)).length=w
 |0=>rfl
 |w+1=>by
  have j:=Qx (fs:=fs) w;show nr fs w+(if (w:Int)∈fs then 0 else 1)+_=w+1
  rw[uo,wf,Gr,Xf];by_cases c:(w:Int)∈fs
  ·rw[if_pos c,show([w].map λ(i:Nat)=>(i:Int)).filter (λx=>decide (x∈fs))=[(w:Int)]from by simp[c]]
   simp only[ZA];lia
  ·rw[if_neg c,show([w].map λ(i:Nat)=>(i:Int)).filter (λx=>decide (x∈fs))=[]from by simp[c]]
   simp only[ah];lia
theorem sy  : ∀l j:List Int,l.Nodup->(∀x,x∈l->x∈j)->l.length<=j.length
 |[],_,_,_=>He _
 |x::r,j,nd,hs=>by
  obtain⟨I,J⟩:=Ra.mp nd;have m:=hs x Cf;have:=sy r (j.erase x) J λy F=>(List.mem_erase_of_ne (λz=>I (by rw[<- z];exact F))).mpr (hs y (Uc _ F))
  rw[MK m]at this;have:0<j.length:=GA m;simp only[Td];lia
def Cd  (W:Nat)(ss:List Ab):List Int:=((md W).map λ(i:Nat)=>(i:Int)).filter λx=>decide (bt (Ke W ss) x=x)

def Jh   : x∈Cd W ss↔(0<=x/\x<W)/\bt (Ke W ss) x=x:=by
 unfold Cd;rw[Sc,decide_eq_true_eq];refine and_congr_left λ_=>⟨λh=>?_,λh=>?_⟩
 ·obtain⟨i,j,rfl⟩:=Ia.mp h;have:=Va.mp j
  lia
 ·exact Ia.mpr ⟨x.toNat,Va.mpr (by lia),by lia⟩
def mQ  : (Cd W ss).Nodup:=by
 refine List.Pairwise.filter _ (Fc.mpr ((List.nodup_range (n:=W)).imp λ{a b} h z=>h (bK z)))
def FS  (so:∀s∈ss,s.Ok W)(F:Ee W (Hc ss) ps):(Cd W ss).length=ps.length:=by
 have hd:∀p∈ps,p.headD 0∈p:=λp j=>GT (F.ne p j);have J:∀p∈ps,∀y∈p,p.headD 0<=y:=λp j y R=>by
  have as:=F.as p j;cases p with
  |nil=>cases R
  |cons a r=>
   show a<=y;rcases ic.mp R with z|z
   ·lia
   ·have:=(Vb.mp as).1 y z;lia
 refine Nat.le_antisymm ?_ ?_
 ·have:=sy (Cd W ss) (ps.map (·.headD 0)) mQ λx O=>by
   obtain⟨⟨h0,Y⟩,e⟩:=Jh.mp O;obtain⟨p,j,I⟩:=F.al x h0 Y;refine Ia.mpr ⟨p,j,?_⟩;have l1:=J p j x I;have l2:=(Ou so h0 Y).mp e _ (F.co p j x I _ (hd p j));exact Int.le_antisymm l1 l2
  rwa [Hb]at this
 ·have nd:(ps.map (·.headD 0)).Nodup:=Fc.mpr (F.nd.imp_of_mem λ{p q} j Z ne e=>ne (F.un p j q Z _ (hd p j) (e ▸ hd q Z)));have:=sy (ps.map (·.headD 0)) (Cd W ss) nd λx O=>by
   obtain⟨p,j,rfl⟩:=Ia.mp O;have b:=F.bd p j _ (hd p j);exact Jh.mpr ⟨b,(Ou so b.1 b.2).mpr λy c=>J p j y (F.part j (hd p j) c)⟩
  rwa [Hb]at this
def Jy  (I:∀s∈ss,s.Ok W)(F:Ee W (Hc ss) ps):nr (Cd W ss) W=W-ps.length:=by
 have h:=Qx (fs:=Cd W ss) W;have e:(((md W).map λ(i:Nat)=>(i:Int)).filter λx=>decide (x∈Cd W ss))=Cd W ss:=by
  conv=>rhs;unfold Cd
  refine List.filter_congr λx j=>?_;obtain⟨i,y,rfl⟩:=Ia.mp j;have:=Va.mp y;by_cases c:bt (Ke W ss) (i:Int)=i
  ·rw[decide_eq_true c,decide_eq_true (Jh.mpr ⟨by lia,c⟩)]
  ·rw[decide_eq_false c,decide_eq_false λz=>c (Jh.mp z).2]
 rw[e,FS I F]at h
 lia
def CT  (F:∀s∈ss,s.Ok W)(J:1<=P)(hk:Ff P ss bs=la):∃b∈rg (Cd W ss) P.toNat W,Ff P ss b=la:=by
 refine⟨(md W).map λ(i:Nat)=>(bt bs i-bt bs (bt (Ke W ss) i))%P,Tq.mpr ⟨by simp,λi y=>?_⟩,?_⟩
 ·have e:((md W).map λ(i:Nat)=>(bt bs i-bt bs (bt (Ke W ss) i))%P).getD i 0=(bt bs i-bt bs (bt (Ke W ss) i))%P:=by simp[ee,y]
  rw[e];have I:=xh (bt bs i-bt bs (bt (Ke W ss) i)) (show P≠0 by lia)
  have r1:=Ai (bt bs i-bt bs (bt (Ke W ss) i)) (show 0<P by lia)
  unfold nB;split
  ·rename_i h;rw[(Jh.mp h).2,Int.sub_self];simp
  ·lia
 ·unfold Ff at hk ⊢;rw[Mg]at hk ⊢;intro s j;have:=hk s j;have o:=(F s j).o;have t:=(F s j).t;have g:∀i:Nat,i<W->bt ((md W).map λ(i:Nat)=>(bt bs i-bt bs (bt (Ke W ss) i))%P) (i:Int)=(bt bs i-bt bs (bt (Ke W ss) i))%P:=λi y=>by
   show ee _ ((i:Int)).toNat 0=_;rw[wo];simp[ee,y]
  unfold lk at this ⊢;rw[g _ o,g _ t,AR F j];have e:((bt bs s.t-bt bs (bt (Ke W ss) s.t))%P-(bt bs s.o-bt bs (bt (Ke W ss) s.t))%P-s.lo)%P=(bt bs s.t-bt bs s.o-s.lo)%P:=by
   refine vN ((bt bs s.o-bt bs (bt (Ke W ss) s.t))/P-(bt bs s.t-bt bs (bt (Ke W ss) s.t))/P) ?_;rw[Int.emod_def,Int.emod_def,Int.mul_sub]
   lia
  rw[e];exact this
def KR  {j y:Type}{f:j->List y}{l:List j}{a:j}(h:l[i]?=ia a):(l.take (i+1)).flatMap f=(l.take i).flatMap f++f a:=by
 rw[fg,h,List.flatMap_append];simp
def zN    {j:List (List Int)}(F:1<=P)(y:P<=600)(hr:j.length<=300) i:((j.take i).flatMap (rowX fs P w)).length<=180000:=by
 rw[Bx];have I:(j.take i).length<=300:=by rw[kj];lia
 have y:=Lb (UB (fs:=fs) F w) y;exact Lb (wA I y) (by decide)

def fF  {j:Type}{f:j->Bool}{l:List j}{a:j}(h:l[i]?=ia a):(l.take (i+1)).filter f=(l.take i).filter f++if f a=la then [a] else []:=by
 rw[fg,h,Gr];cases e:f a<;>simp[e]
def QS  (w8:xs.length<=8)(so:∀s∈ss,s.Ok xs.length)(sl:ss.length<=24)(h1:1<=P)(h2:P<=600)(hR:P.toNat ^ nr (Cd xs.length ss) xs.length<=300)
  (q:∀p I,Sa G I->I p=ia (.lst ((rg (Cd xs.length ss) P.toNat xs.length).map Wc))->Q (.loc p) I):Bb T (k+2) sG [Ib xs ss,.int P] G Q X:=by
 refine⟨rfl,?_⟩;simp! only[jG,fc,Qb];refine sF w8 so sl λp2 G1 s1 ja g2=>?_;have ml:=(mk_n (ss:=ss) (W:=xs.length) so xs.length).l;have mr:∀w:Nat,w<xs.length->((w:Int)∈Cd xs.length ss↔bt (Ke xs.length ss) (w:Int)=w):=λw hw=>⟨λh=>(Jh.mp h).2,λh=>Jh.mpr ⟨by lia,h⟩⟩
 have ml:(Ke xs.length ss).length=xs.length:=ml;have r3:∀w,w<=xs.length->(rg (Cd xs.length ss) P.toNat w).length<=300:=λw hw=>by
  rw[Ny];exact Lb (oj (by lia) (DR hw)) hR
 have nb:=λw=>UB (fs:=Cd xs.length ss) (P:=P.toNat) (by lia) w
 have F:∀w:Nat,nB (Cd xs.length ss) P.toNat w=if (w:Int)∈Cd xs.length ss then 1 else P.toNat:=λ_=>rfl
 generalize Ke xs.length ss=mk at g2 mr ml;generalize Cd xs.length ss=zs at q mr r3 nb F;simp! only[VG];refine⟨by decide,by decide,λp3 G4 n4=>?_⟩
 simp! only[WG,Ib,ix_t (Le _ _),Hb];refine⟨by lia,by lia,?_⟩
 refine Te (λi Z I=>∃(J:Ba) (o4 o5 o6:Option U),Z=[ia (Ib xs ss),ia (.int P),ia (.loc p2),ia (.loc J),o4,o5,o6]/\Sa G I/\I p2=ia (.lst (mk.map .int))/\I J=ia (.lst ((rg zs P.toNat i).map Wc))) ?_ ?_ ⟨p3,_,_,_,rfl,s1.trans n4.sa,n4.sa _ _ g2,n4.at⟩
 ·rintro Z G5 ⟨J,o4,o5,o6,rfl,s5,g2,gf⟩;rw[Xd]at gf;refine⟨trivial,?_⟩;simp! only[XG];exact q J G5 s5 gf
 ·rintro w x Z G5 K hx ⟨J,o4,o5,o6,rfl,s5,g2,gf⟩ hk;obtain⟨hw,rfl⟩:=Nf hx;have hw:w<xs.length:=by lia
  have r3:=r3 w (by lia)
  have nb:=nb w;have F:=F w;have mr:=mr w hw;refine⟨trivial,?_⟩;simp! only[NI];refine⟨by decide,λO G6 n6=>?_⟩
  have fr:G O=Aa:=Wu s5 n6.no;have l2:O≠p2:=oi g2 n6.no;have lf:O≠J:=oi gf n6.no;have za:=n6.sa _ _ gf;simp! only[OI,it_l za];refine Te (λj Z I=>∃o6:Option U,Z=[ia (Ib xs ss),ia (.int P),ia (.loc p2),ia (.loc J),ia (.int w),ia (.loc O),o6]/\Sa G I/\I p2=ia (.lst (mk.map .int))/\I J=ia (.lst ((rg zs P.toNat w).map Wc))/\I O=ia (.lst ((((rg zs P.toNat w).take j).flatMap (rowX zs P.toNat w)).map Wc))) ?_ ?_ ⟨_,rfl,s5.trans n6.sa,n6.sa _ _ g2,za,n6.at⟩
  ·rintro Z G7 ⟨o6,rfl,s7,g27,gf7,gl7⟩;rw[Hb,ig]at gl7;refine⟨by unfold ud;rw[gf7],?_⟩
   simp! only[QI];exact hk _ _ ⟨O,_,_,_,rfl,s7,g27,gl7⟩
  ·rintro j y Z G7 K7 Y ⟨o6,rfl,s7,g27,gf7,gl7⟩ hk7;rw[Dd]at Y;cases es:(rg zs P.toNat w)[j]? with
   |none=>rw[es]at Y;cases Y
   |some b=>
    rw[es]at Y;have Y:=(Nd Y).symm;subst Y;have bl:=(Tq.mp (Hd es)).1;have tl:=zN (fs:=zs) (w:=w) (P:=P.toNat) (by lia) (by lia) r3 j
    refine⟨by unfold ud;rw[gf7],?_⟩
    simp! only[oJ,Au gl7,ix_l g27 (Fl (bs:=mk) (x:=(w:Int)) (by omega) (by omega))]
    have xa:∀N:Int,N.toNat=nB zs P.toNat w->0<=N->N<=600->Oi (λ_=>True) (λx G2 k=>0+1<=db/\binU .Add (Wc b) (.tup [x]) G2 λu G4=>k (ia u) G4) (rngU 0 N.toNat) [] G7 (λus G5=>newO G5 (.lst us) λx G1=>Ue .extend (.loc O) [x] G1 λ_ G1=>K7 [ia (Ib xs ss),ia (.int P),ia (.loc p2),ia (.loc J),ia (.int w),ia (.loc O),ia (Wc b)] G1):=λN hN _ _=>by
     refine cg (λi R I=>I=G7/\R=(md i).map λ(j:Nat)=>Wc (b++[(j:Int)])) ?_ ?_ ⟨rfl,rfl⟩
     ·rintro R G8 ⟨rfl,rfl⟩;rw[Xd,hN];refine⟨trivial,λp9 G9 n9=>?_⟩;dsimp only;rw[LB (n9.sa _ _ gl7) n9.at];refine⟨by rw[Hb,Hb,Qr];exact Lb (show _<=180600 by lia) (by decide),λGa pa=>?_⟩
      refine hk7 _ _ ⟨_,rfl,λc u e=>pa.sm _ _ (λz=>by rw[z,fr]at e;cases e) (n9.sa _ _ (s7 _ _ e)),pa.sm _ _ (Ta l2) (n9.sa _ _ g27),pa.sm _ _ (Ta lf) (n9.sa _ _ gf7),?_⟩
      rw[pa.at,KR es,wf];congr 3;rw[rowX,jg];rfl
     ·rintro i x R G8 K8 hx ⟨rfl,rfl⟩ hk8 _;obtain⟨hi,rfl⟩:=Nf hx;refine⟨trivial,?_⟩;simp! only[Wc];refine⟨by decide,by rw[Hb];exact Lb (show b.length+_<=9 by lia) (by decide),hk8 _ _ ⟨rfl,?_⟩⟩
      rw[uo,wf];simp[Wc]
    by_cases c:bt mk (w:Int)=w
    ·rw[if_pos (decide_eq_true c)];rw[if_pos (mr.mpr c)]at F;exact⟨by decide,by decide,by decide,xa 1 F.symm (by decide) (by decide)⟩
    ·rw[if_neg (by simpa using c)]
     rw[if_neg (λz=>c (mr.mp z))]at F;exact⟨by lia,by lia,by rw[Xd];exact Lb (show P.toNat<=600 by lia) (by decide),xa P F.symm (by lia) h2⟩

def zP     : Gj [.int z,.ty "int"] G Q=Q (.bl la) G:=rfl
def FN     : Gj [.int z,.ty "bool"] G Q=Q (.bl ua) G:=rfl
def Iq     : Gj [.tup us,.ty "tuple"] G Q=Q (.bl la) G:=rfl
def BP     : Gj [.str x,.ty "str"] G Q=Q (.bl la) G:=rfl
section
variable {k:Nat}{G:Gp}{Q:K1}{X:KX}{xs:List Str}{ss:List Ab}{ws:Wn}{P:Int}{W:Nat}
def PP   (h:1<=P):decide (b<(a+P-1)/P*P)=decide (b/P*P<a):=by
 rw[Xj,decide_eq_true_eq,decide_eq_true_eq];have R:=xh (a+P-1) (show P≠0 by lia)
 have O:=Ai (a+P-1) (show 0<P by lia)
 have J:=xh b (show P≠0 by lia)
 have Y:=Ai b (show 0<P by lia)
 have I:=QJ (a+P-1) P;have F:=QJ b P;rw[Do]at I F;generalize (a+P-1)/P=x at *;generalize b/P=y at *;generalize (a+P-1)%P=u at *;generalize b%P=v at *;constructor
 ·intro j;by_cases c:a<=y*P
  ·exfalso;have:x<=y:=by
    by_cases c2:x<=y
    ·exact c2
    ·have:(y+1)*P<=x*P:=Ur (by lia) (by lia)
     rw[Int.add_mul,Int.one_mul]at this
     lia
   have:x*P<=y*P:=Ur this (by lia)
   lia
  ·lia
 ·intro j;have:y<x:=by
   by_cases c2:y<x
   ·exact c2
   ·have:x*P<=y*P:=Ur (by lia) (by lia)
    lia
  have:(y+1)*P<=x*P:=Ur (by lia) (by lia)
  rw[Int.add_mul,Int.one_mul]at this
  lia
def Oq   (q:Q (.bl (decide (a<=z)&&decide (z<=b))) G):Bb T (k+1) Tl [.int a,.int b,.int z] G Q X:=by
 refine⟨rfl,?_⟩;simp! only[gH,fc,Qb,zP,FN];by_cases c:a<=z
 ·rw[decide_eq_true c]at q ⊢;exact q
 ·rw[decide_eq_false c]at q ⊢;exact q
theorem Wk.next  : ∀{r } {a b },Wk ss r a b->∀{i } {e j },r[i]?=ia e->r[i+1]?=ia j->eD ss e=eS ss j
 |[],_,_,_,i,e,_,h,_=>by simp at h
 |[x],_,_,_,0,e,j,_,h=>by simp at h
 |x::y::r,_,_,⟨_,_,_,h3,_⟩,0,e,j,he,he'=>by
  simp at he he';rw[<- he,<- he',h3]
 |x::r,_,_,⟨_,_,h⟩,i+1,e,j,he,he'=>Wk.next h (i:=i) (by simpa using he) (by simpa using he')
def Wk.first    (h:Wk ss r a b)(j:r[0]?=ia e):eS ss e=a:=by
 cases r with
 |nil=>simp at j
 |cons x r=>simp at j;rw[<- j];exact h.2.1
def endU  (ss:List Ab)(e:Ent):U:=.tup [.int (eS ss e),.int (eD ss e)]
def oW   (h:Wd ss e)(q:∀J,Sa G J->Q (endU ss e) J):Bb T (k+2) PH [Ib xs ss,.tup [],eu e] G Q X:=by
 obtain⟨s,O,z⟩:=h.get;have R:=h.1;refine⟨rfl,?_⟩;simp! only[KH,fc,Qb,eu,Iq];refine⟨by decide,rfl,by decide,?_⟩
 dsimp only;rw[if_neg (by decide)]
 simp! only[SI];rw[if_neg (by decide)]
 simp! only[VI,Ib,ix_t (Le _ _),ix_t (Gd _ _ _),Hb];refine Oq ?_;rw[decide_eq_true (show(0:Int)<=(e.1:Int) by lia),decide_eq_true (show(e.1:Int)<=(ss.length:Int)-1 by lia)]
 simp! only[];refine Oq ?_;rw[decide_eq_true (show(-1:Int)<=e.2 by have:=h.2;lia),decide_eq_true (show e.2<=(1:Int) by have:=h.2;lia)]
 simp! only[WI,ix_t (Le _ _),ix_t (Gd _ _ _),ix_t (Qf O)];rw[if_neg (by decide),if_neg (by have:=h.2;simp;lia)]
 rw[show s.u=.tup [.str s.w,.int s.o,.int s.t,.int s.lo,.int s.hi]from rfl];simp! only[];rw[show cut [U.str s.w,.int s.o,.int s.t,.int s.lo,.int s.hi] (ia 1) (ia 3)=[.int s.o,.int s.t]from rfl];simp! only[];refine⟨trivial,by decide,by decide,by decide,λp I j=>?_⟩
 rcases z with⟨z,F,y⟩|⟨z,F,y⟩
 ·rw[show e.2=1 by rw[z]]
  rw[ix_t (Gd _ _ _)];simp! only[];rw[if_neg (by decide),ix_l j.at (Le _ _),<- F,<- y]
  exact q I j.sa
 ·rw[show e.2=-1 by rw[z]]
  rw[ix_t (Gd _ _ _)];simp! only[];rw[if_pos (by decide),ix_l j.at (Gd _ _ _),<- F,<- y]
  exact q I j.sa
def BR   {r:List Ent}{kk:Bool->Prop}(g:G p=ia (.lst (r.map (endU ss))))(q:kk ua):Jg .non (.loc p) G kk:=by
 unfold Jg;dsimp only;rw[g];have F:∀r:List Ent,Dg G (r.map (endU ss)) (r.map λe=>Wa.tuple [.int (eS ss e),.int (eD ss e)]):=λr=>by
  induction r with
  |nil=>exact .nil
  |cons e r j=>exact .cons (.tup (.cons (.int _) (.cons (.int _) .nil))) j
 refine .inr ⟨.none,_,.non,F r,⟨rfl,by decide⟩,λe y=>?_,?_⟩
 ·obtain⟨v,_,rfl⟩:=Ia.mp y;exact⟨rfl,by show max 0 (max 0 0)+1<=100;decide⟩
 ·have:(r.map λe=>Wa.tuple [.int (eS ss e),.int (eD ss e)]).any (λe=>ie e .none)=ua:=by
   rw[List.any_map,rK];intro e _ h;cases h
  rw[this];exact q
def gQ   {kk:Bool->Prop}(g:G p=ia (.lst []))(g':G j=ia (.lst []))(q:kk la):cmpU .Eq (.loc p) (.loc j) G kk:=by
 refine(?_:eqU (.loc p) (.loc j) G kk);exact⟨.list [],.list [],.lst (by unfold ud;rw[g]) .nil,.lst (by unfold ud;rw[g']) .nil,⟨rfl,by decide⟩,⟨rfl,by decide⟩,q⟩
def VS    (J:Wk ss r a a)(hn:r≠[])(rl:r.length<=30)(q:∀F,Sa G F->Q (.bl la) F):Bb T (k+3) KG [Ib xs ss,.tup [],vg r] G Q X:=by
 have r1:1<=r.length:=by cases r with|nil=>exact absurd rfl hn|cons _ _=>simp
 refine⟨rfl,?_⟩;simp! only[iH,fc,Qb,vg,Iq,Hb];rw[decide_eq_true (show(1:Int)<=(r.length:Int) by lia),decide_eq_true (show(r.length:Int)<=60 by lia)]
 simp! only[GH];refine⟨by rw[Hb];exact Lb rl (by decide),?_⟩
 refine cg (λi y F=>Sa G F/\y=(r.take i).map (endU ss)) ?_ ?_ ⟨Sa.refl,rfl⟩
 rotate_left
 ·rintro i x y F K I ⟨s0,rfl⟩ hk _;rw[Dd]at I;cases R:r[i]? with
  |none=>rw[R]at I;cases I
  |some e=>
   rw[R]at I;cases I;refine⟨trivial,?_⟩;simp! only[];exact oW (J.all e (Hd R)) λG2 s2=>hk _ _ ⟨s0.trans s2,by rw[fg,R,wf];rfl⟩
 rintro y G0 ⟨s0,rfl⟩;rw[Hb,ig];refine⟨trivial,λp1 G1 O=>?_⟩;simp! only[YI];refine BR (ss:=ss) O.at ?_;rw[if_neg (by decide)]
 simp! only[ZI,Kl O.at,Hb];refine⟨by lia,by lia,by rw[Xd];exact Lb (show((r.length:Int)).toNat<=30 by lia) (by decide),?_⟩
 refine cg (λ_ y F=>y=[]/\F=G1) ?_ ?_ ⟨rfl,rfl⟩
 ·rintro y F ⟨rfl,rfl⟩;refine⟨trivial,λp2 G2 n2=>⟨by decide,λp3 G3 Y=>?_⟩⟩
  exact gQ (Y.sa _ _ n2.at) Y.at (q G3 (s0.trans ((O.sa.trans n2.sa).trans Y.sa)))
 ·rintro i x y F K I ⟨rfl,rfl⟩ _ hkn;obtain⟨hi,rfl⟩:=Nf I;have hi:i<r.length:=by lia
  obtain⟨e,Z⟩:∃e,r[i]?=ia e:=⟨_,Ic hi⟩;obtain⟨e0,h0,hd⟩:∃e0,atI (r.map (endU ss)) ((i:Int)-1)=ia (endU ss e0)/\eD ss e0=eS ss e:=by
   cases i with
   |zero=>
    rcases snoc r with z|⟨r',e0,z⟩
    ·exact absurd z hn
    ·refine⟨e0,?_,?_⟩
     ·refine(Qu _ r _).trans ?_;rw[z];unfold atI;rw[show dg (r'++[e0]).length (((0:Nat):Int)-1)=ia r'.length by unfold dg;simp;lia]
      simp
     ·rw[z]at J;rw[J.last.2.2];exact(J.first (by rw[<- z];exact Z)).symm
   |succ j=>
    have hj:j<r.length:=by lia
    refine⟨r[j],?_,J.next (Ic hj) Z⟩
    rw[show((j+1:Nat):Int)-1=(j:Int) by lia]
    exact Qf (f:=endU ss) (Ic hj)
  refine⟨trivial,?_⟩;simp! only[ix_l O.at h0];rw[show endU ss e0=.tup [.int (eS ss e0),.int (eD ss e0)]from rfl];simp! only[ix_t (Gd _ _ _),ix_l O.at (Qf (f:=endU ss) Z)];rw[show endU ss e=.tup [.int (eS ss e),.int (eD ss e)]from rfl];simp! only[ix_t (Le _ _),hd];exact hkn _ ⟨rfl,rfl⟩
def XS    (wl:ws.length=ss.length)(hr:∀e∈r,Wd ss e)(q:∀j,Sa G j->Q (.tup [.int (Ze ws r),.int (Re ws r)]) j):Bb T (k+1) LG [bu,Oc ws,vg r] G Q X:=by
 refine⟨rfl,?_⟩;simp! only[DG,fc,Qb];refine⟨by decide,?_⟩
 simp! only[cJ,vg];refine Te (λi O j=>∃(o4 o5 o6 o7:Option U),O=[ia bu,ia (Oc ws),ia (.tup (r.map eu)),ia (.tup [.int (Ze ws (r.take i)),.int (Re ws (r.take i))]),o4,o5,o6,o7]/\Sa G j) ?_ ?_ ⟨_,_,_,_,rfl,Sa.refl⟩
 ·rintro O j ⟨o4,o5,o6,o7,rfl,s1⟩;rw[Hb,ig];refine⟨trivial,?_⟩;simp! only[dJ];exact q j s1
 ·rintro i x O j K F ⟨o4,o5,o6,o7,rfl,s1⟩ hk;rw[Dd]at F;cases I:r[i]? with
  |none=>rw[I]at F;cases F
  |some e=>
   rw[I]at F;cases F;have ok:=hr e (Hd I);have il:e.1<ws.length:=by rw[wl];exact ok.1
   have y:ws[e.1]?=ia ws[e.1]:=Ic il;generalize ws[e.1]=w at y;have Z:Ze ws (r.take (i+1))=Ze ws (r.take i)+Pe ws e:=by unfold Ze;rw[fg,I];simp
   have a2:Re ws (r.take (i+1))=Re ws (r.take i)+Qe ws e:=by unfold Re;rw[fg,I];simp
   refine⟨trivial,?_⟩;simp! only[eu];rw[if_neg (by decide)]
   simp! only[ix_t (Le _ _),Oc,ix_t (Qf y),wu];refine⟨trivial,by decide,by decide,by decide,λp G2 J=>?_⟩
   rcases ok.2 with z|z
   ·rw[z];rw[ix_t (Gd _ _ _)];simp! only[];rw[if_neg (by decide),ix_l J.at (Le _ _),ix_t (Le _ _)]
    simp! only[];rw[ix_t (Gd _ _ _),ix_t (Gd _ _ _)];simp! only[];have Y:Pe ws e=w.1:=by unfold Pe;rw[if_pos z,getW y]
    have R:Qe ws e=w.2:=by unfold Qe;rw[if_pos z,getW y]
    rw[<- Y,<- R,<- Z,<- a2];exact⟨by decide,hk _ _ ⟨_,_,_,_,rfl,s1.trans J.sa⟩⟩
   ·rw[z];rw[ix_t (Gd _ _ _)];simp! only[];rw[if_pos (by decide),ix_l J.at (Gd _ _ _),ix_t (Le _ _)]
    simp! only[];rw[ix_t (Gd _ _ _),ix_t (Gd _ _ _)];simp! only[];have Y:Pe ws e=0-w.2:=by unfold Pe;rw[if_neg (by lia),getW y];lia
    have R:Qe ws e=0-w.1:=by unfold Qe;rw[if_neg (by lia),getW y];lia
    rw[<- Y,<- R,<- Z,<- a2];exact⟨by decide,hk _ _ ⟨_,_,_,_,rfl,s1.trans J.sa⟩⟩
def XU    (wl:ws.length=ss.length)(hr:∀e∈r,Wd ss e)(F:1<=P)(I:P<=600)(q:∀j,Sa G j->Q (.bl (decide (Dh P ws r))) j):Bb T (k+2) AH [.int P,bu,Oc ws,vg r] G Q X:=by
 refine⟨rfl,?_⟩;simp! only[wH,fc,Qb];refine XS wl hr λy s1=>?_;simp! only[];refine⟨trivial,rfl,?_⟩;simp! only[gE,fc,Qb];have:=q y s1;have e:decide (Dh P ws r)=decide (Re ws r/P*P<Ze ws r):=rfl;rw[e,<- PP F]at this;exact⟨by lia,by lia,.inr (by constructor<;>lia),this⟩
end

def Pi  {i: Nat}{j: Sb}{v: U}(y:(kvs.map (·.1)).Nodup)(h:kvs[i]?=ia (j,v)):dGet kvs j=ia v:=by
 induction kvs generalizing i with
 |nil=>cases h
 |cons x r F=>
  rw[Sd,Ra]at y;unfold dGet;cases i with
  |zero=>
   have:x=(j,v):=by simpa using h
   subst this;rw[aL (by simp)]
   rfl
  |succ i=>
   have h:r[i]?=ia (j,v):=by simpa using h
   have I:x.1≠j:=λe=>y.1 (e ▸ gw (f:=(·.1)) (Hd h));rw[FA (by simpa using I)]
   exact F y.2 h
def SM  {kvs: List (Sb×U)}(F:(kvs.map (·.1)).Nodup)(h:kvs[i]?=ia (j,u)):(kvs.map λI=>if I.1=j then (I.1,v) else I)=kvs.set i (j,v):=by
 induction kvs generalizing i with
 |nil=>cases h
 |cons x r R=>
  rw[Sd,Ra]at F;cases i with
  |zero=>
   have:x=(j,u):=by simpa using h
   subst this;rw[Sd,if_pos rfl,iK];congr 1;refine(fw λy O=>if_neg λe=>F.1 ?_).trans (List.map_id r);exact e ▸ gw (f:=(·.1)) O
  |succ i=>
   have h:r[i]?=ia (j,u):=by simpa using h
   have J:x.1≠j:=λe=>F.1 (e ▸ gw (f:=(·.1)) (Hd h));rw[Sd,if_neg J,fK,R F.2 h]
def IB  {j: Sb}{v: U}(y:(kvs.map (·.1)).Nodup)(h:kvs[i]?=ia (j,u)):dPut kvs j v=kvs.set i (j,v):=by
 unfold dPut;rw[if_pos (Kd.mpr ⟨_,Hd h,by simp⟩)]
 exact SM y h
def HB  {kvs: List (Sb×U)}(F:(kvs.map (·.1)).Nodup):ki kvs=kvs:=by
 have J:∀(kvs j:List (Sb×U)),((j++kvs).map (·.1)).Nodup->kvs.foldl (λj I=>dPut j I.1 I.2) j=j++kvs:=by
  intro kvs
  induction kvs with
  |nil=>intro j _;simp
  |cons x r O=>
   intro j F;have e:dPut j x.1 x.2=j++[x]:=by
    unfold dPut;rw[if_neg];intro z;obtain⟨y,R,e⟩:=Kd.mp z;rw[wf,List.nodup_append]at F;exact F.2.2 y.1 (gw (f:=(·.1)) R) x.1 (by simp) (of_decide_eq_true e)
   show r.foldl _ (dPut j x.1 x.2)=_;rw[e,O (j++[x]) (by rw[Pr];exact F),Pr]
   rfl
 exact J kvs [] F
noncomputable def mnyU  : List (Sb×U):=[(.inr "ring",.int 2),(.inr "split",.int 5),(.inr "prices",.int 2),(.inr "stay",.int 4),(.inr "enough",.int 1)]
def Sx  : (mnyU.map (·.1)).Nodup:=by decide +kernel
def Tj  (xs:List Str)(ss:List Ab)(P:Int)(pw:Ba)(i:Int):List (Sb×U):=[(.inr "plan",Ib xs ss),(.inr "cycle",.int P),(.inr "words",.loc pw),(.inr "at",.int i)]
section
variable {k:Nat}{G:Gp}{Q:K1}{X:KX}{xs:List Str}{ss:List Ab}{ws:Wn}{P i:Int}{pb pw:Ba}
def Px     {kk:Bool->Prop}(h:∀u∈us,Ud n u)(I:n<=90)(g:G p=ia (.lst us))(g':G F=ia (.lst []))(q:kk us.isEmpty):eqU (.loc p) (.loc F) G kk:=by
 obtain⟨y,j,J⟩:=smls h;refine⟨.list (Gg us),.list [],.lst (by unfold ud;rw[g]) (zx y),.lst (by unfold ud;rw[g']) .nil,⟨j,by show rj (Gg us)+1<=100;lia⟩,⟨rfl,by decide⟩,?_⟩
 have:ie (.list (Gg us)) (.list [])=us.isEmpty:=by
  cases us with
  |nil=>rfl
  |cons u r=>
   show Bo (pd u::Gg r) []=ua;unfold Bo;rfl
 rw[this];exact q
def ji  : ((Tj xs ss P pw i).map (·.1)).Nodup:=by
 show [(.inr "plan" : Sb),.inr "cycle",.inr "words",.inr "at"].Nodup;decide +kernel
def TD  {w:Str}(h:(w = "ring" /\ us.length=1)\/(w = "split" /\ us.length=4))(g:G pw=ia (.lst [.str "ring",.str "split"]))(q:∀O,Sa G O->Q (.str w) O):Bb T (k+1) MG [.loc pw,.tup (.str w::us)] G Q X:=by
 refine⟨rfl,?_⟩;simp! only[EG,fc,Qb];refine⟨by decide,?_⟩
 show newO G (.dK (ki mnyU)) _;rw[HB Sx];intro Y I j;have J:=j.at
 have R:=j.sa _ _ g;simp! only[eJ,Iq];rw[if_neg (by decide)]
 simp! only[];refine⟨He _,?_⟩;rw[show(U.str w::us).isEmpty=ua from rfl,if_neg (by decide)]
 simp! only[ix_t (Le _ _),BP];rw[if_neg (by decide)]
 refine in_l R rfl rfl ?_;rcases h with⟨rfl,F⟩|⟨rfl,F⟩
 ·rw[show([U.str "ring",.str "split"].any λy=>Lg y (.str "ring"))=la from by decide +kernel,if_neg (by decide)]
  simp! only[Jz,ix_t (Le _ _),ix_d J (Pi Sx (i:=0) rfl)];rw[if_pos (by simp[F])]
  exact q I j.sa
 ·rw[show([U.str "ring",.str "split"].any λy=>Lg y (.str "split"))=la from by decide +kernel,if_neg (by decide)]
  simp! only[Jz,ix_t (Le _ _),ix_d J (Pi Sx (i:=1) rfl)];rw[if_pos (by simp[F])]
  exact q I j.sa
def dF    (wl:ws.length=ss.length)(p1:1<=P)(p2:P<=600)(hw:Wk ss r a a)(hn:r≠[])(rl:r.length<=30)(hb:Dh P ws r)(O:G pb=ia (.dK (Tj xs ss P pw i)))(F:G pw=ia (.lst [.str "ring",.str "split"]))
  (q:∀j J ,Sm pb G J->J pb=ia (.dK (Tj xs ss P pw j))->Q .non J):Bb T (k+6) Xq [.loc pb,.tup [.str "ring",vg r],Oc ws] G Q X:=by
 have I:pw≠pb:=λz=>by rw[z,O]at F;cases F
 refine⟨rfl,?_⟩;simp! only[az,fc,Qb,ix_d O (Pi ji (i:=3) rfl)];rw[An O];refine⟨by show 4<db;decide,λZ y=>?_⟩
 have g1:Z pb=ia (.dK (Tj xs ss P pw (i+1))):=by
  have e:=y.at
  rw[IB ji (i:=3) rfl]at e;exact e
 have s1:Sm pb G Z:=y.sm;have w1:=s1 _ _ I F;simp! only[vz,ix_d g1 (Pi ji (i:=2) rfl)];refine TD (k:=k+4) (.inl ⟨rfl,rfl⟩) w1 λG3 R=>?_;have g3:=R _ _ g1;simp! only[wz];rw[if_neg (by decide +kernel)]
 simp! only[xz];rw[if_pos (by decide +kernel)]
 refine⟨rfl,?_⟩;simp! only[hJ,fc,Qb,ix_d g3 (Pi ji (i:=0) rfl)];rw[ix_t (Gd _ _ _)];refine⟨by decide,VS (k:=k+1) hw hn rl λG4 Y=>?_⟩
 have g4:=Y _ _ g3;simp! only[ix_d g4 (Pi ji (i:=1) rfl)];refine⟨by decide,?_⟩
 rw[ix_t (Gd _ _ _)];refine XU (k:=k+2) wl hw.all p1 p2 λG5 s5=>?_;rw[decide_eq_true hb];simp! only[];exact q _ G5 (s1.trans (R.trans (Y.trans s5)).sm) (s5 _ _ g4)
def bV  (sl:ss.length<=24)(p1:1<=P)(p2:P<=600):∀n {k m } {c } {ws } {G } {Q } {i },Cs ss P n m ws c->ws.length=ss.length->G pb=ia (.dK (Tj xs ss P pw i))->G pw=ia (.lst [.str "ring",.str "split"])->
  (∀j G' ,Sm pb G G'->G' pb=ia (.dK (Tj xs ss P pw j))->Q .non G')->Bb T (k+n+6) Xq [.loc pb,c,Oc ws] G Q X:=by
 intro n
 induction n with
 |zero=>
  intro k m c ws G Q i R wl I F q;cases R with
  |@ring _ _ r a hw hn rl Z=>exact dF (k:=k) wl p1 p2 hw hn rl Z I F q
 |succ n ih=>
  intro k m c ws G Q i R wl I F q;have O:pw≠pb:=λz=>by rw[z,I]at F;cases F
  cases R with
  |@ring _ _ r a hw hn rl Z=>exact dF (k:=k+(n+1)) wl p1 p2 hw hn rl Z I F q
  |@split n1 m1 m2 _ s l h y c1 c2 ew l1 l2 k1 k2=>
   have il:=(Ea.mp ew).1;refine⟨rfl,?_⟩;simp! only[az,fc,Qb,ix_d I (Pi ji (i:=3) rfl)];rw[An I];refine⟨by show 4<db;decide,λG1 J=>?_⟩
   have g1:G1 pb=ia (.dK (Tj xs ss P pw (i+1))):=by
    have e:=J.at
    rw[IB ji (i:=3) rfl]at e;exact e
   have s1:Sm pb G G1:=J.sm;have w1:=s1 _ _ O F;simp! only[vz,ix_d g1 (Pi ji (i:=2) rfl)];refine TD (k:=k+n+5) (.inr ⟨rfl,rfl⟩) w1 λG3 Y=>?_;have g3:=Y _ _ g1;have w3:=Y _ _ w1;simp! only[wz];rw[if_neg (by decide +kernel)]
   simp! only[xz];rw[if_neg (by decide +kernel)]
   simp! only[WH];rw[show cut [U.str "split",.int s,.int y,c1,c2] (ia 1) (ia 3)=[.int s,.int y]from rfl];simp! only[];refine⟨trivial,?_⟩;simp! only[XH,ix_d g3 (Pi ji (i:=0) rfl),Ib,ix_t (Gd _ _ _),Hb];refine Oq (k:=k+(n+1)+4) ?_;rw[decide_eq_true (show(0:Int)<=(s:Int) by lia),decide_eq_true (show(s:Int)<=(ss.length:Int)-1 by lia)]
   simp! only[YH,Oc,ix_t (Qf ew)];show Yc _ (.tup [.int l,.int h]) _ _;simp! only[];refine⟨trivial,?_⟩;simp! only[ZH];refine Oq (k:=k+(n+1)+4) ?_;rw[decide_eq_true l1,decide_eq_true (show y<=h-1 by lia)]
   simp! only[aI];have i3:atI [U.str "split",.int s,.int y,c1,c2] 3=ia c1:=rfl;have i4:atI [U.str "split",.int s,.int y,c1,c2] 4=ia c2:=rfl;rw[ix_t i3];refine AE (k:=k+(n+1)+4) (ws:=ws) (s:=s) (a:=l) (b:=y) il (by lia) ?_
   have go:=@ih k;rw[show k+(n+1)+5=k+n+6 by lia]
   refine go k1 (by rw[Mh];exact wl) g3 w3 λj G4 s4 g4=>?_
   have w4:=s4 _ _ O w3;simp! only[aJ];have xa:∀kk:Bool->Prop,kk la->Ig .non .non kk:=λ_ h=>h;refine xa _ ?_;rw[if_pos (by decide)]
   simp! only[];rw[ix_t i4];simp! only[];refine AE (k:=k+n+5) (ws:=ws) (s:=s) (a:=y+1) (b:=h) il (by lia) ?_
   refine go k2 (by rw[Mh];exact wl) g4 w4 λj G5 s5 g5=>?_
   simp! only[bJ];exact q j G5 (s1.trans (Y.sm.trans (s4.trans s5))) g5
theorem nW    (so:∀s∈ss,s.Ok xs.length)(R:ss.length<=24)(p1:1<=P)(p2:P<=600)(Z:Cs ss P 70 m (winO P ss) c)(q:∀O,Sa G O->Q (.bl la) O):Bb T (k+77) OH [Ib xs ss,.int P,c] G Q X:=by
 refine⟨rfl,?_⟩;simp! only[JH,fc,Qb];refine⟨by decide,λpw Y J=>⟨by decide,?_⟩⟩
 show newO Y (.dK (ki (Tj xs ss P pw 0))) _;rw[HB ji];intro pb G2 y;simp! only[];refine GR (k:=k+74) so R λG3 I=>?_;refine bV (k:=k) R p1 p2 70 Z (Hb _) (I _ _ y.at) (I _ _ (y.sa _ _ J.at)) λj G4 s4 g4=>?_;simp! only[];have F:∀kk:Bool->Prop,kk la->Ig .non .non kk:=λ_ h=>h;refine F _ ?_;rw[if_pos (by decide)]
 refine q G4 λb u e=>s4 _ _ (λz=>?_) (I _ _ (y.sa _ _ (J.sa _ _ e)));have:=J.sa _ _ e;rw[z,y.no]at this;cases this
end

section
variable {k:Nat}{G:Gp}{Q:K1}{X:KX}{xs:List Str}{ss:List Ab}{ws:Wn}{P:Int}
abbrev Ew:=U×Nat
def RwOk  (ss:List Ab)(P:Int)(i:Nat)(x:Ew):Prop:=∃n j,n+i<=70/\Cs ss P n x.2 j x.1
def Cs.pos    (h:Cs ss P n m ws c):1<=m:=by cases h<;>lia
theorem Ox   : ∀{l:List Ew},(∀x∈l,RwOk ss P i x)->l.length<=(l.map (·.2)).sum
 |[],_=>Fb _
 |x::r,h=>by
  obtain⟨_,_,_,j⟩:=h x Cf;have:=j.pos;have:=Ox (l:=r) λy F=>h y (Uc _ F);simp only[Td,Sd,Rv];lia
def MB   {xs j:List U}(g:G a=ia (.lst xs))(F:xs.length+j.length<=db)(q:∀y,Qg G a (.lst (xs++j)) y->Q .non y):Ue .extend (.loc a) [.tup j] G Q:=by
 dsimp only[Ue];unfold Mq;dsimp only;rw[g];exact⟨F,q⟩
def in_t    {kk:Bool->Prop}(h:ys.all flat=la)(q:kk (ys.any λy=>Lg y (.str x))):Jg (.str x) (.tup ys) G kk:=⟨rfl,h,q⟩
def MS    (hm:m<=100000)(hc:Cs ss P 70 m ws c)(q:∀z I ,z<=100->Sa G I->Q (.int z) I):Bb T (k+1) rG [c] G Q X:=by
 refine⟨rfl,?_⟩;simp! only[CG,fc,Qb];refine⟨by decide,λpl G2 n2=>?_⟩
 simp! only[SG];rw[S_wh];refine⟨λn R I=>∃(p:Ba) (st:List Ew) (i:Nat) (o3 o4:Option U),R=[ia c,ia (.loc p),ia (.int i),o3,o4]/\n=(st.map (·.2)).sum/\n<=m/\i<=71/\Sa G I/\I p=ia (.lst (st.map (·.1)))/\∀x∈st,RwOk ss P i x,
  ⟨_,pl,[(c,m)],0,_,_,rfl,rfl,by simp,by decide,n2.sa,n2.at,λx F=>?_⟩,?_⟩
 ·rw[Fa.mp F];exact⟨70,ws,by decide,hc⟩
 rintro n R G3 ⟨p,st,i,o3,o4,rfl,rfl,hn,hi,s3,g3,hst⟩;have sl:=Ox hst;simp! only[];refine⟨by decide,λpn G4 n4=>?_⟩
 have g4:=n4.sa _ _ g3;have s4:=s3.trans n4.sa;simp! only[];refine Px (n:=73) (λu hu=>?_) (by decide) g4 n4.at ?_
 ·obtain⟨x,F,rfl⟩:=Ia.mp hu;obtain⟨n',ja,h1,h3⟩:=hst x F;exact h3.sml.mono (by lia)
 by_cases e:st=[]
 ·subst e;rw[if_neg (by simp)]
  simp! only[UG];exact q i G4 (by lia) s4
 rw[if_pos (by simpa using e)]
 obtain⟨x0,Z⟩:=List.exists_mem_of_ne_nil _ e;have ka:i<=70:=by obtain⟨_,_,h,_⟩:=hst x0 Z;lia
 simp! only[JI];refine⟨by decide,λpb G5 n5=>?_⟩
 have fr:G pb=Aa:=Wu s4 n5.no;have g5:=n5.sa _ _ g4;simp! only[KI,it_l g5];refine Te (λj R I=>∃(bl:List Ew) (o4:Option U),R=[ia c,ia (.loc p),ia (.int i),ia (.loc pb),o4]/\Sa G I/\I p=ia (.lst (st.map (·.1)))/\I pb=ia (.lst (bl.map (·.1)))/\(bl.map (·.2)).sum+j<=((st.take j).map (·.2)).sum/\∀x∈bl,RwOk ss P (i+1) x) ?_ ?_ ⟨[],_,rfl,s4.trans n5.sa,g5,n5.at,Fb _,λ_ h=>(nomatch h)⟩
 ·rintro R G6 ⟨bl,o4,rfl,s6,g6,gb,hs,hb⟩;rw[Hb,ig]at hs;have:0<st.length:=GA Z;refine⟨by unfold ud;rw[g6],?_⟩
  simp! only[LI];simp! only[MI];exact⟨_,by lia,pb,bl,i+1,ia (.loc pb),o4,rfl,rfl,by lia,by lia,s6,gb,hb⟩
 ·rintro j y R G6 K J ⟨bl,o4,rfl,s6,g6,gb,hs,hb⟩ hk;rw[Dd]at J;cases es:st[j]? with
  |none=>rw[es]at J;cases J
  |some x=>
   rw[es]at J;have J:=(Nd J).symm;subst J;obtain⟨n',ja,wa,Y⟩:=hst x (Hd es);have ts:((st.take (j+1)).map (·.2)).sum=((st.take j).map (·.2)).sum+x.2:=by rw[fg,es];simp
   have tl:((st.take j).map (·.2)).sum<=(st.map (·.2)).sum:=by
    have:=congrArg (λl=>(l.map (·.2)).sum) (List.take_append_drop j st);simp only[wf,List.sum_append]at this
    lia
   have ya:=Ox hb;have hz:(100100:Nat)<=db:=by decide
   refine⟨by unfold ud;rw[g6],?_⟩
   obtain⟨xc,xm⟩:=x;dsimp only at Y ts;have za:∀{Gb:Gp} {u:MO},Qg G6 pb u Gb->Sa G Gb:=λ{Gb u} w z v e=>w.sm _ _ (λy=>by rw[y,fr]at e;cases e) (s6 z v e)
   have xa:p≠pb:=Ta (oi g4 n5.no);cases Y with
   |@ring _ _ r a hw hn rl va=>
    simp! only[Gz,Au gb];rw[ix_t (u:=.str "ring") rfl];refine⟨by decide,in_t (by decide) ?_⟩
    rw[if_neg (by decide +kernel)]
    refine⟨He _,MB gb (by rw[Hb,ah];lia) λG7 O=>hk _ G7 ⟨bl,_,rfl,za O ,O.sm _ _ xa g6,by simpa using O.at,by lia,hb⟩⟩
   |@split n1 m1 m2 _ s l h ct c1 c2 ew l1 l2 k1 k2=>
    simp! only[Gz,Au gb];rw[ix_t (u:=.str "split") rfl];refine⟨by decide,in_t (by decide) ?_⟩
    rw[if_pos (by decide +kernel)]
    rw[show cut [U.str "split",.int s,.int ct,c1,c2] (ia (((0+1+1+1+1+1:Nat):Int)-2)) Aa=[c1,c2]from rfl];refine MB gb (by rw[Hb];simp only[Td,ah];lia) λG7 O=>hk _ G7 ⟨bl++[(c1,m1),(c2,m2)],_,rfl,za O,O.sm _ _ xa g6,by simpa using O.at,by simp only[wf,List.sum_append,Sd,Fo,Rv,List.sum_nil];lia,λx F=>?_⟩
    rcases Ma.mp F with F|F
    ·exact hb x F
    rcases ic.mp F with rfl|F
    ·exact⟨_,_,by lia,k1⟩
    ·rw[Fa.mp F];exact⟨_,_,by lia,k2⟩
end


def Sj  (W:Nat)(ss:List Ab)(P:Int):List (List Int):=(rg (Cd W ss) P.toNat W).filter (Ff P ss)
def OS  (w8:xs.length<=8)(so:∀s∈ss,s.Ok xs.length)(sl:ss.length<=24)(h1:1<=P)(Z:P<=600)(hR:P.toNat ^ nr (Cd xs.length ss) xs.length<=300)
  (q:∀p O,Sa G O->O p=ia (.lst ((Sj xs.length ss P).map Wc))->Q (.loc p) O):Bb T (k+3) CI [Ib xs ss,.int P] G Q X:=by
 refine⟨rfl,?_⟩;simp! only[AI,fc,Qb];refine QS (k:=k) w8 so sl h1 Z hR λp1 G1 s1 R=>?_;simp! only[it_l R];refine⟨by rw[Hb,Ny];exact Lb hR (by decide),?_⟩
 refine cg (λi I O=>O=G1/\I=(((rg (Cd xs.length ss) P.toNat xs.length).take i).filter (Ff P ss)).map Wc) ?_ ?_ ⟨rfl,rfl⟩
 ·rintro I G2 ⟨rfl,rfl⟩;rw[Hb,ig];exact⟨by unfold ud;rw[R],λp3 G3 Y=>q p3 G3 (s1.trans Y.sa) Y.at⟩
 ·rintro j y I G2 K F ⟨rfl,rfl⟩ hk hk0;rw[Dd]at F;cases J:(rg (Cd xs.length ss) P.toNat xs.length)[j]? with
  |none=>rw[J]at F;cases F
  |some b=>
   rw[J]at F;have F:=(Nd F).symm;subst F;have bl:=(Tq.mp (Hd J)).1;refine⟨by unfold ud;rw[R],?_⟩
   simp! only[];refine eF (k:=k) (by lia) Z bl so sl ?_
   show(if Ff P ss b=la then _ else _)
   by_cases c:Ff P ss b=la
   ·rw[if_pos c];exact hk _ _ ⟨rfl,by rw[fF J,if_pos c,wf];rfl⟩
   ·rw[if_neg c];exact hk0 _ ⟨rfl,by rw[fF J,if_neg c,im]⟩
def WS  (w8:xs.length<=8)(so:∀s∈ss,s.Ok xs.length)(sl:ss.length<=24)(h1:1<=P)(h2:P<=600)(hR:P.toNat ^ nr (Cd xs.length ss) xs.length<=5000000)
  (q:∀F,Sa G F->Q (.int ((P.toNat ^ nr (Cd xs.length ss) xs.length:Nat):Int)) F):Bb T (k+2) NF [Ib xs ss,.int P] G Q X:=by
 refine⟨rfl,?_⟩;simp! only[IF,fc,Qb];refine sF (k:=k) w8 so sl λZ G1 s1 xa J=>?_;have I:=(mk_n (ss:=ss) (W:=xs.length) so xs.length).l;have j:∀w:Nat,w<xs.length->((w:Int)∈Cd xs.length ss↔bt (Ke xs.length ss) (w:Int)=w):=λw R=>⟨λh=>(Jh.mp h).2,λh=>Jh.mpr ⟨by lia,h⟩⟩
 have I:(Ke xs.length ss).length=xs.length:=I;generalize Ke xs.length ss=mk at J j I;generalize Cd xs.length ss=zs at q j hR;simp! only[ZG];simp! only[aH,Kl J];rw[Hb,I];refine⟨by lia,by lia,?_⟩
 refine Te (λi O F=>∃o4:Option U,O=[ia (Ib xs ss),ia (.int P),ia (.loc Z),ia (.int ((P.toNat ^ nr zs i:Nat):Int)),o4]/\Sa G F/\F Z=ia (.lst (mk.map .int))) ?_ ?_ ⟨_,rfl,s1,J⟩
 ·rintro O Y ⟨o4,rfl,s5,g5⟩;rw[Xd];refine⟨trivial,?_⟩;simp! only[bH];exact q Y s5
 ·rintro w x O Y K hx ⟨o4,rfl,s5,g5⟩ hk;obtain⟨R,rfl⟩:=Nf hx;have R:w<xs.length:=by lia
  have j:=j w R;refine⟨trivial,?_⟩;simp! only[];refine⟨by decide,λp6 G6 y=>?_⟩
  simp! only[ix_l (y.sa _ _ g5) (Fl (bs:=mk) (x:=(w:Int)) (by omega) (by omega))]
  have e:nr zs (w+1)=nr zs w+if (w:Int)∈zs then 0 else 1:=rfl
  have f:=s5.trans y.sa;by_cases c:bt mk (w:Int)=w
  ·rw[if_pos (decide_eq_true c),ix_l y.at (Gd _ _ _)];rw[if_pos (j.mpr c),Qz]at e;rw[e]at hk;simp! only[];refine⟨.inr (by constructor<;>lia),hk _ _ ⟨ia (.int w),?_,f,y.sa _ _ g5⟩⟩
   rw[Int.mul_one,Qz]
  ·rw[if_neg (by simpa using c),ix_l y.at (Le _ _)]
   rw[if_neg (λz=>c (j.mp z))]at e;rw[e]at hk;simp! only[];refine⟨.inr (by constructor<;>lia),hk _ _ ⟨ia (.int w),?_,f,y.sa _ _ g5⟩⟩
   have:((P.toNat:Nat):Int)=P:=by lia
   rw[Sz,Int.natCast_mul,this]

def My    (h:(rngU 1 n)[i]?=ia x):i<n/\x=.int (1+(i:Int)):=by
 unfold rngU at h;rw[Dd]at h;by_cases j:i<n
 ·rw[dw j]at h;exact⟨j,by simpa using h.symm⟩
 ·rw[Jr (by simpa using j)]at h
  cases h

def jk  (W:Nat)(ss:List Ab)(us:List U):Prop:=∀(i:Nat) (c:U),us[i]?=ia c->∃m:Nat,m<=2*(1+(i:Int)).toNat ^ (min (W-1) ss.length)/\Cs ss (1+(i:Int)) 70 m (winO (1+(i:Int)) ss) c
def Gi  (ss:List Ab)(P:Int):Prop:=∃c m,Cs ss P 70 m (winO P ss) c
def Mw  (W:Nat)(ss:List Ab)(P:Int):Prop:=∃j:List (List Int),Ee W (Hc ss) j/\P.toNat ^ (W-j.length)<=300
def vB  (W:Nat)(ss:List Ab)(P:Int):Prop:=∃j:List (List Int),Ee W (Hc ss) j/\300<P.toNat ^ (W-j.length)
theorem SS  (so:∀s∈ss,s.Ok xs.length)(sl:ss.length<=24)(w0:0<xs.length)(w8:xs.length<=8)(m1:1<=M)(m2:M<=600)(pb:∀ps ,Ee xs.length (Hc ss) ps->M.toNat ^ (xs.length-ps.length)<=5000000)
  (q1:∀j,Sa G j->(∀P ,1<=P->P<=M->Gi ss P/\Mw xs.length ss P)->Q .non j)
  (q2:∀(bs:List Int) (us:List U) j ,Sa G j->(us.length:Int)<M->jk xs.length ss us->bs.length=xs.length->(∀b∈bs,0<=b/\b<1+(us.length:Int))->Ff (1+(us.length:Int)) ss bs=la->Q (.tup [.int (1+(us.length:Int)),Wc bs,.tup us]) j)
  (qx:∀P j ,Sa G j->1<=P->P<=M->(∀O,1<=O->O<P->Gi ss O)->vB xs.length ss P->X ⟨2,[.str "plan"]⟩ j) :
  Bb T (k+77) NG [Ib xs ss,.int M] G Q X:=by
 refine⟨rfl,?_⟩;simp! only[FG,fc,Qb];simp! only[fJ];refine⟨by decide,by lia,by lia,by lia,by lia,?_⟩
 rw[show(M+1-1).toNat=M.toNat by lia]
 refine Te (λi Y j=>∃(us:List U) (o3 o4 o5:Option U),Y=[ia (Ib xs ss),ia (.int M),ia (.tup us),o3,o4,o5]/\Sa G j/\us.length=i/\jk xs.length ss us/\∀P:Int,1<=P->P<1+(i:Int)->Gi ss P/\Mw xs.length ss P) ?_ ?_ ⟨[],_,_,_,rfl,Sa.refl,rfl,λi c e=>(nomatch e),λP y F=>by lia⟩
 ·rintro Y Z ⟨us,o3,o4,o5,rfl,s5,hl,hu,hp⟩;rw[Xd]at hp;refine⟨trivial,?_⟩;simp! only[gJ];exact q1 Z s5 λP y F=>hp P y (by lia)
 ·rintro i x Y Z K hx ⟨us,o3,o4,o5,rfl,s5,rfl,hu,hp⟩ hk;obtain⟨hi,rfl⟩:=My hx;refine⟨trivial,?_⟩;simp! only[xI];refine YS (k:=k) so sl w0 w8 (P:=1+(us.length:Int)) (by lia) (by lia) (λps J=>Lb (nj (by lia) _) (pb ps J)) (λc m R I hc hm he=>?_) (λbs R I bl hb hw=>?_) λps R J hz I=>?_
  ·simp! only[Fz];refine⟨trivial,?_⟩;rw[if_neg (by decide +kernel)]
   simp! only[yI];refine⟨by decide,?_⟩
   have nb:Gi ss (1+(us.length:Int)):=⟨c,m,hc⟩;have up:jk xs.length ss (us++[c]):=λi c' e=>by
    by_cases hi:i<us.length
    ·rw[Zj hi]at e;exact hu i c' e
    ·rw[Vr (by lia)]at e
     obtain⟨y,F⟩:=Ea.mp e;have:i=us.length:=by simp only[Td,ah]at y;lia
     subst this;rw[<- F];simp only[Er,cL];exact⟨m,hm,hc⟩
   refine⟨?_,hk _ _ ⟨us++[c],_,_,_,rfl,s5.trans I,by simp,up,λP y F=>?_⟩⟩
   ·simp only[Td,ah];exact Lb (show _<=1000 by lia) (by decide)
   ·by_cases J:P<1+(us.length:Int)
    ·exact hp P y J
    ·have:P=1+(us.length:Int):=by lia
     rw[this];exact⟨nb,he⟩
  ·simp! only[Fz];refine⟨trivial,?_⟩;rw[if_pos (by decide)]
   exact⟨by decide,q2 bs us R (s5.trans I) (by lia) hu bl hb ((KC (by lia)).mpr hw)⟩
  ·exact qx _ R (s5.trans I) (by lia) (by lia) (λO y F=>(hp O y F).1) ⟨ps,J,hz⟩


theorem RD  (so:∀s∈ss,s.Ok xs.length)(Z:ss.length<=24)(I:0<xs.length)(w8:xs.length<=8)(m1:1<=M)(R:M<=600)(pb:∀ps ,Ee xs.length (Hc ss) ps->M.toNat ^ (xs.length-ps.length)<=5000000)
  (q1:∀j,Sa G j->(∀P ,1<=P->P<=M->Gi ss P/\Mw xs.length ss P)->Q .non j)
  (q2:∀(bs:List Int) (us:List U) j ,Sa G j->(us.length:Int)<M->jk xs.length ss us->bs.length=xs.length->(∀b∈bs,0<=b/\b<1+(us.length:Int))->Ff (1+(us.length:Int)) ss bs=la->Q (.tup [.int (1+(us.length:Int)),Wc bs,.tup us]) j)
  (qx:∀P j ,Sa G j->1<=P->P<=M->(∀F,1<=F->F<P->Gi ss F)->vB xs.length ss P->Q (.tup [.str "many",.str "plan"]) j) :
  Bb T (k+78) Sy [Ib xs ss,.int M] G Q X:=by
 refine⟨rfl,?_⟩;simp! only[HF,fc,Qb];refine SS (k:=k) so Z I w8 m1 R pb (λy s1 h=>?_) (λbs us y s1 hl O bl hb hk=>?_) λP y s1 p1 J hn Y=>?_
 ·simp! only[];exact q1 y s1 h
 ·simp! only[];exact q2 bs us y s1 hl O bl hb hk
 ·refine⟨.inl trivial,?_⟩;simp[Kg,Xn,wg,lit1,litH,atsH,Uj,clsF,clsA,-RJ];exact qx P y s1 p1 J hn Y
def DT     {kk:Bool->Prop}(g:G p=ia (.lst (Qb n (.bl la))))(q:kk ua):Jg (.bl ua) (.loc p) G kk:=by
 refine in_l g rfl (by simp[List.all_replicate,flat]) ?_
 have:((Qb n (U.bl la)).any λy=>Lg y (.bl ua))=ua:=by simp[List.any_replicate,Lg]
 rw[this];exact q
theorem BE    (so:∀s∈ss,s.Ok xs.length)(O:ss.length<=24)(w0:0<xs.length)(w8:xs.length<=8)(m2:(us.length:Int)<600)(hB:(us.length:Nat) ^ (min (xs.length-1) ss.length)<=300)
  (hp:jk xs.length ss us) (bl:bs.length=xs.length) (hb:∀b∈bs,0<=b/\b<1+(us.length:Int)) (hk:Ff (1+(us.length:Int)) ss bs=la)
  (q:∀j,Sa G j->Q (.bl la) j):Bb T (k+78) jz [Ib xs ss,.int (1+(us.length:Int)),.tup [.int (1+(us.length:Int)),Wc bs,.tup us]] G Q X:=by
 refine⟨rfl,?_⟩;simp! only[mG,fc,Qb,Iq];rw[if_neg (by decide),if_neg (by decide),ix_t (Le _ _)]
 refine Nx (Dx (by lia)) (by decide) (by decide) (Nx (Dx (by lia)) (by decide) (by decide) ?_)
 simp! only[];rw[if_neg (by simp)]
 simp! only[YG];rw[show cut [U.int (1+(us.length:Int)),Wc bs,U.tup us] (ia 1) Aa=[Wc bs,.tup us]from rfl];simp! only[cI,Iq,Wc,Ib,ix_t (Le _ _),Hb];rw[if_neg (by decide),if_neg (by simp[bl]),if_neg (by decide)]
 simp! only[dI];refine⟨trivial,by rw[Hb];exact Lb (show _<=8 by lia) (by decide),?_⟩
 refine Xi (λ_=>.bl la) trivial (λu hu K hK=>?_) ?_
 ·obtain⟨z,y,rfl⟩:=Ia.mp hu;have:=hb z y;refine Oq (k:=k+76) ?_;rw[decide_eq_true (show(0:Int)<=z by lia),decide_eq_true (show z<=1+(us.length:Int)-1 by lia)]
  exact hK
 intro p1 G1 Z;refine DT (n:=bs.length) (by rw[Z.at,jg];simp[Function.comp_def,List.map_const']) ?_
 rw[if_neg (by decide)]
 refine eF (k:=k+75) (bs:=bs) (W:=xs.length) (by lia) (by lia) bl so O ?_
 rw[hk];simp! only[];rw[if_neg (by decide)]
 simp! only[eI];rw[if_neg (by simp;lia)]
 simp! only[gI];refine⟨by lia,by lia,?_⟩
 rw[show(1+(us.length:Int)-1).toNat=us.length by lia]
 refine Te (λi F j=>∃o5:Option U,F=[ia (Ib xs ss),ia (.int (1+(us.length:Int))),ia (.tup [.int (1+(us.length:Int)),Wc bs,.tup us]),ia (Wc bs),ia (.tup us),o5]/\Sa G j) ?_ ?_ ⟨_,rfl,Z.sa⟩
 ·rintro F J ⟨o5,rfl,s5⟩;refine⟨trivial,?_⟩;simp! only[iI];exact q J s5
 ·rintro i x F J K hx ⟨o5,rfl,s5⟩ hkk;obtain⟨Y,rfl⟩:=Nf hx;refine⟨trivial,?_⟩;obtain⟨m,hm,R⟩:=hp i us[i] (Ic Y);have ix:∀(G:Gp) (Q:K1),bf (.tup us) (.int (i:Int)) G Q=Q us[i] G:=λG Q=>ix_t (Mn (Ic Y));simp! only[RI,ix];rw[show(i:Int)+1=1+(i:Int) by lia]
  refine nW (k:=k) so O (by lia) (by lia) R λG6 s6=>?_
  have I:∀kk:Bool->Prop,kk la->Ig (.bl la) (.bl la) kk:=λ_ h=>h;refine I _ ?_;rw[if_neg (by decide)]
  simp! only[ix];have hP:(1+(i:Int)).toNat ^ min (xs.length-1) ss.length<=300:=Lb (nj (by lia) _) hB
  refine MS (k:=k+76) (m:=m) (by lia) R λz G7 y s7=>?_
  simp! only[];rw[if_neg (by simpa using y)]
  exact hkk _ _ ⟨_,rfl,s5.trans (s6.trans s7)⟩


def JR  (R:Fn G f c n)(hn:n<=900000000)(w8:W<=8)(q:∀(xs:List Str) F ,xs.length=W->Fn F f c (n+2)->Sm f G F->Q (.tup (xs.map .str)) F):Bb T (k+2) DI [.loc f,.int W] G Q X:=by
 refine⟨rfl,?_⟩;simp! only[BI,fc,Qb];refine⟨by decide,λp2 G2 I=>Qc (R.new I) (by lia) (by decide) (by decide) λr3 G3 a3 b3 f3 s3=>⟨by decide,λp4 G4 y=>Qc (f3.new y) (by lia) (by decide) (by decide) λr5 Z a5 b5 f5 Y=>?_⟩⟩
 refine Ih [1,5,7,11] (Y _ _ (f3.away y).1 y.at) a5 b5 λst xa=>?_;have S5:Sm f G Z:=((Sm.refl.nw I).trans s3).nw y |>.trans Y;have g5:=Y _ _ (R.away I).1 (y.sa _ _ (s3 _ _ (R.away I).1 I.at));simp! only[];refine⟨by lia,by lia,by rw[Xd];exact Lb (show _<=8 by lia) (by decide),?_⟩
 refine cg (λi j F=>F=Z/\∃xs:List Str,xs.length=i/\j=xs.map .str) ?_ ?_ ⟨rfl,[],rfl,rfl⟩
 ·rintro j G6 ⟨rfl,xs,J,rfl⟩;rw[Xd]at J;refine⟨trivial,?_⟩;intro p7 G7 O;rw[it_l O.at];exact q xs _ J ((f5.new O).mono (by lia)) (S5.nw O)
 ·rintro i x j G6 K J ⟨rfl,xs,hl,rfl⟩ hk _;obtain⟨hi,rfl⟩:=Nf J;refine⟨trivial,?_⟩;simp! only[];refine⟨.inr (by lia),by lia,?_⟩
  have e0:=xh (r3+st*(i:Int)) (show(12:Int)≠0 by decide)
  have e1:=Ai (r3+st*(i:Int)) (show(0:Int)<12 by decide)
  refine Nu g5 e0 e1 λu hu=>?_;obtain⟨x,rfl⟩:∃x:Str,u=.str x:=by
   simp only[ic,Ve,or_false]at hu;rcases hu with rfl|rfl|rfl|rfl|rfl|rfl|rfl|rfl|rfl|rfl|rfl|rfl<;>exact⟨_,rfl⟩
  exact hk _ _ ⟨rfl,xs++[x],by rw[Xf,hl];rfl,by simp⟩
def fV  (hf:Fn G f c n)(hn:n<=900000000)(q:∀(W:Nat) (M P:Int) G' ,1<=W->W<=5->1<=M->M<=60->M.toNat ^ (W-1)<=300->1<=P->P<=60->Fn G' f c (n+5)->Sm f G G'->Q (.tup [.int W,.int M,.int P]) G'):Bb T (k+2) pI [.loc f] G Q X:=by
 refine⟨rfl,?_⟩;simp! only[mI,fc,Qb];refine⟨by decide,λp2 G2 y=>Qc (hf.new y) (by lia) (by decide) (by decide) λr3 G3 a3 b3 f3 Y=>?_⟩
 refine Ih [2,3,3,4,2,5,1,4] (Y _ _ (hf.away y).1 y.at) a3 b3 λw Z=>?_;simp! only[pJ];refine⟨by decide,λp4 G4 J=>?_⟩
 obtain⟨j,em,w1,w5,m1,m6,mw⟩:∃j:Int,atI [U.int 60,.int 60,.int 17,.int 6,.int 4] (w-1)=ia (.int j)/\1<=w/\w<=5/\1<=j/\j<=60/\j.toNat ^ (w.toNat-1)<=300:=by
  simp only[ic,Ve,or_false]at Z;rcases Z with rfl|rfl|rfl|rfl|rfl|rfl|rfl|rfl<;>exact⟨_,rfl,by decide,by decide,by decide,by decide,by decide⟩
 rw[ix_l J.at em];simp! only[qJ];refine Qc (f3.new J) (by lia) (by lia) (by lia) λr5 G5 a5 b5 f5 s5=>?_
 simp! only[];refine Qc f5 (by lia) (by split<;>lia) (by split<;>lia) λr6 G6 a6 b6 R s6=>⟨by decide,λp7 G7 F=>Qc (R.new F) (by lia) (by decide) (by decide) λr8 G8 a8 b8 f8 O=>?_⟩
 simp! only[];refine Ih [1+r5,1+r6,j] (O _ _ (R.away F).1 F.at) (by split<;>lia) (by show _<(3:Int);split<;>lia) λM I=>?_
 have I:1<=M/\M<=j:=by
  simp only[ic,Ve,or_false]at I;split at b6<;>lia
 simp! only[rJ];refine Qc f8 (by lia) (by lia) (by lia) λr9 G9 a9 b9 f9 s9=>⟨by decide,?_⟩
 obtain⟨W,rfl⟩:=Cg (show 0<=w by lia)
 refine q W M (1+r9) G9 (by lia) (by lia) I.1 (by lia) ?_ (by lia) (by lia) (f9.mono (by lia)) ?_
 ·exact Lb (nj (show M.toNat<=j.toNat by lia) _) mw
 ·exact(((((Sm.refl.nw y).trans Y).nw J).trans s5).trans s6 |>.nw F).trans O |>.trans s9


def ik  (t:Ab):Prop:=t.w = "span" /\ t.lo<=t.hi
def RS  (hf:Fn G f c n)(hn:n<=800000000)(q:∀(xs:List Str) (l:List Ab) (s:Ab) R ,5<=xs.length->xs.length<=8->l.length<=8->(∀t∈l++[s],t.Ok xs.length)->(∀t∈l,ik t)->(ik s\/(s.w = "apart" /\ 5<=s.lo/\s.hi=9999))->Fn R f c (n+100)->Sm f G R->Q (Ib xs (l++[s])) R) :
  Bb T (k+3) BH [.loc f] G Q X:=by
 refine⟨rfl,?_⟩;simp! only[xH,fc,Qb];refine Qc hf (by lia) (by decide) (by decide) λr1 G1 a1 b1 f1 s1=>?_
 obtain⟨W,hW⟩:=Cg (show 0<=5+r1 by lia)
 simp! only[];rw[hW];have w5:5<=W:=by lia
 have w8:W<=8:=by lia
 simp! only[tI];refine⟨by decide,λp2 G2 n2=>?_⟩
 have J:=f1.away n2;simp! only[uI];refine⟨by lia,by lia,?_⟩
 rw[show((W:Int)-1).toNat=W-1 by lia]
 refine Te (λi ς R=>∃(y:List Ab) (o3:Option U),ς=[ia (.loc f),ia (.int W),ia (.loc p2),o3,Aa]/\Fn R f c (n+1+3*i)/\Sm f G R/\R p2=ia (.lst (y.map Ab.u))/\y.length=i/\∀s∈y,s.Ok W/\ik s) ?_ ?_ ⟨[],_,rfl,f1.new n2,s1.nw n2,n2.at,rfl,λs h=>(nomatch h)⟩
 ·rintro ς G3 ⟨y,o3,rfl,f3,s3,g3,sl,so⟩;rw[Xd]at sl f3;refine⟨trivial,?_⟩;simp! only[vI];refine Qc f3 (by lia) (by decide) (by decide) λr4 G4 a4 b4 f4 s4=>Qc f4 (by lia) (by decide) (by decide) λr5 G5 a5 b5 f5 s5=>⟨by decide,?_⟩
  simp! only[wI];refine JR (k:=k) f5 (by lia) w8 λxs G6 hx f6 s6=>⟨by decide,λp7 G7 Y=>?_⟩
  refine Qc (f6.new Y) (by lia) (by decide) (by decide) λr8 G8 a8 b8 f8 s8=>?_
  have g8:G8 p2=ia (.lst (y.map Ab.u)):=s8 _ _ J.1 (Y.sa _ _ (s6 _ _ J.1 (s5 _ _ J.1 (s4 _ _ J.1 g3))));have S8:Sm f G G8:=((((s3.trans s4).trans s5).trans s6).nw Y).trans s8;obtain⟨Z,rfl⟩:=Cg a4;have za:Ab.Ok W ⟨"apart",0,Z,5+r5,9999⟩:=⟨.inl rfl,by show 0<W;lia,by show Z<W;lia,by dsimp only;lia,by dsimp only;lia⟩
  have ja:(y.map Ab.u).length<=7:=by rw[Hb];lia
  have xa:∀(l:List Ab) (s:Ab),l.length<=8->(∀t∈l++[s],t.Ok W)->(∀t∈l,ik t)->(ik s\/(s.w = "apart" /\ 5<=s.lo/\s.hi=9999))->∀F,Fn F f c (n+100)->Sm f G F->Q (Ib xs (l++[s])) F:=λl s h1 J h3 h4 F h5 h6=>by
   subst hx;exact q xs l s F w5 w8 h1 J h3 h4 h5 h6
  have hR:r8=0\/r8=1:=by lia
  rcases hR with rfl|rfl
  ·refine⟨_,s8 _ _ (f6.away Y).1 Y.at,by decide,by decide,He _,λp9 G9 I=>⟨_,_,I.sa _ _ g8,I.at,by show _+0<=_;exact Lb (show _<=7 by lia) (by decide),λpa F O=>?_⟩⟩
   simp! only[it_l O.at];refine⟨by decide,?_⟩
   have ne:y≠[]:=λz=>by rw[z]at sl;simp at sl;lia
   have ed:=List.dropLast_concat_getLast ne;have:=xa y.dropLast (y.getLast ne) (by rw[SJ];lia) (by rw[ed];exact λt j=>(so t j).1) (λt j=>(so t (List.dropLast_subset _ j)).2) (.inl (so _ (List.getLast_mem ne)).2) F (((f8.new I).new O).mono (by lia)) ((S8.nw I).nw O)
   rw[ed]at this;simpa[Ib]using this
  ·refine⟨_,s8 _ _ (f6.away Y).1 Y.at,by decide,by decide,by show 1*1<=db;decide,λp9 G9 I=>⟨_,_,I.sa _ _ g8,I.at,Lb (show _+1<=8 by lia) (by decide),λpa F O=>?_⟩⟩
   simp! only[it_l O.at];refine⟨by decide,?_⟩
   have:=xa y ⟨"apart",0,Z,5+r5,9999⟩ (by lia) (λt j=>?_) (λt j=>(so t j).2) (.inr ⟨rfl,by dsimp only;lia,rfl⟩) F (((f8.new I).new O).mono (by lia)) ((S8.nw I).nw O)
   ·simpa[Ib,Ab.u]using this
   ·rcases Ma.mp j with j|j
    ·exact(so t j).1
    ·rw[Fa.mp j];exact za
 ·rintro i x ς G3 K hx ⟨y,o3,rfl,f3,s3,g3,sl,so⟩ hk;obtain⟨hi,rfl⟩:=Nf hx;refine⟨trivial,?_⟩;simp! only[jJ,li g3];refine Qc f3 (by lia) (by lia) (by lia) λr4 G4 a4 b4 f4 s4=>Qc f4 (by lia) (by decide) (by decide) λr5 G5 a5 b5 f5 s5=>Qc f5 (by lia) (by decide) (by decide) λr6 G6 a6 b6 f6 s6=>⟨by decide,?_⟩
  obtain⟨Z,rfl⟩:=Cg a4;have S6:=(s4.trans s5).trans s6;rw[ii (S6 _ _ J.1 g3)];refine⟨by rw[Hb];exact Pg (show _<=8 by lia) (by decide),λG7 w7=>?_⟩
  refine hk _ _ ⟨y++[⟨"span",i+1,Z,r5,9+r6⟩],_,rfl,(f6.off J w7).mono (by lia),λb hb o e=>w7.sm _ _ (λz=>?_) (S6 _ _ o (s3 _ _ o e)),?_,?_,λt j=>?_⟩
  ·have:=s1 _ _ o e;rw[z,n2.no]at this;cases this
  ·rw[w7.at];simp[Ab.u]
  ·simp[sl]
  ·rcases Ma.mp j with h|h
   ·exact so t h
   ·rw[Fa.mp h];exact⟨⟨.inr rfl,by show i+1<W;lia,by show Z<W;lia,by dsimp only;lia,by dsimp only;lia⟩,rfl,by dsimp only;lia⟩
def cV   (hf:Fn G f c n)(hn:n<=800000000)(h1:1<=P)(h2:P<=600)(w8:W<=8)(hm:2*m<=W)
  (q:∀(xs:List Str) (ss:List Ab) bu F ,xs.length=W->(∀x∈xs,Nm x)->ss.length=m->(∀i (s:Ab),ss[i]?=ia s->s.o=2*i/\s.t=2*i+1)->(∀s∈ss,s.Ok W)->Fn F f c (n+100)->Sm f G F->Q (.tup [Ib xs ss,bu]) F):Bb T (k+3) qH [.loc f,.int W,.int P,.int m] G Q X:=by
 refine⟨rfl,?_⟩;simp! only[fG,fc,Qb];refine⟨by lia,by lia,by rw[Xd];exact Lb (show _<=8 by lia) (by decide),?_⟩
 refine cg (λi y F=>Fn F f c (n+i)/\Sm f G F/\∃bs:List Int,y=bs.map .int/\bs.length=i) ?_ ?_ ⟨hf,Sm.refl,[],rfl,rfl⟩
 ·rintro y G1 ⟨f1,s1,bs,rfl,bl⟩;rw[Xd]at f1 bl;refine⟨trivial,λp2 G2 O=>?_⟩;simp! only[it_l O.at];simp! only[bI];refine⟨by lia,by lia,by rw[Xd];exact Lb (show _<=8 by lia) (by decide),?_⟩
  refine cg (λi y F=>Fn F f c (n+8+6*i)/\Sm f G F/\∃ss:List Ab,y=ss.map Ab.u/\ss.length=i/\(∀(j:Nat) (s:Ab),ss[j]?=ia s->s.o=2*j/\s.t=2*j+1)/\∀s∈ss,s.Ok W) ?_ ?_ ⟨(f1.new O).mono (by lia),s1.nw O,[],rfl,rfl,λj s e=>(nomatch e),λs h=>(nomatch h)⟩
  ·rintro y G3 ⟨f3,s3,ss,rfl,sl,so1,so2⟩;rw[Xd]at f3 sl;refine⟨trivial,λp4 G4 J=>?_⟩;simp! only[tH];refine⟨by decide,?_⟩
   have ec:Z.cut [U.str "a",.str "ab",.str "works",.str "span",.str "apart",.str "ring",.str "b",.str "stay"] Aa (ia (W:Int))=(Cn.take W).map .str:=by rw[Gn,Ar];rfl
   rw[ec];simp! only[uH,it_l J.at];refine⟨by decide,by decide,?_⟩
   exact q (Cn.take W) ss _ G4 (by rw[kj];exact BA w8) (λx I=>aF x (Em I)) sl so1 so2 ((f3.new J).mono (by lia)) (s3.nw J)
  ·rintro i x y G3 K I ⟨f3,s3,ss,rfl,sl,so1,so2⟩ hk _;obtain⟨hi,rfl⟩:=Nf I;refine⟨trivial,?_⟩;simp! only[];refine⟨.inr (by lia),.inr (by lia),?_⟩
   rw[show(2:Int)*(i:Int)=((2*i:Nat):Int) by lia,show((2*i:Nat):Int)+1=((2*i+1:Nat):Int) by lia]
   refine PD (k:=k) (bs:=bs) (W:=W) f3 (by lia) h1 h2 (λj R Q=>ix_t (MD (by lia))) (by lia) (by lia) λs G4 os so st f4 s4=>hk _ _ ⟨f4.mono (by lia),s3.trans s4,ss++[s],by simp,by simp[sl],λj t e=>?_,λt ht=>?_⟩
   ·by_cases R:j<ss.length
    ·rw[Zj R]at e;exact so1 j t e
    ·rw[Vr (by lia)]at e
     obtain⟨e1,Y⟩:=Ea.mp e;have:j=i:=by simp only[Td,ah]at e1;lia
     subst this;simp only[sl,Er,cL]at Y;rw[<- Y];exact⟨so,st⟩
   ·rcases Ma.mp ht with h|h
    ·exact so2 t h
    ·rw[Fa.mp h];exact os
 ·rintro i x y G1 K I ⟨f1,s1,bs,rfl,bl⟩ hk _;obtain⟨hi,rfl⟩:=Nf I;refine⟨trivial,?_⟩;simp! only[];exact Qc f1 (by lia) (by lia) (by lia) λr G2 a2 b2 f2 s2=>hk _ _ ⟨f2,s1.trans s2,bs++[r],by simp,by simp[bl]⟩

theorem nr_0   (h:(0:Int)∈fs):∀W,1<=W->nr fs W<=W-1
 |1,_=>by show 0+(if ((0:Nat):Int)∈fs then 0 else 1)<=0;rw[if_pos (show((0:Nat):Int)∈fs from h)];exact Fb _
 |w+2,_=>by
  have j:=nr_0 h (w+1) (by lia)
  show nr fs (w+1)+(if ((w+1:Nat):Int)∈fs then 0 else 1)<=w+1
  split<;>lia
theorem WB    (h:∀w:Nat,w<B->w%2=0\/2*m<=w->(w:Int)∈fs):∀W,W<=B->nr fs W<=W/2/\nr fs W<=m
 |0,_=>⟨He _,He _⟩
 |w+1,hw=>by
  have j:=WB h w (by lia)
  show nr fs w+(if (w:Int)∈fs then 0 else 1)<=(w+1)/2/\nr fs w+(if (w:Int)∈fs then 0 else 1)<=m
  by_cases c:(w:Int)∈fs
  ·rw[if_pos c];lia
  ·rw[if_neg c];have:¬(w%2=0\/2*m<=w):=λz=>c (h w (by lia) z)
   lia
def lN    w:nr fs w<=w:=by have:=Qx (fs:=fs) w;lia

def lQ  (j:∀s∈ss,s.Ok W)(F:0<W):(0:Int)∈Cd W ss:=
 Jh.mpr ⟨by lia,(Ou j (zg _) (by lia)).mpr λy c=>(fu j c (zg _) (by lia)).1⟩
def ES  (R:∀s∈ss,s.Ok W)(h:∀i (s:Ab),ss[i]?=ia s->s.o=2*i/\s.t=2*i+1)(Z:x<W)(Y:x%2=0\/2*ss.length<=x):(x:Int)∈Cd W ss:=
 Jh.mpr ⟨by lia,(Ou R (by lia) (by lia)).mpr λy c=>c.closed (S:=λz=>(x:Int)<=z) (λa b I e=>by
  have j:∀p∈Hc ss,((x:Int)<=p.1↔(x:Int)<=p.2):=λp O=>by
   obtain⟨s,J,rfl⟩:=Ia.mp O;obtain⟨i,F⟩:=List.getElem?_of_mem J;have:=h i s F;have:=(Ea.mp F).1;dsimp only
   lia
  rcases e with e|e
  ·exact(j _ e).mp I
  ·exact(j _ e).mpr I) (zg _)⟩
def no_b  (j:1<=P)(h:Gi ss P):¬Ff P ss b=la:=λhk=>by
 obtain⟨c,m,y⟩:=h;have wl:(winO P ss).length=ss.length:=Hb _;obtain⟨L,I,F⟩:=yN (b:=b) wl ((KC j).mp hk);exact y.no j wl L I F
def yC  (j:1<=P)(h:Gi ss P):(Sj W ss P).isEmpty=la:=by
 rw[CJ];exact Gc.mpr λb _=>no_b j h
def VM  (F:∀s∈ss,s.Ok W)(j:1<=P)(hk:Ff P ss bs=la):(Sj W ss P).isEmpty=ua:=by
 obtain⟨b,I,y⟩:=CT F j hk;have:b∈Sj W ss P:=Sc.mpr ⟨I,y⟩;cases e:Sj W ss P with
 |nil=>rw[e]at this;cases this
 |cons _ _=>rfl
def Ll  (W:Nat)(ss:List Ab)(M:Int):List Nat:=(md M.toNat).filter λi=>!(Sj W ss (1+(i:Int))).isEmpty
def XT  (h:∀P ,1<=P->P<=M->Gi ss P):Ll W ss M=[]:=
 Gc.mpr λi j=>by
  have:=Va.mp j;rw[yC (by lia) (h _ (by lia) (by lia))];decide
def jk.no  (h:jk W ss us)(O:1<=j)(J:j<1+(us.length:Int)):Gi ss j:=by
 obtain⟨i,I⟩:=Cg (show 0<=j-1 by lia)
 have F:i<us.length:=by lia
 obtain⟨m,_,y⟩:=h i us[i] (Ic F);rw[show j=1+(i:Int) by lia]
 exact⟨_,m,y⟩
def aS  (I:∀s∈ss,s.Ok W)(O:(us.length:Int)<M)(F:jk W ss us)(hk:Ff (1+(us.length:Int)) ss bs=la):∃r,Ll W ss M=us.length::r:=by
 have e:(Ll W ss M).head?=ia us.length:=by
  unfold Ll;rw[List.head?_filter,List.find?_range_eq_some];refine⟨by rw[VM I (by lia) hk];rfl,Va.mpr (by lia),λj J=>?_⟩
  rw[yC (by lia) (F.no (by lia) (by lia))];rfl
 cases y:Ll W ss M with
 |nil=>rw[y]at e;cases e
 |cons x r=>rw[y]at e;cases e;exact⟨r,rfl⟩
def Ry  (h:∀t∈ss,ik t):Ff 1 ss bs=la:=Mg.mpr λt j=>by
 have ⟨y,F⟩:=h t j;refine decide_eq_true ?_;rw[Int.emod_one];unfold endZ;rw[if_pos y];split<;>lia
def ZP  {s:Ab}(hs:s∈ss)(y:s.w = "apart")(lo:5<=s.lo)(j:s.hi=9999)(I:1<=P)(F:P<=600):¬Ff P ss bs=la:=λh=>by
 have:=of_decide_eq_true (Mg.mp h s hs);have:=xh (bt bs s.t-bt bs s.o-s.lo) (show P≠0 by lia)
 have e:endZ P s<=P-9999:=by
  unfold endZ;rw[if_neg (show ¬s.w = "span" by rw[y];decide +kernel),j]
  split<;>lia
 lia

def MR    (F:xs.length<=8)(nm:∀x∈xs,Nm x)(O:ss.length<=24)(J:∀s∈ss,s.Ok xs.length):Ft 600000 3 (Ib xs ss):=by
 refine(Ft.tup (n:=260000) (k:=2) (m:=2) (Fb _) (λu hu=>?_) (by decide)).mono (Fb _) (Fb _)
 simp only[ic,Ve,or_false]at hu;rcases hu with rfl|rfl
 ·refine(Ft.tup (n:=82) (k:=0) (m:=8) (by rw[Hb];exact F) (λv j=>?_) (by decide:_<=1000)).mono (by decide) (by decide)
  obtain⟨x,y,rfl⟩:=Ia.mp j;exact Ft.str (nm x y).l8 (nm x y).ch
 ·refine Ft.tup (n:=10000) (k:=1) (m:=25) (by rw[Hb];lia) (λv j=>?_) (by decide)
  obtain⟨s,I,rfl⟩:=Ia.mp j;exact(J s I).ft F
def KD     (h:k ua):cmpU .NotEq (.str x) (.str x) G k:=by
 show k (!decide (x=x));rw[decide_eq_true rfl];exact h
def WT   l:Ud 1 (Wc l):=Ud.tup λu hu=>by
 obtain⟨z,_,rfl⟩:=Ia.mp hu;exact Ud.int _
section
variable {k:Nat}{G:Gp}{Q:K1}{X:KX}{xs:List Str}{ss:List Ab}{f c a p:Ba}{n W:Nat}{P M cnt:Int}{ns:List Nat}{z:Str}
variable {K:Sg->Gp->Prop}{o2 o3 o4 o5 o6 o7 o8 o9 o10 o11 o12:Option U}
structure Dw (xs:List Str)(ss:List Ab)(M:Int):Prop where
 so:∀s∈ss,s.Ok xs.length
 sl:ss.length<=24
 w0:0<xs.length
 w8:xs.length<=8
 nm:∀x∈xs,Nm x
 m1:1<=M
 m6:M<=60
 hR:M.toNat ^ nr (Cd xs.length ss) xs.length<=300
 hB:M.toNat ^ (min (xs.length-1) ss.length)<=300
def Dw.pb  (h:Dw xs ss M)(ps:List (List Int))(j:Ee xs.length (Hc ss) ps):M.toNat ^ (xs.length-ps.length)<=300:=by
 rw[<- Jy h.so j];exact h.hR
noncomputable def sZ  (ns:List Nat):List U:=ns.map λ(i:Nat)=>.int (1+(i:Int))
def Pn   {kk:Bool->Prop}(g:G p=ia (.lst (sZ ns)))(g':G j=ia (.lst []))(q:kk ns.isEmpty):eqU (.loc p) (.loc j) G kk:=
 Px (n:=0) (λu hu=>by obtain⟨i,_,rfl⟩:=Ia.mp hu;exact Ud.int _) (by decide) g g' (by rw[sZ,DJ];exact q)
theorem rR  (h:Dw xs ss M)(g:G p=ia (.lst (sZ (Ll xs.length ss M))))(hz:∀F (Q:K1),Q (.str z) F->Ol [Ib xs ss] F Q)(kk:∀o11 F,Sa G F->K [ia (.loc a),ia (.loc f),o2,o3,ia (.int M),o5,ia (Ib xs ss),o7,ia (.loc p),ia (.str z),ia (.int cnt),o11,o12] F) :
  Md T.gs (Bb T (k+80)) mz ⟨K,Q,λx _ F=>X x F⟩ [ia (.loc a),ia (.loc f),o2,o3,ia (.int M),o5,ia (Ib xs ss),o7,ia (.loc p),ia (.str z),ia (.int cnt),o11,o12] G:=by
 have:=h.m1;have:=h.m6;have hB:=h.hB;simp! only[mz];refine RD (k:=k+2) h.so h.sl h.w0 h.w8 h.m1 (by lia) (λR O=>Lb (h.pb R O) (by decide)) (λG1 s1 hn=>?_) (λbs J G1 s1 hl Z bl hb hk=>?_) λP G1 s1 h1 h2 _ ⟨R,O,hx⟩=>?_
 ·have e:=XT (W:=xs.length) λP h1 h2=>(hn P h1 h2).1;rw[e]at g;have I:=s1 _ _ g;have Y:∀kk:Bool->Prop,kk la->Ig .non .non kk:=λ_ h=>h;simp! only[nz];refine hz _ _ (KD ?_);rw[if_neg (by decide)]
  refine⟨He _,λp2 G2 j=>?_⟩;simp! only[];refine Pn (ns:=[]) (j.sa _ _ I) j.at ?_;rw[if_pos (by decide)]
  refine Y _ ?_;rw[if_neg (by decide)]
  simp! only[oz];refine⟨He _,λp3 G3 y=>?_⟩;simp! only[];refine Pn (ns:=[]) (y.sa _ _ (j.sa _ _ I)) y.at ?_;rw[if_neg (by decide)]
  exact kk _ G3 ((s1.trans j.sa).trans y.sa)
 ·obtain⟨r,e⟩:=aS h.so hl Z hk;rw[e]at g;have I:=s1 _ _ g;simp! only[nz];refine hz _ _ (KD ?_);rw[if_neg (by decide)]
  refine⟨He _,λp2 G2 j=>?_⟩;simp! only[];refine Pn (j.sa _ _ I) j.at ?_;rw[if_neg (show ¬List.isEmpty (J.length::r)=la by simp)]
  simp! only[oz];refine⟨He _,λp3 G3 y=>?_⟩;simp! only[];refine Pn (y.sa _ _ (j.sa _ _ I)) y.at ?_;rw[if_pos (show(!List.isEmpty (J.length::r))=la by simp)]
  simp! only[ix_l (y.sa _ _ (j.sa _ _ I)) (show atI (sZ (J.length::r)) 0=ia (.int (1+(J.length:Int)))from Le _ _)];refine BE (k:=k+2) h.so h.sl h.w0 h.w8 (by lia) (Lb (nj (show J.length<=M.toNat by lia) _) hB) Z bl hb hk λG4 s4=>?_
  simp! only[];exact kk _ G4 (((s1.trans j.sa).trans y.sa).trans s4)
 ·have:=Lb (nj (show P.toNat<=M.toNat by lia) _) (h.pb R O)
  lia
def Rest  (a f:Ba)(j:Sg):Prop:=∃o2 o3 o4 o5 o6 o7 o8 o9 o10 o11 o12:Option U,j=[ia (.loc a),ia (.loc f),o2,o3,o4,o5,o6,o7,o8,o9,o10,o11,o12]
theorem ZB  (h:Dw xs ss M)(hf:Fn G f c n)(kk:∀F j,Rest a f F->Fn j f c n->K F j) :
  Md T.gs (Bb T (k+80)) Yy ⟨K,Q,λx _ j=>X x j⟩ [ia (.loc a),ia (.loc f),o2,o3,ia (.int M),o5,ia (Ib xs ss),o7,o8,o9,o10,o11,o12] G:=by
 have m1:=h.m1;have m6:=h.m6;simp! only[Yy];refine⟨by lia,by lia,by lia,by lia,by rw[Xd];exact Lb (show _<=60 by lia) (by decide),?_⟩
 rw[show(M+1-1).toNat=M.toNat by lia]
 refine cg (λi y j=>Sa G j/\y=sZ ((md i).filter λi=>!(Sj xs.length ss (1+(i:Int))).isEmpty)) ?_ ?_ ⟨Sa.refl,rfl⟩
 ·rintro y G1 ⟨s1,rfl⟩;rw[Xd];refine⟨trivial,λp J n2=>?_⟩;have O:J p=ia (.lst (sZ (Ll xs.length ss M))):=n2.at
  obtain⟨z,Y⟩:∃z:Str,∀(j:Gp) (Q:K1),Q (.str z) j->Ol [Ib xs ss] j Q:=⟨_,λj Q q=>Nx (MR h.w8 h.nm h.sl h.so) (by decide) (by decide) q⟩
  simp! only[zG];refine Y _ _ ?_;simp! only[AG];obtain⟨e,he,e0,e1⟩:∃e:Int,(if decide (M<13)=la then (1:Int) else 0)=e/\0<=e/\e<=1:=⟨_,rfl,by split<;>decide,by split<;>decide⟩
  rw[he];refine⟨by lia,by lia,?_⟩
  refine Te (λ_ F j=>Sa J j/\∃o10 o11,F=[ia (.loc a),ia (.loc f),o2,o3,ia (.int M),o5,ia (Ib xs ss),o7,ia (.loc p),ia (.str z),o10,o11,o12]) ?_ ?_ ⟨Sa.refl,_,_,rfl⟩
  ·rintro F G3 ⟨s3,o10,o11,rfl⟩;exact⟨trivial,kk _ _ ⟨_,_,_,_,_,_,_,_,_,_,_,rfl⟩ (hf.sa ((s1.trans n2.sa).trans s3))⟩
  ·rintro i x F G3 K3 I ⟨s3,o10,o11,rfl⟩ hk;obtain⟨hi,rfl⟩:=Nf I;exact⟨trivial,rR (k:=k) h (s3 _ _ O) Y λo11 G4 s4=>hk _ _ ⟨s3.trans s4,_,_,rfl⟩⟩
 ·rintro i x y G1 K1 I ⟨s1,rfl⟩ hk hk0;obtain⟨hi,rfl⟩:=My I;refine⟨trivial,?_⟩;simp! only[];have hR:(1+(i:Int)).toNat ^ nr (Cd xs.length ss) xs.length<=300:=Lb (nj (by lia) _) h.hR
  refine OS (k:=k+77) h.w8 h.so h.sl (by lia) (by lia) hR λp2 J s2 O=>?_
  refine⟨He _,λp3 G3 R=>?_⟩;simp! only[];refine Px (n:=1) (λu hu=>by obtain⟨b,_,rfl⟩:=Ia.mp hu;exact WT b) (by decide) (R.sa _ _ O) R.at ?_
  rw[DJ];have Z:=(s1.trans s2).trans R.sa;cases c:(Sj xs.length ss (1+(i:Int))).isEmpty with
  |true=>
   rw[if_neg (by decide)]
   exact hk0 _ ⟨Z,by rw[uo,Gr,List.filter_cons_of_neg (by rw[c];decide)];simp⟩
  |false=>
   rw[if_pos (by decide)]
   exact hk _ _ ⟨Z,by rw[uo,Gr,List.filter_cons_of_pos (by rw[c];decide)];simp[sZ]⟩
theorem MT  (hf:Fn G f c n)(hn:n<=70000000)(kk:∀F j,Rest a f F->Fn j f c (n+2000)->K F j) :
  Md T.gs (Bb T (k+80)) Xy ⟨K,Q,λx _ j=>X x j⟩ [ia (.loc a),ia (.loc f),o2,o3,o4,o5,o6,o7,o8,o9,o10,o11,o12] G:=by
 simp! only[Xy];refine fV (k:=k+78) hf (by lia) λW M P G1 w1 w5 m1 m6 mw p1 p6 f1 s1=>?_
 simp! only[];refine⟨trivial,?_⟩;simp! only[xG];refine WU (k:=k+77) f1 (by lia) p1 (by lia) (by lia) (by lia) (by decide) (by decide) λY ss G2 Z nm R O f2 s2=>?_
 simp! only[yG];refine Qc f2 (by lia) (by decide) (by decide) λr G3 a3 b3 f3 s3=>?_
 simp! only[];by_cases hr:r=0
 ·rw[if_pos (by simpa using hr)]
  simp! only[QG];refine⟨by decide,by decide,by decide,by decide,λp4 G4 n4=>Qc (f3.new n4) (by lia) (by decide) (by decide) λr5 G5 a5 b5 f5 s5=>?_⟩
  refine Nu (s5 _ _ (f3.away n4).1 n4.at) a5 b5 λu hu=>?_;obtain⟨I,y,J,rfl,wa,za,va,ya,mm,hp⟩:∃(I:Nat) (y:Int) (J:Nat),u=.tup [.int I,.int y,.int J]/\1<=I/\I<=8/\1<=y/\y<=60/\2*J<=I/\y.toNat ^ J<=300:=by
   simp only[ic,Ve,or_false]at hu;rcases hu with rfl|rfl|rfl
   ·exact⟨8,60,0,rfl,by decide,by decide,by decide,by decide,by decide,by decide⟩
   ·exact⟨3,60,1,rfl,by decide,by decide,by decide,by decide,by decide,by decide⟩
   ·exact⟨4,17,2,rfl,by decide,by decide,by decide,by decide,by decide,by decide⟩
  simp! only[];refine⟨trivial,?_⟩;simp! only[RG];refine cV (k:=k+77) f5 (by lia) p1 (by lia) za mm λY ss bu G6 Z nm R xa O f6 s6=>?_
  simp! only[ix_t (Le _ _)];subst Z;have mn:0<y.toNat:=by lia
  have ja:=WB (fs:=Cd Y.length ss) (m:=J) (λw c hw=>ES O xa c (by rw[R];exact hw)) Y.length (Fb _)
  exact ZB (k:=k) ⟨O,by lia,by lia,by lia,nm,va,ya,Lb (oj mn ja.2) hp,Lb (oj mn (by rw[R];exact nA _ _)) hp⟩ f6 λF j h1 h2=>kk F j h1 (h2.mono (by lia))
 ·rw[if_neg (by simpa using hr)]
  subst Z;have mn:0<M.toNat:=by lia
  exact ZB (k:=k) ⟨O,R,by lia,by lia,nm,m1,m6,Lb (oj mn (nr_0 (lQ O (by lia)) _ w1)) mw,Lb (oj mn (Nat.min_le_left _ _)) mw⟩ f3 λF j h1 h2=>kk F j h1 (h2.mono (by lia))
def bO     : atI (l++[x]) (-1)=ia x:=by
 unfold atI dg;rw[if_neg (by decide),if_pos (by rw[Xf];simp only[Td,ah];lia)]
 show(l++[x])[(-1+((l++[x]).length:Int)).toNat]?=ia x;rw[Xf,show(-1+((l.length + [x].length:Nat):Int)).toNat=l.length by simp only[Td,ah];lia]
 simp
def Yi  (W:Nat)(ss:List Ab)(m:Nat):List Nat:=(md m).filter λi=>decide (300<(1+i) ^ nr (Cd W ss) W)
theorem aC {u:U}(so:∀s∈ss,s.Ok xs.length)(sl:ss.length<=24)(w8:xs.length<=8)(m1:1<=M)(m6:M<=6)
  (q:∀p y,y p=ia (.lst (sZ (Yi xs.length ss M.toNat)))->Md T.gs (Bb T (k+80)) Fu ⟨K,Q,λx _ y=>X x y⟩ [ia (.loc a),ia (.loc f),o2,o3,ia (.int M),o5,ia (Ib xs ss),o7,o8,o9,o10,ia u,ia (.loc p)] y) :
  Md T.gs (Bb T (k+80)) wy ⟨K,Q,λx _ y=>X x y⟩ [ia (.loc a),ia (.loc f),o2,o3,ia (.int M),o5,ia (Ib xs ss),o7,o8,o9,o10,ia u,o12] G:=by
 simp! only[wy];refine⟨by lia,by lia,by lia,by lia,by rw[Xd];exact Lb (show _<=6 by lia) (by decide),?_⟩
 rw[show(M+1-1).toNat=M.toNat by lia]
 refine cg (λi F y=>F=sZ (Yi xs.length ss i)) ?_ ?_ rfl
 ·rintro F O rfl;rw[Xd];exact⟨trivial,λp I n2=>q p I n2.at⟩
 ·rintro i x F O K1 Z rfl hk j;obtain⟨hi,rfl⟩:=My Z;refine⟨trivial,?_⟩;simp! only[];have h8:=lN (fs:=Cd xs.length ss) xs.length;have J:(1+(i:Int)).toNat=1+i:=by lia
  have R:(1+i) ^ nr (Cd xs.length ss) xs.length<=6 ^ 8:=Lb (nj (show 1+i<=6 by lia) _) (oj (by decide) (by lia))
  refine WS (k:=k+78) w8 so sl (by lia) (by lia) (by rw[J];exact Lb R (by decide)) λI s2=>?_
  rw[J];have Y:Yi xs.length ss (i+1)=Yi xs.length ss i++if 300<(1+i) ^ nr (Cd xs.length ss) xs.length then [i] else []:=by
   unfold Yi;rw[uo,Gr];congr 1;simp[List.filter_cons]
  rw[Y]at hk j;generalize (1+i) ^ nr (Cd xs.length ss) xs.length=z at hk j;simp! only[];by_cases c:300<z
  ·rw[if_pos (by simp;lia)]
   rw[if_pos c]at hk;exact hk _ _ (by simp[sZ])
  ·rw[if_neg (by simp;lia)]
   rw[if_neg c,im]at j;exact j _ rfl
theorem sR  (hf:Fn G f c n)(R:n<=70000000)(q:∀G',Q (.bl la) G') :
  Md T.gs (Bb T (k+80)) uy ⟨K,Q,λx _ G'=>X x G'⟩ [ia (.loc a),ia (.loc f),o2,o3,o4,o5,o6,o7,o8,o9,o10,o11,o12] G:=by
 simp! only[uy];refine RS (k:=k+77) hf (by lia) λxs l s G1 w5 Z ll I hl j f1 s1=>?_
 simp! only[vE];refine Qc f1 (by lia) (by decide) (by decide) λr G2 a2 b2 f2 s2=>?_
 simp! only[wE];obtain⟨M,hM,m1,m6⟩:∃M,2+r=M/\1<=M/\M<=6:=⟨_,rfl,by lia,by lia⟩
 rw[hM];have Y:(l++[s]).length<=24:=by rw[Xf];simp only[Td,ah];lia
 have pb:∀F:List (List Int),Ee xs.length (Hc (l++[s])) F->M.toNat ^ (xs.length-F.length)<=5000000:=λF _=>Lb (nj (show M.toNat<=6 by lia) _) (Lb (oj (by decide) (show _<=8 by lia)) (by decide:6 ^ 8<=5000000))
 have al:ik s->∀t∈l++[s],ik t:=λh t O=>by
  rcases Ma.mp O with O|O
  ·exact hl t O
  ·rw[Fa.mp O];exact h
 have last:∀(G:Gp) (Q:K1),bf (.tup ((l++[s]).map Ab.u)) (.int (-1)) G Q=Q s.u G:=λG Q=>ix_t (by rw[wf];exact bO)
 refine RD (k:=k+2) I Y (by lia) Z m1 (by lia) pb (λG3 s3 R=>?_) (λbs us G3 s3 za hp bl hb hk=>?_) λP G3 s3 h1 h2 R ⟨F,hP,y⟩=>?_
 ·rcases j with j|⟨hw,hlo,hhi⟩
  ·exact absurd (Ry (bs:=[]) (al j)) (no_b (zg _) (R 1 (zg _) m1).1)
  simp! only[Eu,Ib,ix_t (Gd _ _ _),last,Ab.u,ix_t (Le _ _)];rw[if_neg (by rw[hw];decide +kernel)]
  refine aC (k:=k) (xs:=xs) (ss:=l++[s]) I Y Z m1 m6 λp G4 g4=>?_;have e:Yi xs.length (l++[s]) M.toNat=[]:=Gc.mpr λi hi=>by
   have:=Va.mp hi;obtain⟨F,hP,y⟩:=(R (1+(i:Int)) (by lia) (by lia)).2
   rw[<- Jy I hP,show(1+(i:Int)).toNat=1+i by lia]at y
   simpa using y
  rw[e]at g4;simp! only[Fu];refine⟨He _,λp5 G5 J=>?_⟩;simp! only[];refine Pn (ns:=[]) (J.sa _ _ g4) J.at ?_;rw[if_neg (by decide)]
  have xa:∀kk:Bool->Prop,kk la->Ig .non .non kk:=λ_ h=>h;exact xa _ (q _)
 ·rcases j with j|⟨hw,hlo,hhi⟩
  ·have u0:us.length=0:=by
    refine Nat.eq_zero_of_not_pos λz=>no_b (P:=1) (zg _) (hp.no (zg _) (by lia)) (Ry (bs:=[]) (al j))
   simp! only[Eu,Ib,ix_t (Gd _ _ _),last,Ab.u,ix_t (Le _ _)];rw[if_pos (by rw[j.1];decide)]
   have e1:U.int 1=U.int (1+(us.length:Int)):=by congr 1;lia
   rw[e1];exact BE (k:=k+2) (xs:=xs) (ss:=l++[s]) I Y (by lia) Z (by lia) (by rw[u0];exact Lb (nj (He 1) _) (by rw[Nat.one_pow];decide)) hp bl hb hk λG4 s4=>q G4
  ·exact absurd hk (ZP (Uf _ Cf) hw hlo hhi (by lia) (by lia))
 ·rcases j with j|⟨hw,hlo,hhi⟩
  ·by_cases c:P=1
   ·rw[c]at y;have:(1:Int).toNat ^ (xs.length-F.length)=1:=Nat.one_pow _
    lia
   ·exact absurd (Ry (bs:=[]) (al j)) (no_b (zg _) (R 1 (zg _) (by lia)))
  simp! only[Eu,Ib,ix_t (Gd _ _ _),last,Ab.u,ix_t (Le _ _)];rw[if_neg (by rw[hw];decide +kernel)]
  refine aC (k:=k) (xs:=xs) (ss:=l++[s]) I Y Z m1 m6 λp G4 g4=>?_;have e:(Yi xs.length (l++[s]) M.toNat).isEmpty=ua:=by
   have:P.toNat-1∈Yi xs.length (l++[s]) M.toNat:=Sc.mpr ⟨Va.mpr (by lia),by
    rw[<- Jy I hP]at y;rw[show 1+(P.toNat-1)=P.toNat by lia]
    exact decide_eq_true y⟩
   cases e:Yi xs.length (l++[s]) M.toNat with
   |nil=>rw[e]at this;cases this
   |cons _ _=>rfl
  simp! only[Fu];refine⟨He _,λp5 G5 J=>?_⟩;simp! only[];refine Pn (J.sa _ _ g4) J.at ?_;rw[e,if_pos (by decide)]
  refine⟨by decide,?_⟩
  refine hQ (n:=1) (Ud.tup λu hu=>?_) (by decide) (q _)
  simp only[ic,Ve,or_false]at hu;rcases hu with rfl|rfl
  ·exact Ud.str (by decide +kernel)
  ·exact Ud.str (by decide +kernel)
end
def law_ir   a (ns:List Int)(hl:ns.length<=63):Bb T 300 tx [.loc a] (G0 a ns) (λu _=>u=.bl la) λ_ _=>False:=by
 refine⟨rfl,?_⟩;simp! only[GB,fc,Qb,uE];refine sP (k:=298) (show G0 a ns a=ia (.fro (ns.map .int))from if_pos rfl) λf c Z O=>?_;refine⟨by decide,by decide,?_⟩
 refine Te (λi j F=>Rest a f j/\Fn F f c (2000*i)) ?_ ?_ ⟨⟨_,_,_,_,_,_,_,_,_,_,_,rfl⟩,O⟩
 ·rintro j I ⟨⟨o2,o3,o4,o5,o6,o7,o8,o9,o10,o11,o12,rfl⟩,f2⟩;exact⟨trivial,sR (k:=219) f2 (by decide) λ_=>rfl⟩
 ·rintro i x j I K R ⟨⟨o2,o3,o4,o5,o6,o7,o8,o9,o10,o11,o12,rfl⟩,f2⟩ hk;obtain⟨y,rfl⟩:=Nf R;have y:i<3:=y;exact⟨trivial,MT (k:=219) f2 (by lia) λj F Y J=>hk _ _ ⟨Y,J⟩⟩

def sts  : List Qa:=[s_top_of,s_window_of,s_windows_of,s_with_window,s_ends_of,s_entry_sums,s_sums_of,s_ring_bars,s_entries_to,s_forest_from,s_path_to_root,s_closing_ring,s_closing_rings,s_beats_along,s_parts_of,s_staying,s_size_of,s_refuse_great,s_first_void,s_first_wide,s_halved,s_seek,s_times_or_none_with,s_times_or_none,s_least_round,s_law_fed,s_law_draw,s_law_some_names,s_law_fit,s_law_any_span,s_law_a_plan,s_law_window,s_law_all_windows,s_law_length,s_law_keeps,s_law_firsts,s_law_every,s_law_every_time,s_law_is_from,s_law_two_ends,s_law_is_ring,s_law_sums_of,s_law_up,s_law_is_barred,s_law_with,s_law_word_of,s_law_judged,s_law_none_due,s_law_size,s_law_many_rounds,s_law_too_great,s_law_depth,s_law_parted,s_law_end_judged,s_law_said,s_law_right,s_law]
def prog_rep  : Ri T 0 T.funs sts=la:=by decide +kernel
def prog_eq  : Jj T sts 0 T.funs sts:=⟨rfl,rfl,rfl,rfl,rfl,rfl,rfl,rfl,rfl,rfl,rfl,rfl,rfl,rfl,rfl,rfl,rfl,rfl,rfl,rfl,rfl,rfl,rfl,rfl,rfl,rfl,rfl,rfl,rfl,rfl,rfl,rfl,rfl,rfl,rfl,rfl,rfl,rfl,rfl,rfl,rfl,rfl,rfl,rfl,rfl,rfl,rfl,rfl,rfl,rfl,rfl,rfl,rfl,rfl,rfl,rfl,rfl,trivial⟩
def tabsU  : ∀t∈tabs,∀t'∈tabs,t.1=t'.1->t=t':=λt h=>(nomatch (show t∈[]from h))
noncomputable def tbs  : List (Str×Ba×Ba):=[]
def walk  {l:cB}{K:Cb->Nb}(hn:l.most=ia 63)(y:d.params.defaults=[])
  (R:∀(w:Db) (h:Za),YP w h->(K w.params).In h) (J:∀w:Db,((K w.params).all λp=>p.2.cls != .type "list")=la) (j:∀w:Db,∃o,(K w.params).lookup yf=ia o/\o.cls=.type "dict")
  (hT:∀(w:Db),∀t∈tbs,(∃Z,(PyProof.Rows.recsOf q).find? (λe=>e.name==t.1)=ia Z)/\PySem.W.tabIn (K w.params) t.1=ia (t.2.1,t.2.2)/\(K w.params).lookup t.2.2=Aa)
  (F:∀(w:Db) mg fa (h:Za),(K w.params).In h->h.Ns ze mg->mg d.name=ia (.ref fa)->
   ∃I ,(∀(s:Ja) u ,Lf s I ⟨[u],[]⟩ [("_law_script",u)])/\∀base ,(K w.params).In base->base.Ns ze mg->BmAt mg base->FnOk l.prog w (K w.params) mg base (zf l.prog w) 302 fa I ["_law_script"] (gi (K w.params) (Bb T 300 tx))) :
  IJ q loose XP YP l.row.toRowW d [] (λf vs=>aA f vs):=
 L2.walk_ofT (n:=63) (k:=302) (x := "_law_script") (CX:=λw=>zf l.prog w) (sp:=λw=>gi (K w.params) (Bb T 300 tx)) J hT hn (by decide) y ⟨rfl,by decide,by decide,rfl⟩ R j F (λw _ _ a O hl Y hS=>law_sp (by decide) Y hS (law_ir a O hl)) λ_ _ _ _ _ ⟨_,_,_,_,_,_,_,_,_,_,z⟩=>z
end Z
namespace Y
open PySem L2
set_option maxHeartbeats 0
noncomputable def q0  : Str := "/claim/cut.py"
noncomputable def q1  : Str := "<module>"
noncomputable def q2  : Str := "__main__"
noncomputable def q3  : Str := "TooMany"
noncomputable def q4  : Str := "__init__"
noncomputable def q5  : Str := "NoRing.__init__"
noncomputable def q6  : Str := "beatplans.errors"
noncomputable def q7  : Str := "NoRing"
noncomputable def q8  : Str := "NoPaper.__init__"
noncomputable def q9  : Str := "__module__"
noncomputable def kh  : Str := "__firstlineno__"
noncomputable def jh  : Str := "__static_attributes__"
noncomputable def CB  : Str := "__weakref__"
noncomputable def Bl  : Str := "__doc__"
noncomputable def vp  : Str := "self"
noncomputable def Xg  : Str := "word"
noncomputable def Xw  : Str := "TooMany.__init__"
noncomputable def Vs  : Str := "__name__"
noncomputable def dM  : Str := "__package__"
noncomputable def cM  : Str := "__loader__"
noncomputable def bM  : Str := "__spec__"
noncomputable def aM  : Str := "__annotations__"
noncomputable def ZL  : Str := "__builtins__"
noncomputable def YL  : Str := "__file__"
noncomputable def WL  : Str := "__cached__"
noncomputable def Yh  : Str := "PlanError"
noncomputable def Al  : Str := "NoPaper"
noncomputable def Vm  : Str := "__qualname__"
noncomputable def Ww  : Str := "at"
noncomputable def zl  : Str := "top_of"
noncomputable def Wg  : Str := "plan"
noncomputable def rp  : Str := "forest"
noncomputable def Us  : Str := "work"
noncomputable def VL  : Str := "path"
noncomputable def ul  : Str := "window_of"
noncomputable def ql  : Str := "closing_ring"
noncomputable def ol  : Str := "sums_of"
noncomputable def Cj  : Str := "beatplans.rings"
noncomputable def BB  : Str := "entry"
noncomputable def gh  : Str := "s"
noncomputable def qp  : Str := "way"
noncomputable def Vw  : Str := "one"
noncomputable def Uw  : Str := "other"
noncomputable def Ts  : Str := "low"
noncomputable def Tw  : Str := "high"
noncomputable def nl  : Str := "NoText"
noncomputable def jl  : Str := "path_to_root"
noncomputable def fh  : Str := "beatplans.forests"
noncomputable def Rs  : Str := "row"
noncomputable def el  : Str := "with_window"
noncomputable def Zk  : Str := "beats_along"
noncomputable def Yk  : Str := "entries_to"
noncomputable def Sw  : Str := "NoRow.__init__"
noncomputable def Xk  : Str := "windows_of"
noncomputable def Vk  : Str := "closing_rings"
noncomputable def Uk  : Str := "ends_of"
noncomputable def Tk  : Str := "forest_from"
noncomputable def Rw  : Str := "beatplans.joining"
noncomputable def Rk  : Str := "NoRow"
noncomputable def Qk  : Str := "entry_sums"
noncomputable def Pk  : Str := "ring_bars"
noncomputable def Bj  : Str := "beatplans.plans"
noncomputable def Qw  : Str := "NoText.__init__"
noncomputable def Qs  : Str := "found"
noncomputable def Aj  : Str := "period"
noncomputable def Nk  : Str := "windows"
noncomputable def UL  : Str := "window"
noncomputable def Ps  : Str := "beats"
noncomputable def TL  : Str := "lengths"
noncomputable def SL  : Str := "nearer"
noncomputable def RL  : Str := "roots"
noncomputable def QL  : Str := "reached"
noncomputable def PL  : Str := "start"
noncomputable def AB  : Str := "ring"
noncomputable def jp  : Str := "least"
noncomputable def Um  : Str := "most"
noncomputable def OL  : Str := "apart"
noncomputable def Lk  : Str := "halved"
noncomputable def Kk  : Str := "_law_a_plan"
noncomputable def Jk  : Str := "staying"
noncomputable def bp  : Str := "_law_least"
noncomputable def Rm  : Str := "_law_most"
noncomputable def zB  : Str := "_law_thing"
noncomputable def Ik  : Str := "seek"
noncomputable def Ni  : Str := "_law_cycle"
noncomputable def NL  : Str := "_law_number"
noncomputable def Hk  : Str := "_law_window"
noncomputable def Gk  : Str := "_law_draw"
noncomputable def Fk  : Str := "_law_every"
noncomputable def Zb  : Str := "law_beatplans_k41_least_rounds_told"
noncomputable def ML  : Str := "papers"
noncomputable def Ek  : Str := "_law_plan"
noncomputable def Zo  : Str := "_law_beats"
noncomputable def Yo  : Str := "_law_s"
noncomputable def LL  : Str := "parts"
noncomputable def KL  : Str := "placed"
noncomputable def JL  : Str := "part"
noncomputable def Dk  : Str := "_law_two_ends"
noncomputable def Ck  : Str := "_law_sums_of"
noncomputable def Bk  : Str := "size_of"
noncomputable def q100  : Str := "times_or_none"
noncomputable def q101  : Str := "_law_length"
noncomputable def q102  : Str := "_law_fit"
noncomputable def q103  : Str := "_law_is_from"
noncomputable def q104  : Str := "first_void"
noncomputable def q105  : Str := "beatplans.finding"
noncomputable def q106  : Str := "times_or_none_with"
noncomputable def q107  : Str := "_law_up"
noncomputable def q108  : Str := "_law_all_windows"
noncomputable def q109  : Str := "_law_every_time"
noncomputable def q110  : Str := "refuse_great"
noncomputable def q111  : Str := "least_round"
noncomputable def q112  : Str := "beatplans.rounds"
noncomputable def q113  : Str := "_law_keeps"
noncomputable def q114  : Str := "parts_of"
noncomputable def q115  : Str := "_law_any_span"
noncomputable def q116  : Str := "_law_is_ring"
noncomputable def q117  : Str := "MOST_SIZE"
noncomputable def q118  : Str := "first_wide"
noncomputable def q119  : Str := "_law_fed"
noncomputable def q120  : Str := "_law_some_names"
noncomputable def q121  : Str := "_law_firsts"
noncomputable def q122  : Str := "_law_is_barred"
noncomputable def q123  : Str := "_law_feed"
noncomputable def q124  : Str := "_law_one"
noncomputable def q125  : Str := "_law_other"
noncomputable def q126  : Str := "_law_gap"
noncomputable def q127  : Str := "_law_far"
noncomputable def q128  : Str := "_law_low"
noncomputable def q129  : Str := "_law_many"
noncomputable def q130  : Str := "_law_digit"
noncomputable def q131  : Str := "_law_cells"
noncomputable def q132  : Str := "_law_at"
noncomputable def q133  : Str := "_law_cell"
noncomputable def q134  : Str := "_law_mixed"
noncomputable def q135  : Str := "cut"
noncomputable def q136  : Str := "_law_windows"
noncomputable def q137  : Str := "_law_ring"
noncomputable def q138  : Str := "_law_sums"
noncomputable def q139  : Str := "_law_entry"
noncomputable def q140  : Str := "_law_ends"
noncomputable def q141  : Str := "_law_high"
noncomputable def q142  : Str := "_law_word"
noncomputable def q143  : Str := "stays"
noncomputable def q144  : Str := "rings"
noncomputable def q145  : Str := "sides"
noncomputable def q146  : Str := "cases"
noncomputable def q147  : Str := "side"
noncomputable def q148  : Str := "_law_top"
noncomputable def q149  : Str := "_law_script"
noncomputable def q150  : Str := "_law_marks"
noncomputable def q151  : Str := "_law_turn"
noncomputable def q152  : Str := "_law_works"
noncomputable def q153  : Str := "_law_spans"
noncomputable def q154  : Str := "_law_k"
noncomputable def q155  : Str := "_law_bad"
noncomputable def q156  : Str := "_law_word_of"
noncomputable def q157  : Str := "_law_parted"
noncomputable def q158  : Str := "_law_judged"
noncomputable def q159  : Str := "law"
noncomputable def q160  : Str := "_law_with"
noncomputable def q161  : Str := "_law_too_great"
noncomputable def q162  : Str := "_law_book"
noncomputable def q163  : Str := "_law_node"
noncomputable def q164  : Str := "_law_cut"
noncomputable def q165  : Str := "_law_found"
noncomputable def q166  : Str := "_law_size"
noncomputable def q167  : Str := "_law_said"
noncomputable def q168  : Str := "_law_many_rounds"
noncomputable def q169  : Str := "_law_none_due"
noncomputable def q170  : Str := "_law_depth"
noncomputable def q171  : Str := "_law_end_judged"
noncomputable def q172  : Str := "_law_right"
noncomputable def q173  : Str := "_law_work"
noncomputable def q174  : Str := "e"
noncomputable def q175  : Str := "_law_others"
noncomputable def q176  : Str := "_law_words"
noncomputable def q177  : Str := "_law_cases"
noncomputable def q178  : Str := "_law_row"
noncomputable def q179  : Str := "_law_below"
noncomputable def h0  : List Da:=[]
def o0  : Obj:=sO .none h0
def o1  : Obj:=kO q0 q1 q1 182 1 0 0 11 ua .none .none .none 185
def o2  : Obj:=rO [(ia (.ref 13)),(ia (.ref 3)),(ia (.ref 3)),Aa,(ia (.str q2 164)),Aa,(ia (.ref 0))]
def o3  : Obj:=cO q3 [(.ref 24)] [(.ref 63),(.ref 24),(.type "ValueError"),(.type "Exception"),(.type "BaseException"),(.type "object")] 62 [] [(ia (.ref 47)),Aa,(ia (.str q3 234)),(ia (.str q3 242)),(ia (.builtin "ValueError.__new__")),(ia (.bool la))]
def o4  : Obj:=fO q4 q5 (xg (Z.Na 4) 0) (.str q6 187) 78
def o5  : Obj:=tO [(.ref 24)]
def o6  : Obj:=tO [(.type "ValueError")]
def o7  : Obj:=kO q0 q7 q7 261 13 0 0 69 ua .none .none .none 264
def o8  : Obj:=gO q4 q8 (xg (Z.Na 2) 0)
def o9  (P:Cb):Obj:=dO (dE P q9 196 (.str q6 187)::dE P kh 200 (.int 2 199)::dE P jh 201 (.ref 22)::dE P CB 203 (.ref 25)::dE P Bl 204 .none::[]) 3
def o10  : Obj:=sO (.type "builtin_function_or_method") [(.builtin "type.__prepare__"),(.type "type")]
def o11  : Obj:=sO (.type "super") [(.ref 82),(.ref 82),(.ref 82)]
def o12  : Obj:=sO .none [(.int 11 0),(.int 4 0),(.ref 59)]
def o13  : Obj:=tO [(.str vp 274),(.str Xg 275)]
def yn  (P:Cb):Obj:=dO (dE P q9 214 (.str q6 187)::dE P kh 218 (.int 4 217)::dE P q4 227 (.ref 41)::dE P jh 230 (.ref 42)::dE P Bl 231 .none::[]) 2
def vn  : Obj:=kO q0 q4 Xw 246 11 2 3 54 la (.ref 56) (.ref 57) (.ref 58) 251
def Bq  : Obj:=sO (.type "builtin_function_or_method") [(.builtin "object.__init_subclass__"),(.ref 24)]
def xJ  (P:Cb):List si:=dE P Bl 166 .none::dE P dM 167 .none::dE P cM 168 (.builtin "__main__.__loader__#opaque")::dE P bM 169 .none::dE P aM 170 (.ref 6)::dE P ZL 171 (.ref 4)::dE P YL 173 (.str q0 172)::dE P WL 174 .none::dE P Yh 206 (.ref 24)::dE P Al 233 (.ref 44)::dE P q3 258 (.ref 63)::dE P q7 283 (.ref 82)::[]
def kM  (P:Cb):Obj:=dO (dE P Vs 165 (.str q6 187)::xJ P) 13
def Aq  : Obj:=sO (.type "builtin_function_or_method") [(.builtin "object.__init_subclass__"),(.ref 63)]
def zq  : Obj:=kO q0 Al Al 209 4 0 0 31 ua .none .none .none 212
def rn  (P:Cb):Obj:=dO (dE P q9 266 (.str q6 187)::dE P kh 270 (.int 13 269)::dE P q4 278 (.ref 79)::dE P jh 280 (.ref 80)::dE P Bl 281 .none::[]) 2
def yq  (P:Cb):Obj:=dO (dE P q9 241 (.str q6 187)::dE P Vm 243 (.str q3 242)::dE P kh 245 (.int 9 244)::dE P q4 253 (.ref 60)::dE P jh 255 (.ref 61)::[]) 5
def xq  (P:Cb):Obj:=dO (dE P q9 196 (.str q6 187)::dE P Vm 198 (.str Yh 197)::dE P kh 200 (.int 2 199)::dE P jh 201 (.ref 22)::[]) 4
def nn  : Obj:=fO q4 q8 (xg (Z.Na 2) 0) (.str q6 187) 40
def wq  : Obj:=sO (.type "getset_descriptor") [(.str CB 202),(.ref 24),(.builtin "ExceptionGroup.__weakref__"),.none]
def vq  : Obj:=tO [(.str vp 222),(.str Xg 223),(.str Ww 224)]
def uq  : Obj:=rO [(ia (.ref 52)),(ia (.ref 3)),(ia (.ref 49)),Aa,(ia (.str q6 187)),Aa,(ia (.ref 0))]
def tq  : Obj:=rO [(ia (.ref 20)),(ia (.ref 3)),(ia (.ref 17)),Aa,(ia (.str q6 187)),Aa,(ia (.ref 0))]
def rq  : Obj:=gO q4 q5 (xg (Z.Na 4) 0)
def qq  : Obj:=sO (.type "super") [(.ref 44),(.ref 44),(.ref 44)]
def pq  : Obj:=tO [(.str Xg 254)]
def oq  : Obj:=sO (.type "super") [(.ref 63),(.ref 63),(.ref 63)]
def nq  : Obj:=sO .none [(.int 6 0),(.int 4 0),(.ref 40)]
def mq  : Obj:=tO [(.str Xg 279)]
def lq  : Obj:=rO [(ia (.ref 71)),(ia (.ref 3)),(ia (.ref 68)),Aa,(ia (.str q6 187)),Aa,(ia (.ref 0))]
def kn  : Obj:=kO q0 q4 q8 219 6 3 3 35 la (.ref 37) (.ref 38) (.ref 39) 225
def kq  : Obj:=tO [(.str vp 249),(.str Xg 250)]
def jM  : Obj:=cO Yh [(.type "ValueError")] [(.ref 24),(.type "ValueError"),(.type "Exception"),(.type "BaseException"),(.type "object")] 23 [(.ref 44),(.ref 63),(.ref 82)] [(ia (.ref 15)),Aa,(ia (.str Yh 189)),(ia (.str Yh 197)),(ia (.builtin "ValueError.__new__")),(ia (.bool la))]
def jq  (P:Cb):Obj:=dO (dE P q9 266 (.str q6 187)::dE P Vm 268 (.str q7 267)::dE P kh 270 (.int 13 269)::dE P q4 278 (.ref 79)::dE P jh 280 (.ref 80)::[]) 5
def iq  : Obj:=sO (.type "builtin_function_or_method") [(.builtin "object.__init_subclass__"),(.ref 82)]
def gq  : Obj:=kO q0 q3 q3 236 9 0 0 50 ua .none .none .none 239
def fq  : Obj:=kO q0 Yh Yh 191 2 0 0 18 ua .none .none .none 194
def jn  : Obj:=cO Al [(.ref 24)] [(.ref 44),(.ref 24),(.type "ValueError"),(.type "Exception"),(.type "BaseException"),(.type "object")] 43 [] [(ia (.ref 28)),Aa,(ia (.str Al 207)),(ia (.str Al 215)),(ia (.builtin "ValueError.__new__")),(ia (.bool la))]
def cn  : Obj:=fO q4 Xw (xg (Z.Na 3) 0) (.str q6 187) 59
def vJ  : List Da:=h0++[(.int 2 0),(.int 0 0),(.ref 20),(.int 4 0),(.int 0 0),(.ref 33),(.int 9 0),(.int 0 0),(.ref 52),(.int 13 0),(.int 0 0),(.ref 71)]
def iM  : Obj:=sO .none vJ
def dq  : Obj:=rO [(ia (.ref 33)),(ia (.ref 3)),(ia (.ref 30)),Aa,(ia (.str q6 187)),Aa,(ia (.ref 0))]
def Zm  : Obj:=cO q7 [(.ref 24)] [(.ref 82),(.ref 24),(.type "ValueError"),(.type "Exception"),(.type "BaseException"),(.type "object")] 81 [] [(ia (.ref 66)),Aa,(ia (.str q7 259)),(ia (.str q7 267)),(ia (.builtin "ValueError.__new__")),(ia (.bool la))]
def cq  : Obj:=tO [(.str Ww 228),(.str Xg 229)]
def bq  : Obj:=gO q4 Xw (xg (Z.Na 3) 0)
def aq  : Obj:=sO (.type "super") [(.ref 24),(.ref 24),(.ref 24)]
def Zp  : Obj:=sO .none [(.int 15 0),(.int 4 0),(.ref 78)]
def Ym  : Obj:=kO q0 q4 q5 271 15 2 3 73 la (.ref 75) (.ref 76) (.ref 77) 276
def Yp  : Obj:=sO (.type "builtin_function_or_method") [(.builtin "object.__init_subclass__"),(.ref 44)]
def Xm  (P:Cb):Obj:=dO (dE P q9 241 (.str q6 187)::dE P kh 245 (.int 9 244)::dE P q4 253 (.ref 60)::dE P jh 255 (.ref 61)::dE P Bl 256 .none::[]) 2
def Xp  (P:Cb):Obj:=dO (dE P q9 214 (.str q6 187)::dE P Vm 216 (.str Al 215)::dE P kh 218 (.int 4 217)::dE P q4 227 (.ref 41)::dE P jh 230 (.ref 42)::[]) 5
def Qt  : Obj:=gO zl zl (Z.Na 8)
def Pt  : Obj:=tO [(.str Wg 461),(.str rp 462),(.str Us 463),(.str VL 464)]
def Wp  : Obj:=kO q0 ul ul 352 30 3 3 130 la (.ref 132) (.ref 133) (.ref 134) 359
def Vp  : Obj:=kO q0 ql ql 468 83 3 3 196 la .none .none (.ref 198) 471
def Up  : Obj:=fO ol ol (Z.Na 15) (.str Cj 377) 166
def Ot  : Obj:=sO (.type "builtin_function_or_method") [(.builtin "object.__init_subclass__"),(.ref 101)]
def Nt  : Obj:=tO [(.str Wg 382),(.str BB 383),(.str gh 384),(.str qp 385),(.str Xg 386),(.str Vw 387),(.str Uw 388),(.str Ts 389),(.str Tw 390)]
def Mt  (P:Cb):Obj:=dO (dE P q9 291 (.str q6 187)::dE P Vm 293 (.str nl 292)::dE P kh 295 (.int 17 294)::dE P q4 304 (.ref 98)::dE P jh 307 (.ref 99)::[]) 5
def Tp  (P:Cb):Obj:=dO (dE P q9 318 (.str q6 187)::dE P kh 322 (.int 22 321)::dE P q4 330 (.ref 117)::dE P jh 332 (.ref 118)::dE P Bl 333 .none::[]) 2
def Rp  : Obj:=fO jl jl (Z.Na 20) (.str fh 427) 194
def Kt  : Obj:=tO [(.str Rs 305),(.str Xg 306)]
def Qp  : Obj:=kO q0 el el 368 35 3 3 142 la (.ref 144) (.ref 145) (.ref 146) 374
def Op  : Obj:=kO q0 Zk Zk 480 96 5 3 206 la (.ref 208) (.ref 209) (.ref 210) 493
def Jt  : Obj:=gO Yk Yk (Z.Na 18)
def Ht  : Obj:=gO q4 Sw (xg (Z.Na 6) 0)
def Et  : Obj:=gO Xk Xk (Z.Na 10)
def Dt  : Obj:=gO Vk Vk (Z.Na 22)
def Np  : Obj:=fO Uk Uk (Z.Na 13) (.str Cj 377) 154
def Ct  : Obj:=rO [(ia (.ref 90)),(ia (.ref 3)),(ia (.ref 87)),Aa,(ia (.str q6 187)),Aa,(ia (.ref 0))]
def Mp  : Obj:=kO q0 Tk Tk 444 66 2 3 182 la (.ref 184) (.ref 185) (.ref 186) 455
def wJ  (P:Cb):List si:=xJ P++[dE P nl 310 (.ref 101),dE P Rk 335 (.ref 120),dE P zl 351 (.ref 129),dE P ul 361 (.ref 136),dE P Xk 367 (.ref 141),dE P el 376 (.ref 148),dE P Uk 393 (.ref 155),dE P Qk 407 (.ref 162),dE P ol 413 (.ref 167),dE P Pk 426 (.ref 174),dE P Yk 443 (.ref 181),dE P Tk 457 (.ref 188),dE P jl 467 (.ref 195),dE P ql 473 (.ref 200),dE P Vk 479 (.ref 205),dE P Zk 495 (.ref 212)]
def gM  (P:Cb):Obj:=dO (dE P Vs 165 (.str Rw 496)::wJ P) 29
def Lp  : Obj:=fO zl zl (Z.Na 8) (.str Bj 336) 128
def Bt  : Obj:=gO jl jl (Z.Na 20)
def Jp  : Obj:=kO q0 Qk Qk 394 44 3 3 156 la (.ref 158) (.ref 159) (.ref 160) 405
def Ip  : Obj:=kO q0 q4 Qw 296 19 3 3 92 la (.ref 94) (.ref 95) (.ref 96) 302
def At  : Obj:=tO [(.str Wg 432),(.str Us 433),(.str Qs 434),(.str gh 435),(.str Xg 436),(.str Vw 437),(.str Uw 438),(.str Ts 439),(.str Tw 440)]
def zt  : Obj:=tO [(.str vp 326),(.str Rs 327)]
def yt  : Obj:=gO Uk Uk (Z.Na 13)
def xt  : Obj:=sO .none [(.int 19 0),(.int 4 0),(.ref 97)]
def vt  : Obj:=sO (.type "super") [(.ref 120),(.ref 120),(.ref 120)]
def ut  : Obj:=gO ol ol (Z.Na 15)
def Fp  : Obj:=cO nl [(.ref 24)] [(.ref 101),(.ref 24),(.type "ValueError"),(.type "Exception"),(.type "BaseException"),(.type "object")] 100 [] [(ia (.ref 85)),Aa,(ia (.str nl 284)),(ia (.str nl 292)),(ia (.builtin "ValueError.__new__")),(ia (.bool la))]
def Ep  : Obj:=fO Yk Yk (Z.Na 18) (.str fh 427) 180
def Dp  : Obj:=fO q4 Sw (xg (Z.Na 6) 0) (.str q6 187) 116
def Cp  : Obj:=fO Xk Xk (Z.Na 10) (.str Bj 336) 140
def Bp  : Obj:=fO Vk Vk (Z.Na 22) (.str fh 427) 204
def Ap  : Obj:=kO q0 Pk Pk 414 54 5 3 168 la (.ref 170) (.ref 171) (.ref 172) 424
def qt  : Obj:=kO q0 Rk Rk 313 22 0 0 107 ua .none .none .none 316
def jt  : Obj:=tO [(.str Wg 341),(.str Aj 342),(.str gh 343),(.str Xg 344),(.str Vw 345),(.str Uw 346),(.str Ts 347),(.str Tw 348)]
def zp  : Obj:=kO q0 zl zl 338 27 3 3 123 la (.ref 125) (.ref 126) (.ref 127) 349
def Zs  : Obj:=gO Qk Qk (Z.Na 14)
def Ys  : Obj:=gO q4 Qw (xg (Z.Na 5) 0)
def Xs  : Obj:=tO [(.str Nk 371),(.str gh 372),(.str UL 373)]
def Ws  : Obj:=tO [(.str Wg 483),(.str Aj 484),(.str Ps 485),(.str rp 486),(.str TL 487),(.str Qs 488),(.str Us 489),(.str gh 490),(.str qp 491),(.str SL 492)]
def yp  : Obj:=fO ul ul (Z.Na 9) (.str Bj 336) 135
def o100  : Obj:=fO ql ql (Z.Na 21) (.str fh 427) 199
def o101  : Obj:=tO [(.str Wg 447),(.str RL 448),(.str rp 449),(.str QL 450),(.str Ww 451),(.str gh 452),(.str qp 453),(.str PL 454)]
def o102  : Obj:=cO Rk [(.ref 24)] [(.ref 120),(.ref 24),(.type "ValueError"),(.type "Exception"),(.type "BaseException"),(.type "object")] 119 [] [(ia (.ref 104)),Aa,(ia (.str Rk 311)),(ia (.str Rk 319)),(ia (.builtin "ValueError.__new__")),(ia (.bool la))]
def o103  : Obj:=cO Yh [(.type "ValueError")] [(.ref 24),(.type "ValueError"),(.type "Exception"),(.type "BaseException"),(.type "object")] 23 [(.ref 44),(.ref 63),(.ref 82),(.ref 101),(.ref 120)] [(ia (.ref 15)),Aa,(ia (.str Yh 189)),(ia (.str Yh 197)),(ia (.builtin "ValueError.__new__")),(ia (.bool la))]
def o104  : Obj:=tO [(.str Wg 355),(.str Aj 356),(.str gh 357),(.str Ts 358)]
def o105  (P:Cb):Obj:=dO (dE P q9 291 (.str q6 187)::dE P kh 295 (.int 17 294)::dE P q4 304 (.ref 98)::dE P jh 307 (.ref 99)::dE P Bl 308 .none::[]) 2
def o106  : Obj:=fO el el (Z.Na 11) (.str Bj 336) 147
def o107  : Obj:=fO Zk Zk (Z.Na 23) (.str fh 427) 211
def o108  : Obj:=kO q0 Yk Yk 429 58 2 3 175 la (.ref 177) (.ref 178) (.ref 179) 441
def o109  : Obj:=kO q0 q4 Sw 323 24 2 3 111 la (.ref 113) (.ref 114) (.ref 115) 328
def o110  : Obj:=kO q0 Xk Xk 362 33 2 3 137 la .none .none (.ref 139) 365
def o111  : Obj:=kO q0 Vk Vk 474 92 3 3 201 la .none .none (.ref 203) 477
def o112  : Obj:=gO Pk Pk (Z.Na 16)
def o113  : Obj:=sO .none [(.int 24 0),(.int 4 0),(.ref 116)]
def o114  : Obj:=fO Tk Tk (Z.Na 19) (.str fh 427) 187
def h119  : List Da:=vJ++[(.int 17 0),(.int 0 0),(.ref 90),(.int 22 0),(.int 0 0),(.ref 109),(.int 27 0),(.int 0 0),(.ref 128),(.int 30 0),(.int 0 0),(.ref 135),(.int 33 0),(.int 0 0),(.ref 140),(.int 35 0),(.int 0 0),(.ref 147),(.int 38 0),(.int 0 0),(.ref 154),(.int 44 0),(.int 0 0),(.ref 161),(.int 51 0),(.int 0 0),(.ref 166),(.int 54 0),(.int 0 0),(.ref 173),(.int 58 0),(.int 0 0),(.ref 180),(.int 66 0),(.int 0 0),(.ref 187),(.int 77 0),(.int 0 0),(.ref 194),(.int 83 0),(.int 0 0),(.ref 199),(.int 92 0),(.int 0 0),(.ref 204),(.int 96 0),(.int 0 0),(.ref 211)]
def o115  : Obj:=sO .none h119
def o116  : Obj:=kO q0 jl jl 458 77 3 3 189 la (.ref 191) (.ref 192) (.ref 193) 465
def o117  : Obj:=fO Qk Qk (Z.Na 14) (.str Cj 377) 161
def o118  : Obj:=fO q4 Qw (xg (Z.Na 5) 0) (.str q6 187) 97
def o119  : Obj:=gO el el (Z.Na 11)
def o120  : Obj:=gO Zk Zk (Z.Na 23)
def o121  : Obj:=tO [(.str Wg 417),(.str Aj 418),(.str Ps 419),(.str Nk 420),(.str AB 421),(.str jp 422),(.str Um 423)]
def o122  (P:Cb):Obj:=dO (dE P q9 318 (.str q6 187)::dE P Vm 320 (.str Rk 319)::dE P kh 322 (.int 22 321)::dE P q4 330 (.ref 117)::dE P jh 332 (.ref 118)::[]) 5
def o123  : Obj:=kO q0 Uk Uk 379 38 2 3 149 la (.ref 151) (.ref 152) (.ref 153) 391
def o124  : Obj:=kO q0 nl nl 286 17 0 0 88 ua .none .none .none 289
def o125  : Obj:=gO Tk Tk (Z.Na 19)
def o126  : Obj:=sO (.type "builtin_function_or_method") [(.builtin "object.__init_subclass__"),(.ref 120)]
def o127  : Obj:=gO ul ul (Z.Na 9)
def o128  : Obj:=gO ql ql (Z.Na 21)
def o129  : Obj:=kO q0 ol ol 408 51 5 3 163 la .none .none (.ref 165) 411
def o130  : Obj:=sO (.type "super") [(.ref 101),(.ref 101),(.ref 101)]
def o131  : Obj:=tO [(.str Rs 331)]
def o132  : Obj:=fO Pk Pk (Z.Na 16) (.str Cj 377) 173
def o133  : Obj:=rO [(ia (.ref 109)),(ia (.ref 3)),(ia (.ref 106)),Aa,(ia (.str q6 187)),Aa,(ia (.ref 0))]
def o134  : Obj:=tO [(.str Ps 397),(.str Nk 398),(.str BB 399),(.str OL 400),(.str gh 401),(.str qp 402),(.str jp 403),(.str Um 404)]
def o135  : Obj:=tO [(.str vp 299),(.str Rs 300),(.str Xg 301)]
def o136  : Obj:=gO Lk Lk (Z.Na 33)
def o137  : Obj:=gO Kk Kk (Z.Na 45)
def o138  : Obj:=kO q0 Jk Jk 513 114 2 3 220 la .none .none (.ref 222) 516
def o139  : Obj:=tO [(.str bp 751),(.str Rm 752),(.str zB 753)]
def o140  : Obj:=tO [(.str Nk 537),(.str gh 538),(.str jp 539),(.str Um 540)]
def o141  : Obj:=kO q0 Ik Ik 567 140 6 3 258 la (.ref 260) (.ref 261) (.ref 262) 584
def o142  : Obj:=tO [(.str Ni 786),(.str NL 787)]
def o143  : Obj:=kO q0 Hk Hk 674 234 3 3 322 la (.ref 324) (.ref 325) (.ref 326) 686
def o144  : Obj:=gO Gk Gk (Z.Na 41)
def o145  : Obj:=fO Fk Fk (Z.Na 51) (.str Zb 615) 358
def o146  : Obj:=tO [(.str Wg 606),(.str Um 607),(.str ML 608),(.str Aj 609),(.str Xg 610),(.str Qs 611)]
def o147  : Obj:=tO [(.str Ek 714),(.str Ni 715),(.str Zo 716),(.str Yo 717)]
def o148  : Obj:=tO [(.str Wg 501),(.str LL 502),(.str KL 503),(.str Us 504),(.str JL 505)]
def o149  : Obj:=kO q0 Dk Dk 757 270 3 3 372 la .none .none (.ref 374) 760
def o150  : Obj:=kO q0 Ck Ck 769 287 3 3 382 la (.ref 384) (.ref 385) (.ref 386) 780
def o151  : Obj:=gO Bk Bk (Z.Na 29)
def o152  : Obj:=kO q0 q100 q100 593 169 2 3 270 la (.ref 272) (.ref 273) (.ref 274) 598
def o153  : Obj:=kO q0 q101 q101 695 240 4 3 334 la (.ref 336) (.ref 337) (.ref 338) 708
def o154  : Obj:=gO q102 q102 (Z.Na 43)
def o155  : Obj:=fO q103 q103 (Z.Na 53) (.str Zb 615) 370
def o156  : Obj:=fO q104 q104 (Z.Na 31) (.str q105 509) 242
def o157  : Obj:=gO q106 q106 (Z.Na 35)
def o158  : Obj:=fO q107 q107 (Z.Na 57) (.str Zb 615) 394
def o159  : Obj:=gO q108 q108 (Z.Na 47)
def o160  : Obj:=kO q0 q109 q109 742 266 2 3 360 la .none .none (.ref 362) 745
def o161  : Obj:=kO q0 q110 q110 525 122 3 3 230 la (.ref 232) (.ref 233) (.ref 234) 531
def o162  : Obj:=fO q111 q111 (Z.Na 38) (.str q112 601) 282
def o163  : Obj:=fO q113 q113 (Z.Na 49) (.str Zb 615) 346
def o164  : Obj:=fO q114 q114 (Z.Na 25) (.str Rw 496) 218
def o165  : Obj:=kO q0 q115 q115 657 211 4 3 310 la (.ref 312) (.ref 313) (.ref 314) 665
def o166  : Obj:=gO q116 q116 (Z.Na 55)
def g172  (P:Cb):List si:=wJ P++[dE P q114 508 (.ref 219),dE P q117 512 (.int 300 511),dE P Jk 518 (.ref 224),dE P Bk 524 (.ref 229),dE P q110 533 (.ref 236),dE P q104 543 (.ref 243),dE P q118 555 (.ref 250),dE P Lk 566 (.ref 257),dE P Ik 586 (.ref 264),dE P q106 592 (.ref 269),dE P q100 600 (.ref 276),dE P q111 614 (.ref 283),dE P q119 623 (.ref 290),dE P Gk 636 (.ref 297),dE P q120 642 (.ref 302),dE P q102 656 (.ref 309),dE P q115 667 (.ref 316),dE P Kk 673 (.ref 321),dE P Hk 688 (.ref 328),dE P q108 694 (.ref 333),dE P q101 710 (.ref 340),dE P q113 720 (.ref 347),dE P q121 735 (.ref 354),dE P Fk 741 (.ref 359),dE P q109 747 (.ref 364),dE P q103 756 (.ref 371),dE P Dk 762 (.ref 376),dE P q116 768 (.ref 381),dE P Ck 782 (.ref 388),dE P q107 790 (.ref 395),dE P q122 802 (.ref 402)]
def o167  (P:Cb):Obj:=dO (dE P Vs 165 (.str Zb 615)::g172 P) 60
def o168  : Obj:=fO Lk Lk (Z.Na 33) (.str q105 509) 256
def o169  : Obj:=fO Kk Kk (Z.Na 45) (.str Zb 615) 320
def o170  : Obj:=kO q0 q119 q119 617 181 1 3 284 la (.ref 286) (.ref 287) (.ref 288) 621
def o171  : Obj:=kO q0 q121 q121 721 249 1 3 348 la (.ref 350) (.ref 351) (.ref 352) 733
def o172  : Obj:=kO q0 q122 q122 791 299 4 3 396 la (.ref 398) (.ref 399) (.ref 400) 800
def o173  : Obj:=tO [(.str q123 646),(.str Ni 647),(.str Zo 648),(.str q124 649),(.str q125 650),(.str q126 651),(.str q127 652),(.str q128 653)]
def o174  : Obj:=gO q103 q103 (Z.Na 53)
def o175  : Obj:=gO q104 q104 (Z.Na 31)
def o176  : Obj:=gO q107 q107 (Z.Na 57)
def o177  : Obj:=fO Gk Gk (Z.Na 41) (.str Zb 615) 296
def o178  : Obj:=gO q111 q111 (Z.Na 38)
def o179  : Obj:=gO q113 q113 (Z.Na 49)
def o180  : Obj:=gO q114 q114 (Z.Na 25)
def o181  : Obj:=kO q0 q118 q118 544 130 2 3 244 la (.ref 246) (.ref 247) (.ref 248) 553
def o182  : Obj:=tO [(.str q123 627),(.str q129 628),(.str q130 629),(.str q131 630),(.str q132 631),(.str q133 632),(.str q134 633)]
def o183  : Obj:=gO Fk Fk (Z.Na 51)
def o184  : Obj:=fO Bk Bk (Z.Na 29) (.str q105 509) 228
def o185  : Obj:=fO q102 q102 (Z.Na 43) (.str Zb 615) 308
def o186  : Obj:=fO q106 q106 (Z.Na 35) (.str q105 509) 268
def o187  : Obj:=fO q108 q108 (Z.Na 47) (.str Zb 615) 332
def o188  : Obj:=kO q0 q120 q120 637 199 2 3 298 la .none .none (.ref 300) 640
def o189  : Obj:=fO q116 q116 (Z.Na 55) (.str Zb 615) 380
def o190  : Obj:=tO [(.str Nk 559),(.str gh 560),(.str jp 561),(.str Um 562),(.str q135 563)]
def o191  : Obj:=kO q0 Lk Lk 556 136 2 3 251 la (.ref 253) (.ref 254) (.ref 255) 564
def o192  : Obj:=tO [(.str Zo 772),(.str q136 773),(.str q137 774),(.str q138 775),(.str q139 776),(.str q140 777),(.str q128 778),(.str q141 779)]
def o193  : Obj:=kO q0 Kk Kk 668 216 4 3 317 la .none .none (.ref 319) 671
def o194  : Obj:=gO q119 q119 (Z.Na 40)
def o195  : Obj:=gO q121 q121 (Z.Na 50)
def o196  : Obj:=fO Jk Jk (Z.Na 28) (.str q105 509) 223
def o197  : Obj:=tO [(.str Wg 596),(.str Aj 597)]
def o198  : Obj:=gO q122 q122 (Z.Na 58)
def o199  : Obj:=tO [(.str Ek 698),(.str Ni 699),(.str Zo 700),(.str Yo 701),(.str q142 702),(.str q124 703),(.str q125 704),(.str q128 705),(.str q141 706),(.str q126 707)]
def o200  : Obj:=fO Ik Ik (Z.Na 34) (.str q105 509) 263
def o201  : Obj:=fO Hk Hk (Z.Na 46) (.str Zb 615) 327
def o202  : Obj:=kO q0 Gk Gk 624 183 2 3 291 la (.ref 293) (.ref 294) (.ref 295) 634
def o203  : Obj:=tO [(.str Wg 528),(.str Aj 529),(.str q143 530)]
def o204  : Obj:=tO [(.str q123 660),(.str Ni 661),(.str q124 662),(.str q125 663),(.str q128 664)]
def o205  : Obj:=fO Dk Dk (Z.Na 54) (.str Zb 615) 375
def o206  : Obj:=gO q118 q118 (Z.Na 32)
def o207  : Obj:=tO [(.str Wg 570),(.str Aj 571),(.str Ps 572),(.str rp 573),(.str q144 574),(.str Nk 575),(.str AB 576),(.str gh 577),(.str q135 578),(.str q145 579),(.str q146 580),(.str q147 581),(.str Xg 582),(.str Qs 583)]
def o208  : Obj:=fO Ck Ck (Z.Na 56) (.str Zb 615) 387
def o209  : Obj:=tO [(.str Ek 677),(.str Ni 678),(.str Yo 679),(.str q142 680),(.str q124 681),(.str q125 682),(.str q128 683),(.str q141 684),(.str q148 685)]
def o210  : Obj:=kO q0 Bk Bk 519 116 3 3 225 la .none .none (.ref 227) 522
def o211  : Obj:=fO q100 q100 (Z.Na 36) (.str q105 509) 275
def o212  : Obj:=fO q101 q101 (Z.Na 48) (.str Zb 615) 339
def o213  : Obj:=kO q0 q102 q102 643 204 5 3 303 la (.ref 305) (.ref 306) (.ref 307) 654
def o214  : Obj:=kO q0 q106 q106 587 155 4 3 265 la .none .none (.ref 267) 590
def o215  : Obj:=kO q0 q108 q108 689 238 2 3 329 la .none .none (.ref 331) 692
def o216  : Obj:=gO q120 q120 (Z.Na 42)
def o217  : Obj:=fO q109 q109 (Z.Na 52) (.str Zb 615) 363
def o218  : Obj:=fO q110 q110 (Z.Na 30) (.str q105 509) 235
def o219  : Obj:=fO q115 q115 (Z.Na 44) (.str Zb 615) 315
def o220  : Obj:=kO q0 q116 q116 763 280 3 3 377 la .none .none (.ref 379) 766
def h227  : List Da:=h119++[(.int 103 0),(.int 0 0),(.ref 218),(.int 114 0),(.int 0 0),(.ref 223),(.int 116 0),(.int 0 0),(.ref 228),(.int 122 0),(.int 0 0),(.ref 235),(.int 125 0),(.int 0 0),(.ref 242),(.int 130 0),(.int 0 0),(.ref 249),(.int 136 0),(.int 0 0),(.ref 256),(.int 140 0),(.int 0 0),(.ref 263),(.int 155 0),(.int 0 0),(.ref 268),(.int 169 0),(.int 0 0),(.ref 275),(.int 172 0),(.int 0 0),(.ref 282),(.int 181 0),(.int 0 0),(.ref 289),(.int 183 0),(.int 0 0),(.ref 296),(.int 199 0),(.int 0 0),(.ref 301),(.int 204 0),(.int 0 0),(.ref 308),(.int 211 0),(.int 0 0),(.ref 315),(.int 216 0),(.int 0 0),(.ref 320),(.int 234 0),(.int 0 0),(.ref 327),(.int 238 0),(.int 0 0),(.ref 332),(.int 240 0),(.int 0 0),(.ref 339),(.int 244 0),(.int 0 0),(.ref 346),(.int 249 0),(.int 0 0),(.ref 353),(.int 257 0),(.int 0 0),(.ref 358),(.int 266 0),(.int 0 0),(.ref 363),(.int 268 0),(.int 0 0),(.ref 370),(.int 270 0),(.int 0 0),(.ref 375),(.int 280 0),(.int 0 0),(.ref 380),(.int 287 0),(.int 0 0),(.ref 387),(.int 297 0),(.int 0 0),(.ref 394),(.int 299 0),(.int 0 0),(.ref 401)]
def o221  : Obj:=sO .none h227
def o222  : Obj:=gO Ck Ck (Z.Na 56)
def o223  : Obj:=fO q119 q119 (Z.Na 40) (.str Zb 615) 289
def o224  : Obj:=fO q121 q121 (Z.Na 50) (.str Zb 615) 353
def o225  : Obj:=gO q100 q100 (Z.Na 36)
def o226  : Obj:=fO q122 q122 (Z.Na 58) (.str Zb 615) 401
def o227  : Obj:=gO q101 q101 (Z.Na 48)
def o228  : Obj:=kO q0 q103 q103 748 268 3 3 365 la (.ref 367) (.ref 368) (.ref 369) 754
def o229  : Obj:=kO q0 q104 q104 534 125 1 3 237 la (.ref 239) (.ref 240) (.ref 241) 541
def o230  : Obj:=kO q0 q107 q107 783 297 2 3 389 la (.ref 391) (.ref 392) (.ref 393) 788
def o231  : Obj:=gO q109 q109 (Z.Na 52)
def o232  : Obj:=gO q110 q110 (Z.Na 30)
def o233  : Obj:=kO q0 q111 q111 603 172 2 3 277 la (.ref 279) (.ref 280) (.ref 281) 612
def o234  : Obj:=kO q0 q113 q113 711 244 3 3 341 la (.ref 343) (.ref 344) (.ref 345) 718
def o235  : Obj:=kO q0 q114 q114 498 103 1 3 213 la (.ref 215) (.ref 216) (.ref 217) 506
def o236  : Obj:=gO q115 q115 (Z.Na 44)
def o237  : Obj:=fO q118 q118 (Z.Na 32) (.str q105 509) 249
def o238  : Obj:=gO Ik Ik (Z.Na 34)
def o239  : Obj:=gO Hk Hk (Z.Na 46)
def o240  : Obj:=kO q0 Fk Fk 736 257 2 3 355 la .none .none (.ref 357) 739
def o241  : Obj:=gO Dk Dk (Z.Na 54)
def o242  : Obj:=tO [(.str rp 547),(.str Nk 548),(.str gh 549),(.str qp 550),(.str jp 551),(.str Um 552)]
def o243  : Obj:=tO [(.str Ni 794),(.str Zo 795),(.str q136 796),(.str q137 797),(.str bp 798),(.str Rm 799)]
def o244  : Obj:=fO q120 q120 (Z.Na 42) (.str Zb 615) 301
def o245  : Obj:=tO [(.str q149 620)]
def o246  : Obj:=tO [(.str Ek 724),(.str q150 725),(.str q151 726),(.str q142 727),(.str q124 728),(.str q125 729),(.str q128 730),(.str q141 731),(.str bp 732)]
def o247  : Obj:=gO Jk Jk (Z.Na 28)
def o248  : Obj:=tO [(.str q123 872),(.str q152 873),(.str q153 874),(.str q154 875),(.str q155 876)]
def o249  : Obj:=kO q0 q156 q156 813 304 2 3 410 la (.ref 412) (.ref 413) (.ref 414) 819
def o250  : Obj:=fO q157 q157 (Z.Na 67) (.str Zb 615) 462
def o251  : Obj:=fO q158 q158 (Z.Na 61) (.str Zb 615) 422
def o252  : Obj:=fO q159 q159 (Z.Na 71) (.str Zb 615) 486
def o253  : Obj:=gO q160 q160 (Z.Na 59)
def o254  : Obj:=fO q161 q161 (Z.Na 65) (.str Zb 615) 450
def o255  : Obj:=tO [(.str q162 825),(.str q163 826),(.str q136 827),(.str q132 828),(.str q142 829),(.str Yo 830),(.str q164 831),(.str bp 832),(.str Rm 833),(.str q165 834)]
def o256  : Obj:=gO q166 q166 (Z.Na 63)
def o257  : Obj:=gO q167 q167 (Z.Na 69)
def o258  : Obj:=kO q0 q168 q168 860 337 1 3 438 la (.ref 440) (.ref 441) (.ref 442) 866
def g266  (P:Cb):List si:=g172 P++[dE P q160 812 (.ref 409),dE P q156 821 (.ref 416),dE P q158 837 (.ref 423),dE P q169 848 (.ref 430),dE P q166 859 (.ref 437),dE P q168 868 (.ref 444),dE P q161 879 (.ref 451),dE P q170 890 (.ref 458),dE P q157 896 (.ref 463),dE P q171 906 (.ref 470),dE P q167 917 (.ref 477),dE P q172 923 (.ref 482),dE P q159 929 (.ref 487)]
def o259  (P:Cb):Obj:=dO (dE P Vs 165 (.str Zb 615)::g266 P) 73
def o260  : Obj:=gO q161 q161 (Z.Na 65)
def o261  : Obj:=kO q0 q172 q172 918 377 3 3 478 la .none .none (.ref 480) 921
def o262  : Obj:=tO [(.str Ek 852),(.str Ni 853),(.str q150 854),(.str q165 855),(.str q173 856)]
def o263  : Obj:=kO q0 q170 q170 880 349 1 3 452 la (.ref 454) (.ref 455) (.ref 456) 888
def o264  : Obj:=fO q160 q160 (Z.Na 59) (.str Zb 615) 408
def o265  : Obj:=tO [(.str Ek 910),(.str Rm 911),(.str q165 912),(.str q174 913),(.str q175 914)]
def o266  : Obj:=gO q158 q158 (Z.Na 61)
def o267  : Obj:=gO q159 q159 (Z.Na 71)
def o268  : Obj:=tO [(.str q136 806),(.str Yo 807),(.str bp 808),(.str Rm 809)]
def o269  : Obj:=kO q0 q171 q171 897 364 4 3 464 la (.ref 466) (.ref 467) (.ref 468) 904
def o270  : Obj:=fO q166 q166 (Z.Na 63) (.str Zb 615) 436
def o271  : Obj:=gO q157 q157 (Z.Na 67)
def o272  : Obj:=kO q0 q169 q169 838 327 3 3 424 la (.ref 426) (.ref 427) (.ref 428) 846
def o273  : Obj:=fO q167 q167 (Z.Na 69) (.str Zb 615) 476
def o274  : Obj:=fO q156 q156 (Z.Na 60) (.str Zb 615) 415
def o275  : Obj:=gO q172 q172 (Z.Na 70)
def o276  : Obj:=gO q170 q170 (Z.Na 66)
def o277  : Obj:=kO q0 q160 q160 803 302 4 3 403 la (.ref 405) (.ref 406) (.ref 407) 810
def o278  : Obj:=tO [(.str q123 863),(.str q152 864),(.str Rm 865)]
def o279  : Obj:=gO q171 q171 (Z.Na 68)
def o280  : Obj:=kO q0 q166 q166 849 331 2 3 431 la (.ref 433) (.ref 434) (.ref 435) 857
def o281  : Obj:=gO q169 q169 (Z.Na 62)
def o282  : Obj:=tO [(.str q176 816),(.str q163 817),(.str q129 818)]
def o283  : Obj:=kO q0 q167 q167 907 368 2 3 471 la (.ref 473) (.ref 474) (.ref 475) 915
def o284  : Obj:=fO q168 q168 (Z.Na 64) (.str Zb 615) 443
def h293  : List Da:=h227++[(.int 302 0),(.int 0 0),(.ref 408),(.int 304 0),(.int 0 0),(.ref 415),(.int 309 0),(.int 0 0),(.ref 422),(.int 327 0),(.int 0 0),(.ref 429),(.int 331 0),(.int 0 0),(.ref 436),(.int 337 0),(.int 0 0),(.ref 443),(.int 342 0),(.int 0 0),(.ref 450),(.int 349 0),(.int 0 0),(.ref 457),(.int 359 0),(.int 0 0),(.ref 462),(.int 364 0),(.int 0 0),(.ref 469),(.int 368 0),(.int 0 0),(.ref 476),(.int 377 0),(.int 0 0),(.ref 481),(.int 391 0),(.int 0 0),(.ref 486)]
def o285  : Obj:=sO .none h293
def o286  : Obj:=kO q0 q161 q161 869 342 1 3 445 la (.ref 447) (.ref 448) (.ref 449) 877
def o287  : Obj:=fO q172 q172 (Z.Na 70) (.str Zb 615) 481
def o288  : Obj:=tO [(.str q162 900),(.str q163 901),(.str q136 902),(.str q132 903)]
def o289  : Obj:=fO q170 q170 (Z.Na 66) (.str Zb 615) 457
def o290  : Obj:=tO [(.str Ek 841),(.str Ni 842),(.str zB 843),(.str q162 844),(.str q165 845)]
def o291  : Obj:=gO q168 q168 (Z.Na 64)
def o292  : Obj:=tO [(.str q177 883),(.str q178 884),(.str q129 885),(.str q179 886),(.str q163 887)]
def o293  : Obj:=kO q0 q158 q158 822 309 3 3 417 la (.ref 419) (.ref 420) (.ref 421) 835
def o294  : Obj:=kO q0 q159 q159 924 391 1 3 483 la .none .none (.ref 485) 927
def o295  : Obj:=fO q171 q171 (Z.Na 68) (.str Zb 615) 469
def o296  : Obj:=kO q0 q157 q157 891 359 4 3 459 la .none .none (.ref 461) 894
def o297  : Obj:=fO q169 q169 (Z.Na 62) (.str Zb 615) 429
def o298  : Obj:=gO q156 q156 (Z.Na 60)
def Ha  (P:Cb):Za:=⟨⟨Gm P::Yj P::Hm P::MJ P::qm P::rm P::um P::vm P::wm P::zm P::Bm P::tE::o0::o1::o2::[]⟩,{}⟩
def t0  (P:Cb):xi:=(bN (Gm P) (bN (Yj P) (bN (MJ P) (bL (vm P)) (bL tE)) (bN (rm P) (bL (zm P)) (bL o1))) (bN (Hm P) (bN (qm P) (bL (wm P)) (bL o0)) (bN (um P) (bL (Bm P)) (bL o2))))
def t1  (P:Cb):xi:=(bN (Gm P) (bN (Yj P) (bN (kM P) (bN (vm P) (bN o6 (bN tE (bL o3) bE) (bN o5 (bL o4) bE)) (bN (o9 P) (bN o8 (bL o7) bE) (bL nO))) (bN tE (bN nO (bN tE (bL o10) bE) (bN o12 (bL o11) bE)) (bN Bq (bN (yn P) (bL o13) bE) (bL vn)))) (bN (rm P) (bN (zm P) (bN (xq P) (bN zq (bL Aq) bE) (bN (yq P) (bL (rn P)) bE)) (bN wq (bN nn (bL tE) bE) (bL tE))) (bN o1 (bN tq (bN vq (bL tE) bE) (bL uq)) (bN o10 (bN qq (bL rq) bE) (bL pq))))) (bN (Hm P) (bN (qm P) (bN (wm P) (bN o10 (bN nq (bL oq) bE) (bN o10 (bL mq) bE)) (bN jM (bN kn (bL lq) bE) (bL kq))) (bN iM (bN fq (bN nO (bL (jq P)) bE) (bN gq (bL iq) bE)) (bN o5 (bN jn (bL tE) bE) (bL cn)))) (bN (um P) (bN (Bm P) (bN tE (bN dq (bL o5) bE) (bN tE (bL Zm) bE)) (bN aq (bN cq (bL nO) bE) (bL bq))) (bN o2 (bN tE (bN tE (bL Zp) bE) (bL tE)) (bN (Xp P) (bN Yp (bL Ym) bE) (bL (Xm P)))))))
def t2  (P:Cb):xi:=(bN (Gm P) (bN (Yj P) (bN (gM P) (bN (vm P) (bN o6 (bN tE (bN o3 (bL Qt) (bL Pt)) (bN tE (bL tE) bE)) (bN o5 (bN o4 (bL nO) (bL nO)) (bN tE (bL tE) bE))) (bN (o9 P) (bN o8 (bN o7 (bL Wp) (bL Vp)) (bN Ot (bL Up) bE)) (bN nO (bN (Mt P) (bL Nt) bE) (bN (Tp P) (bL nO) bE)))) (bN tE (bN nO (bN tE (bN o10 (bL nO) (bL Rp)) (bN Kt (bL tE) bE)) (bN o12 (bN o11 (bL Qp) (bL Op)) (bN Ht (bL Jt) bE))) (bN Bq (bN (yn P) (bN o13 (bL Et) (bL Dt)) (bN tE (bL tE) bE)) (bN vn (bN Ct (bL Np) bE) (bN tE (bL Mp) bE))))) (bN (rm P) (bN (zm P) (bN (xq P) (bN zq (bN Aq (bL Lp) (bL Bt)) (bN Ip (bL Jp) bE)) (bN (yq P) (bN (rn P) (bL tE) (bL tE)) (bN zt (bL At) bE))) (bN wq (bN nn (bN tE (bL tE) (bL tE)) (bN o10 (bL nO) bE)) (bN tE (bN xt (bL yt) bE) (bN vt (bL tE) bE)))) (bN o1 (bN tq (bN vq (bN tE (bL tE) (bL nO)) (bN Fp (bL ut) bE)) (bN uq (bN o5 (bL tE) bE) (bN Dp (bL Ep) bE))) (bN o10 (bN qq (bN rq (bL Cp) (bL Bp)) (bN qt (bL Ap) bE)) (bN pq (bN nO (bL nO) bE) (bN jt (bL tE) bE)))))) (bN (Hm P) (bN (qm P) (bN (wm P) (bN o10 (bN nq (bN oq (bL zp) (bL tE)) (bN Ys (bL Zs) bE)) (bN o10 (bN mq (bL Xs) (bL Ws)) (bN nO (bL nO) bE))) (bN o103 (bN kn (bN lq (bL yp) (bL o100)) (bN o5 (bL tE) bE)) (bN kq (bN tE (bL tE) bE) (bN o102 (bL o101) bE)))) (bN o115 (bN fq (bN nO (bN (jq P) (bL o104) (bL tE)) (bN (o105 P) (bL nO) bE)) (bN gq (bN iq (bL o106) (bL o107)) (bN o109 (bL o108) bE))) (bN o5 (bN jn (bN tE (bL o110) (bL o111)) (bN o113 (bL o112) bE)) (bN cn (bN tE (bL tE) bE) (bN nO (bL o114) bE))))) (bN (um P) (bN (Bm P) (bN tE (bN dq (bN o5 (bL tE) (bL o116)) (bN o118 (bL o117) bE)) (bN tE (bN Zm (bL o119) (bL o120)) (bN tE (bL tE) bE))) (bN aq (bN cq (bN nO (bL nO) (bL nO)) (bN (o122 P) (bL o121) bE)) (bN bq (bN o124 (bL o123) bE) (bN o126 (bL o125) bE)))) (bN o2 (bN tE (bN tE (bN Zp (bL o127) (bL o128)) (bN o130 (bL o129) bE)) (bN tE (bN o10 (bL nO) bE) (bN o131 (bL tE) bE))) (bN (Xp P) (bN Yp (bN Ym (bL tE) (bL tE)) (bN o133 (bL o132) bE)) (bN (Xm P) (bN o135 (bL o134) bE) (bN tE (bL nO) bE)))))))
def t3  (P:Cb):xi:=(bN (Gm P) (bN (Yj P) (bN (o167 P) (bN (vm P) (bN o6 (bN tE (bN o3 (bN Qt (bL o136) (bL nO)) (bN Pt (bL o137) bE)) (bN tE (bN tE (bL tE) bE) (bN o138 (bL tE) bE))) (bN o5 (bN o4 (bN nO (bL nO) (bL tE)) (bN nO (bL nO) bE)) (bN tE (bN tE (bL tE) bE) (bN o140 (bL o139) bE)))) (bN (o9 P) (bN o8 (bN o7 (bN Wp (bL o141) (bL o142)) (bN Vp (bL o143) bE)) (bN Ot (bN Up (bL o144) bE) (bN nO (bL o145) bE))) (bN nO (bN (Mt P) (bN Nt (bL o146) bE) (bN o148 (bL o147) bE)) (bN (Tp P) (bN nO (bL nO) bE) (bN tE (bL o149) bE))))) (bN tE (bN nO (bN tE (bN o10 (bN nO (bL nO) (bL o150)) (bN Rp (bL nO) bE)) (bN Kt (bN tE (bL tE) bE) (bN o151 (bL tE) bE))) (bN o12 (bN o11 (bN Qp (bL o152) bE) (bN Op (bL o153) bE)) (bN Ht (bN Jt (bL o154) bE) (bN o156 (bL o155) bE)))) (bN Bq (bN (yn P) (bN o13 (bN Et (bL o157) (bL o158)) (bN Dt (bL o159) bE)) (bN tE (bN tE (bL nO) bE) (bN o161 (bL o160) bE))) (bN vn (bN Ct (bN Np (bL o162) bE) (bN o164 (bL o163) bE)) (bN tE (bN Mp (bL o165) bE) (bN tE (bL o166) bE)))))) (bN (rm P) (bN (zm P) (bN (xq P) (bN zq (bN Aq (bN Lp (bL o168) (bL tE)) (bN Bt (bL o169) bE)) (bN Ip (bN Jp (bL o170) bE) (bN tE (bL o171) bE))) (bN (yq P) (bN (rn P) (bN tE (bL tE) (bL o172)) (bN tE (bL tE) bE)) (bN zt (bN At (bL o173) bE) (bN o175 (bL o174) bE)))) (bN wq (bN nn (bN tE (bN tE (bL tE) (bL o176)) (bN tE (bL tE) bE)) (bN o10 (bN nO (bL o177) bE) (bN tE (bL nO) bE))) (bN tE (bN xt (bN yt (bL o178) bE) (bN o180 (bL o179) bE)) (bN vt (bN tE (bL tE) bE) (bN o181 (bL tE) bE))))) (bN o1 (bN tq (bN vq (bN tE (bN tE (bL tE) (bL tE)) (bN nO (bL tE) bE)) (bN Fp (bN ut (bL o182) bE) (bN o184 (bL o183) bE))) (bN uq (bN o5 (bN tE (bL tE) bE) (bN tE (bL tE) bE)) (bN Dp (bN Ep (bL o185) bE) (bN nO (bL nO) bE)))) (bN o10 (bN qq (bN rq (bN Cp (bL o186) (bL nO)) (bN Bp (bL o187) bE)) (bN qt (bN Ap (bL o188) bE) (bN tE (bL tE) bE))) (bN pq (bN nO (bN nO (bL nO) bE) (bN nO (bL nO) bE)) (bN jt (bN tE (bL tE) bE) (bN o190 (bL o189) bE))))))) (bN (Hm P) (bN (qm P) (bN (wm P) (bN o10 (bN nq (bN oq (bN zp (bL o191) (bL o192)) (bN tE (bL o193) bE)) (bN Ys (bN Zs (bL o194) bE) (bN o196 (bL o195) bE))) (bN o10 (bN mq (bN Xs (bL o197) (bL o198)) (bN Ws (bL o199) bE)) (bN nO (bN nO (bL nO) bE) (bN tE (bL tE) bE)))) (bN o103 (bN kn (bN lq (bN yp (bL o200) (bL tE)) (bN o100 (bL o201) bE)) (bN o5 (bN tE (bL o202) bE) (bN o203 (bL tE) bE))) (bN kq (bN tE (bN tE (bL tE) bE) (bN tE (bL tE) bE)) (bN o102 (bN o101 (bL o204) bE) (bN o206 (bL o205) bE))))) (bN o221 (bN fq (bN nO (bN (jq P) (bN o104 (bL o207) (bL o208)) (bN tE (bL o209) bE)) (bN (o105 P) (bN nO (bL nO) bE) (bN o210 (bL nO) bE))) (bN gq (bN iq (bN o106 (bL o211) bE) (bN o107 (bL o212) bE)) (bN o109 (bN o108 (bL o213) bE) (bN tE (bL tE) bE)))) (bN o5 (bN jn (bN tE (bN o110 (bL o214) (bL tE)) (bN o111 (bL o215) bE)) (bN o113 (bN o112 (bL o216) bE) (bN o218 (bL o217) bE))) (bN cn (bN tE (bN tE (bL tE) bE) (bN tE (bL tE) bE)) (bN nO (bN o114 (bL o219) bE) (bN nO (bL o220) bE)))))) (bN (um P) (bN (Bm P) (bN tE (bN dq (bN o5 (bN tE (bL tE) (bL o222)) (bN o116 (bL tE) bE)) (bN o118 (bN o117 (bL o223) bE) (bN nO (bL o224) bE))) (bN tE (bN Zm (bN o119 (bL o225) (bL o226)) (bN o120 (bL o227) bE)) (bN tE (bN tE (bL tE) bE) (bN o229 (bL o228) bE)))) (bN aq (bN cq (bN nO (bN nO (bL nO) (bL o230)) (bN nO (bL nO) bE)) (bN (o122 P) (bN o121 (bL tE) bE) (bN o232 (bL o231) bE))) (bN bq (bN o124 (bN o123 (bL o233) bE) (bN o235 (bL o234) bE)) (bN o126 (bN o125 (bL o236) bE) (bN o237 (bL nO) bE))))) (bN o2 (bN tE (bN tE (bN Zp (bN o127 (bL o238) (bL nO)) (bN o128 (bL o239) bE)) (bN o130 (bN o129 (bL tE) bE) (bN tE (bL o240) bE))) (bN tE (bN o10 (bN nO (bL nO) bE) (bN nO (bL nO) bE)) (bN o131 (bN tE (bL tE) bE) (bN o242 (bL o241) bE)))) (bN (Xp P) (bN Yp (bN Ym (bN tE (bL tE) (bL o243)) (bN tE (bL tE) bE)) (bN o133 (bN o132 (bL o244) bE) (bN nO (bL nO) bE))) (bN (Xm P) (bN o135 (bN o134 (bL o245) bE) (bN o247 (bL o246) bE)) (bN tE (bN nO (bL nO) bE) (bN tE (bL tE) bE))))))))
def t4  (P:Cb):xi:=(bN (Gm P) (bN (Yj P) (bN (o259 P) (bN (vm P) (bN o6 (bN tE (bN o3 (bN Qt (bL o136) (bL nO)) (bN Pt (bL o137) (bL o248))) (bN tE (bN tE (bL tE) (bL o249)) (bN o138 (bL tE) (bL nO)))) (bN o5 (bN o4 (bN nO (bL nO) (bL tE)) (bN nO (bL nO) (bL o250))) (bN tE (bN tE (bL tE) (bL tE)) (bN o140 (bL o139) bE)))) (bN (o9 P) (bN o8 (bN o7 (bN Wp (bL o141) (bL o142)) (bN Vp (bL o143) (bL tE))) (bN Ot (bN Up (bL o144) (bL o251)) (bN nO (bL o145) (bL o252)))) (bN nO (bN (Mt P) (bN Nt (bL o146) (bL o253)) (bN o148 (bL o147) (bL tE))) (bN (Tp P) (bN nO (bL nO) (bL nO)) (bN tE (bL o149) bE))))) (bN tE (bN nO (bN tE (bN o10 (bN nO (bL nO) (bL o150)) (bN Rp (bL nO) (bL o254))) (bN Kt (bN tE (bL tE) (bL o255)) (bN o151 (bL tE) (bL tE)))) (bN o12 (bN o11 (bN Qp (bL o152) (bL tE)) (bN Op (bL o153) (bL tE))) (bN Ht (bN Jt (bL o154) (bL o256)) (bN o156 (bL o155) bE)))) (bN Bq (bN (yn P) (bN o13 (bN Et (bL o157) (bL o158)) (bN Dt (bL o159) (bL tE))) (bN tE (bN tE (bL nO) (bL tE)) (bN o161 (bL o160) bE))) (bN vn (bN Ct (bN Np (bL o162) (bL nO)) (bN o164 (bL o163) (bL o257))) (bN tE (bN Mp (bL o165) (bL o258)) (bN tE (bL o166) bE)))))) (bN (rm P) (bN (zm P) (bN (xq P) (bN zq (bN Aq (bN Lp (bL o168) (bL tE)) (bN Bt (bL o169) (bL o260))) (bN Ip (bN Jp (bL o170) (bL tE)) (bN tE (bL o171) (bL o261)))) (bN (yq P) (bN (rn P) (bN tE (bL tE) (bL o172)) (bN tE (bL tE) (bL nO))) (bN zt (bN At (bL o173) (bL o262)) (bN o175 (bL o174) bE)))) (bN wq (bN nn (bN tE (bN tE (bL tE) (bL o176)) (bN tE (bL tE) (bL o263))) (bN o10 (bN nO (bL o177) (bL nO)) (bN tE (bL nO) bE))) (bN tE (bN xt (bN yt (bL o178) (bL o264)) (bN o180 (bL o179) (bL o265))) (bN vt (bN tE (bL tE) (bL tE)) (bN o181 (bL tE) bE))))) (bN o1 (bN tq (bN vq (bN tE (bN tE (bL tE) (bL tE)) (bN nO (bL tE) (bL nO))) (bN Fp (bN ut (bL o182) (bL o266)) (bN o184 (bL o183) (bL o267)))) (bN uq (bN o5 (bN tE (bL tE) (bL o268)) (bN tE (bL tE) (bL o269))) (bN Dp (bN Ep (bL o185) (bL o270)) (bN nO (bL nO) bE)))) (bN o10 (bN qq (bN rq (bN Cp (bL o186) (bL nO)) (bN Bp (bL o187) (bL o271))) (bN qt (bN Ap (bL o188) (bL o272)) (bN tE (bL tE) bE))) (bN pq (bN nO (bN nO (bL nO) (bL tE)) (bN nO (bL nO) (bL o273))) (bN jt (bN tE (bL tE) (bL tE)) (bN o190 (bL o189) bE))))))) (bN (Hm P) (bN (qm P) (bN (wm P) (bN o10 (bN nq (bN oq (bN zp (bL o191) (bL o192)) (bN tE (bL o193) (bL tE))) (bN Ys (bN Zs (bL o194) (bL o274)) (bN o196 (bL o195) (bL o275)))) (bN o10 (bN mq (bN Xs (bL o197) (bL o198)) (bN Ws (bL o199) (bL tE))) (bN nO (bN nO (bL nO) (bL nO)) (bN tE (bL tE) bE)))) (bN o103 (bN kn (bN lq (bN yp (bL o200) (bL tE)) (bN o100 (bL o201) (bL o276))) (bN o5 (bN tE (bL o202) (bL tE)) (bN o203 (bL tE) bE))) (bN kq (bN tE (bN tE (bL tE) (bL o277)) (bN tE (bL tE) (bL nO))) (bN o102 (bN o101 (bL o204) (bL o278)) (bN o206 (bL o205) bE))))) (bN o285 (bN fq (bN nO (bN (jq P) (bN o104 (bL o207) (bL o208)) (bN tE (bL o209) (bL tE))) (bN (o105 P) (bN nO (bL nO) (bL tE)) (bN o210 (bL nO) (bL nO)))) (bN gq (bN iq (bN o106 (bL o211) (bL nO)) (bN o107 (bL o212) (bL o279))) (bN o109 (bN o108 (bL o213) (bL o280)) (bN tE (bL tE) bE)))) (bN o5 (bN jn (bN tE (bN o110 (bL o214) (bL tE)) (bN o111 (bL o215) (bL nO))) (bN o113 (bN o112 (bL o216) (bL o281)) (bN o218 (bL o217) bE))) (bN cn (bN tE (bN tE (bL tE) (bL o282)) (bN tE (bL tE) (bL o283))) (bN nO (bN o114 (bL o219) (bL o284)) (bN nO (bL o220) bE)))))) (bN (um P) (bN (Bm P) (bN tE (bN dq (bN o5 (bN tE (bL tE) (bL o222)) (bN o116 (bL tE) (bL o286))) (bN o118 (bN o117 (bL o223) (bL nO)) (bN nO (bL o224) (bL o287)))) (bN tE (bN Zm (bN o119 (bL o225) (bL o226)) (bN o120 (bL o227) (bL o288))) (bN tE (bN tE (bL tE) (bL tE)) (bN o229 (bL o228) bE)))) (bN aq (bN cq (bN nO (bN nO (bL nO) (bL o230)) (bN nO (bL nO) (bL o289))) (bN (o122 P) (bN o121 (bL tE) (bL o290)) (bN o232 (bL o231) bE))) (bN bq (bN o124 (bN o123 (bL o233) (bL tE)) (bN o235 (bL o234) (bL tE))) (bN o126 (bN o125 (bL o236) (bL o291)) (bN o237 (bL nO) bE))))) (bN o2 (bN tE (bN tE (bN Zp (bN o127 (bL o238) (bL nO)) (bN o128 (bL o239) (bL o292))) (bN o130 (bN o129 (bL tE) (bL o293)) (bN tE (bL o240) (bL o294)))) (bN tE (bN o10 (bN nO (bL nO) (bL tE)) (bN nO (bL nO) (bL o295))) (bN o131 (bN tE (bL tE) (bL tE)) (bN o242 (bL o241) bE)))) (bN (Xp P) (bN Yp (bN Ym (bN tE (bL tE) (bL o243)) (bN tE (bL tE) (bL o296))) (bN o133 (bN o132 (bL o244) (bL o297)) (bN nO (bL nO) bE))) (bN (Xm P) (bN o135 (bN o134 (bL o245) (bL o298)) (bN o247 (bL o246) (bL tE))) (bN tE (bN nO (bL nO) (bL nO)) (bN tE (bL tE) bE))))))))
def Hz  (P:Cb):Za:=⟨⟨Gm P::Yj P::Hm P::o259 P::qm P::rm P::um P::vm P::wm P::zm P::Bm P::tE::o285::o1::o2::o6::o10::xq P::tE::nO::fq::tq::tE::o9 P::o103::wq::aq::Bq::o5::o10::Xp P::tE::nq::zq::dq::tE::nO::vq::tE::o8::kn::nn::cq::yn P::jn::qq::Yp::o5::o10::yq P::tE::o12::gq::uq::tE::nO::kq::tE::bq::vn::cn::pq::Xm P::o3::oq::Aq::o5::o10::jq P::tE::Zp::o7::lq::tE::nO::o13::tE::rq::Ym::o4::mq::rn P::Zm::o11::iq::o5::o10::Mt P::tE::xt::o124::Ct::tE::nO::o135::tE::Ys::Ip::o118::Kt::o105 P::Fp::o130::Ot::o5::o10::o122 P::tE::o113::qt::o133::tE::nO::zt::tE::Ht::o109::Dp::o131::Tp P::o102::vt::o126::tE::nO::jt::tE::Qt::zp::Lp::tE::nO::o104::tE::o127::Wp::yp::tE::nO::Et::o110::Cp::tE::nO::Xs::tE::o119::Qp::o106::tE::nO::Nt::tE::yt::o123::Np::tE::nO::o134::tE::Zs::Jp::o117::tE::nO::ut::o129::Up::tE::nO::o121::tE::o112::Ap::o132::tE::nO::At::tE::Jt::o108::Ep::tE::nO::o101::tE::o125::Mp::o114::tE::nO::Pt::tE::Bt::o116::Rp::tE::nO::o128::Vp::o100::tE::nO::Dt::o111::Bp::tE::nO::Ws::tE::o120::Op::o107::tE::nO::o148::tE::o180::o235::o164::tE::nO::o247::o138::o196::tE::nO::o151::o210::o184::tE::nO::o203::tE::o232::o161::o218::tE::nO::o140::tE::o175::o229::o156::tE::nO::o242::tE::o206::o181::o237::tE::nO::o190::tE::o136::o191::o168::tE::nO::o207::tE::o238::o141::o200::tE::nO::o157::o214::o186::tE::nO::o197::tE::o225::o152::o211::tE::nO::o146::tE::o178::o233::o162::tE::nO::o245::tE::o194::o170::o223::tE::nO::o182::tE::o144::o202::o177::tE::nO::o216::o188::o244::tE::nO::o173::tE::o154::o213::o185::tE::nO::o204::tE::o236::o165::o219::tE::nO::o137::o193::o169::tE::nO::o209::tE::o239::o143::o201::tE::nO::o159::o215::o187::tE::nO::o199::tE::o227::o153::o212::tE::nO::o147::tE::o179::o234::o163::tE::nO::o246::tE::o195::o171::o224::tE::nO::o183::o240::o145::tE::nO::o231::o160::o217::tE::nO::o139::tE::o174::o228::o155::tE::nO::o241::o149::o205::tE::nO::o166::o220::o189::tE::nO::o192::tE::o222::o150::o208::tE::nO::o142::tE::o176::o230::o158::tE::nO::o243::tE::o198::o172::o226::tE::nO::o268::tE::o253::o277::o264::tE::nO::o282::tE::o298::o249::o274::tE::nO::o255::tE::o266::o293::o251::tE::nO::o290::tE::o281::o272::o297::tE::nO::o262::tE::o256::o280::o270::tE::nO::o278::tE::o291::o258::o284::tE::nO::o248::tE::o260::o286::o254::tE::nO::o292::tE::o276::o263::o289::tE::nO::o271::o296::o250::tE::nO::o288::tE::o279::o269::o295::tE::nO::o265::tE::o257::o283::o273::tE::nO::o275::o261::o287::tE::nO::o267::o294::o252::[]⟩,{}⟩
noncomputable def st1  : List Qa:=[Z.Na 0,Z.Na 1,Z.Na 2,Z.Na 3,Z.Na 4]
noncomputable def st2  : List Qa:=[Z.Na 5,Z.Na 6,Z.Na 7,Z.Na 8,Z.Na 9,Z.Na 10,Z.Na 11,Z.Na 12,Z.Na 13,Z.Na 14,Z.Na 15,Z.Na 16,Z.Na 17,Z.Na 18,Z.Na 19,Z.Na 20,Z.Na 21,Z.Na 22,Z.Na 23,Z.Na 24]
noncomputable def Wo  : List Qa:=[Z.Na 25,Z.Na 26,Z.Na 27,Z.Na 28,Z.Na 29,Z.Na 30,Z.Na 31,Z.Na 32,Z.Na 33,Z.Na 34,Z.Na 35,Z.Na 36,Z.Na 37,Z.Na 38,Z.Na 39,Z.Na 40,Z.Na 41,Z.Na 42,Z.Na 43,Z.Na 44,Z.Na 45,Z.Na 46,Z.Na 47,Z.Na 48,Z.Na 49,Z.Na 50,Z.Na 51,Z.Na 52,Z.Na 53,Z.Na 54,Z.Na 55,Z.Na 56,Z.Na 57,Z.Na 58]
noncomputable def wB  : List Qa:=[Z.Na 59,Z.Na 60,Z.Na 61,Z.Na 62,Z.Na 63,Z.Na 64,Z.Na 65,Z.Na 66,Z.Na 67,Z.Na 68,Z.Na 69,Z.Na 70,Z.Na 71]
def bd  : List Qa:=st1++(st2++(Wo++(wB++[])))
noncomputable abbrev pw  : Rb:=PySem.Challenge.pw_beatplans_k41_least_rounds_told
def qw  : Rb:={ pw with main:={ pw.main with body:=[Z.Na 1,Z.Na 2,Z.Na 3,Z.Na 4,Z.Na 5,Z.Na 6,Z.Na 8,Z.Na 9,Z.Na 10,Z.Na 11,Z.Na 13,Z.Na 14,Z.Na 15,Z.Na 16,Z.Na 18,Z.Na 19,Z.Na 20,Z.Na 21,Z.Na 22,Z.Na 23,Z.Na 25,Z.Na 27,Z.Na 28,Z.Na 29,Z.Na 30,Z.Na 31,Z.Na 32,Z.Na 33,Z.Na 34,Z.Na 35,Z.Na 36,Z.Na 38,Z.Na 40,Z.Na 41,Z.Na 42,Z.Na 43,Z.Na 44,Z.Na 45,Z.Na 46,Z.Na 47,Z.Na 48,Z.Na 49,Z.Na 50,Z.Na 51,Z.Na 52,Z.Na 53,Z.Na 54,Z.Na 55,Z.Na 56,Z.Na 57,Z.Na 58,Z.Na 59,Z.Na 60,Z.Na 61,Z.Na 62,Z.Na 63,Z.Na 64,Z.Na 65,Z.Na 66,Z.Na 67,Z.Na 68,Z.Na 69,Z.Na 70,Z.Na 71] } }
def en  : Env:={ scope:=pw.main.scope,locals:=mainNs,globals:=mainNs,cells:=[],code:=.ref 13,frame:=ia 14 }
def cE  : Li:=.body bd en
noncomputable abbrev pz  : Pos:=⟨0,0,0,0⟩
abbrev fz  : List Frame:=[PySem.W.topFrame pz]
noncomputable abbrev s0  (w:Db)(j:ue):Ja:=⟨zo w.params,⟨[]⟩,PySem.W.boot_drawn,PySem.W.boot_toks,j⟩
abbrev sz  (w:Db)(j:ue):Ja:=⟨Hz w.params,⟨[]⟩,{},930,j⟩
noncomputable def sT  (t:Cb->xi)(n k:Nat)(w:Db)(j:ue):PySem.W.SharedT:=⟨t w.params,n,{},⟨[]⟩,{},k,j⟩
section
variable (w:Db)(os:ue)
def EM  : PySem.W.topGo ij pw w 11 (ia (.ref 6)) 12 (s0 w os) (mK pw)=ia (⟨Ha w.params,⟨[]⟩,{},187,os⟩,⟨denote ij cE,cE,pz,fz⟩):=by
 rw[PySem.W.Fast.te15667345088766844465,Im,PySem.W.Fast.te11892475500146522536];kernel_rfl
def CM  : PySem.W.segRun ij pw w 11 (ia (.ref 6)) 1 1 ⟨Ha w.params,⟨[]⟩,{},187,os⟩ (PySem.W.blockOf bd en cE pz fz)=ia (.next,(sT t0 15 187 w os).abs,cE,pz):=by
 rw[PySem.W.Fast.te14374325043358763698,Im];kernel_rfl
def r1  : Ov ij pw w 11 (ia (.ref 6)) 1 933 (sT t0 15 187 w os) (Qv st1 en cE pz fz)=ia (.next,sT t1 85 284 w os,cE,⟨13,0,16,24⟩):=by
 rw[Aw,Im];kernel_rfl
def r2  : Ov ij pw w 11 (ia (.ref 6)) 1 983 (sT t1 85 284 w os) (Qv st2 en cE ⟨13,0,16,24⟩ fz)=ia (.next,sT t2 213 498 w os,cE,⟨102,0,102,8⟩):=by
 rw[Aw,Im];kernel_rfl
def r3  : Ov ij pw w 11 (ia (.ref 6)) 1 974 (sT t2 213 498 w os) (Qv Wo en cE ⟨102,0,102,8⟩ fz)=ia (.next,sT t3 403 803 w os,cE,⟨299,0,301,54⟩):=by
 rw[Aw,Im];kernel_rfl
def r4  : Ov ij pw w 11 (ia (.ref 6)) 1 408 (sT t3 403 803 w os) (Qv wB en cE ⟨299,0,301,54⟩ fz)=ia (.next,sT t4 488 930 w os,cE,⟨391,0,413,83⟩):=by
 rw[Aw,Im];kernel_rfl
def DM  : vK ij pw w 11 (ia (.ref 6)) 2 (sT t4 488 930 w os).abs ⟨PySem.W.doneF .next,cE,⟨391,0,413,83⟩,fz⟩=ia (sz w os):=by
 rw[PySem.W.Fast.te14082659384304107361,Im];kernel_rfl
def FM  : vK ij pw w 11 (ia (.ref 6)) (12+(1+(933+(983+(974+(408+(2))))))) (s0 w os) (mK pw)=ia (sz w os):=
 PySem.W.go_top (EM w os) (PySem.W.piece_block (CM w os) (zw (aw (r1 w os)) (zw (aw (r2 w os)) (zw (aw (r3 w os)) (zw (aw (r4 w os)) (DM w os))))))
end
def KK  : Cb->Nb:=λP=>((1:Ba),Yj P)::((3:Ba),o259 P)::((23:Ba),o9 P)::((24:Ba),o103)::((40:Ba),kn)::((41:Ba),nn)::((43:Ba),yn P)::((44:Ba),jn)::((59:Ba),vn)::((60:Ba),cn)::((62:Ba),Xm P)::((63:Ba),o3)::((78:Ba),Ym)::((79:Ba),o4)::((81:Ba),rn P)::((82:Ba),Zm)::((97:Ba),Ip)::((98:Ba),o118)::((100:Ba),o105 P)::((101:Ba),Fp)::((116:Ba),o109)::((117:Ba),Dp)::((119:Ba),Tp P)::((120:Ba),o102)::((128:Ba),zp)::((129:Ba),Lp)::((135:Ba),Wp)::((136:Ba),yp)::((140:Ba),o110)::((141:Ba),Cp)::((147:Ba),Qp)::((148:Ba),o106)::((154:Ba),o123)::((155:Ba),Np)::((161:Ba),Jp)::((162:Ba),o117)::((166:Ba),o129)::((167:Ba),Up)::((173:Ba),Ap)::((174:Ba),o132)::((180:Ba),o108)::((181:Ba),Ep)::((187:Ba),Mp)::((188:Ba),o114)::((194:Ba),o116)::((195:Ba),Rp)::((199:Ba),Vp)::((200:Ba),o100)::((204:Ba),o111)::((205:Ba),Bp)::((211:Ba),Op)::((212:Ba),o107)::((218:Ba),o235)::((219:Ba),o164)::((223:Ba),o138)::((224:Ba),o196)::((228:Ba),o210)::((229:Ba),o184)::((235:Ba),o161)::((236:Ba),o218)::((242:Ba),o229)::((243:Ba),o156)::((249:Ba),o181)::((250:Ba),o237)::((256:Ba),o191)::((257:Ba),o168)::((263:Ba),o141)::((264:Ba),o200)::((268:Ba),o214)::((269:Ba),o186)::((275:Ba),o152)::((276:Ba),o211)::((282:Ba),o233)::((283:Ba),o162)::((289:Ba),o170)::((290:Ba),o223)::((296:Ba),o202)::((297:Ba),o177)::((301:Ba),o188)::((302:Ba),o244)::((308:Ba),o213)::((309:Ba),o185)::((315:Ba),o165)::((316:Ba),o219)::((320:Ba),o193)::((321:Ba),o169)::((327:Ba),o143)::((328:Ba),o201)::((332:Ba),o215)::((333:Ba),o187)::((339:Ba),o153)::((340:Ba),o212)::((346:Ba),o234)::((347:Ba),o163)::((353:Ba),o171)::((354:Ba),o224)::((358:Ba),o240)::((359:Ba),o145)::((363:Ba),o160)::((364:Ba),o217)::((370:Ba),o228)::((371:Ba),o155)::((375:Ba),o149)::((376:Ba),o205)::((380:Ba),o220)::((381:Ba),o189)::((387:Ba),o150)::((388:Ba),o208)::((394:Ba),o230)::((395:Ba),o158)::((401:Ba),o172)::((402:Ba),o226)::((408:Ba),o277)::((409:Ba),o264)::((415:Ba),o249)::((416:Ba),o274)::((422:Ba),o293)::((423:Ba),o251)::((429:Ba),o272)::((430:Ba),o297)::((436:Ba),o280)::((437:Ba),o270)::((443:Ba),o258)::((444:Ba),o284)::((450:Ba),o286)::((451:Ba),o254)::((457:Ba),o263)::((458:Ba),o289)::((462:Ba),o296)::((463:Ba),o250)::((469:Ba),o269)::((470:Ba),o295)::((476:Ba),o283)::((477:Ba),o273)::((481:Ba),o261)::((482:Ba),o287)::((486:Ba),o294)::((487:Ba),o252)::[]
noncomputable def KA  : List Ba:=1::3::23::24::40::41::43::44::59::60::62::63::78::79::81::82::97::98::100::101::116::117::119::120::128::129::135::136::140::141::147::148::154::155::161::162::166::167::173::174::180::181::187::188::194::195::199::200::204::205::211::212::218::219::223::224::228::229::235::236::242::243::249::250::256::257::263::264::268::269::275::276::282::283::289::290::296::297::301::302::308::309::315::316::320::321::327::328::332::333::339::340::346::347::353::354::358::359::363::364::370::371::375::376::380::381::387::388::394::395::401::402::408::409::415::416::422::423::429::430::436::437::443::444::450::451::457::458::462::463::469::470::476::477::481::482::486::487::[]
def fl  : Z.FL:=(129,128,(.str Bj 336))::(136,135,(.str Bj 336))::(141,140,(.str Bj 336))::(148,147,(.str Bj 336))::(155,154,(.str Cj 377))::(162,161,(.str Cj 377))::(167,166,(.str Cj 377))::(174,173,(.str Cj 377))::(181,180,(.str fh 427))::(188,187,(.str fh 427))::(195,194,(.str fh 427))::(200,199,(.str fh 427))::(205,204,(.str fh 427))::(212,211,(.str fh 427))::(219,218,(.str Rw 496))::(224,223,(.str q105 509))::(229,228,(.str q105 509))::(236,235,(.str q105 509))::(243,242,(.str q105 509))::(250,249,(.str q105 509))::(257,256,(.str q105 509))::(264,263,(.str q105 509))::(269,268,(.str q105 509))::(276,275,(.str q105 509))::(283,282,(.str q112 601))::(290,289,(.str Zb 615))::(297,296,(.str Zb 615))::(302,301,(.str Zb 615))::(309,308,(.str Zb 615))::(316,315,(.str Zb 615))::(321,320,(.str Zb 615))::(328,327,(.str Zb 615))::(333,332,(.str Zb 615))::(340,339,(.str Zb 615))::(347,346,(.str Zb 615))::(354,353,(.str Zb 615))::(359,358,(.str Zb 615))::(364,363,(.str Zb 615))::(371,370,(.str Zb 615))::(376,375,(.str Zb 615))::(381,380,(.str Zb 615))::(388,387,(.str Zb 615))::(395,394,(.str Zb 615))::(402,401,(.str Zb 615))::(409,408,(.str Zb 615))::(416,415,(.str Zb 615))::(423,422,(.str Zb 615))::(430,429,(.str Zb 615))::(437,436,(.str Zb 615))::(444,443,(.str Zb 615))::(451,450,(.str Zb 615))::(458,457,(.str Zb 615))::(463,462,(.str Zb 615))::(470,469,(.str Zb 615))::(477,476,(.str Zb 615))::(482,481,(.str Zb 615))::(487,486,(.str Zb 615))::[]
def k_dyn   P:Z.dynB Z.T (KK P) 0 fl Z.T.funs Z.sts=la:=by kernel_rfl
def k_lk   P:fl.map (λx=>(KK P).lookup x.1)=Z.zn fl Z.T.funs Z.sts:=by kernel_rfl
def k_blt   P:Z.bltB (KK P)=la:=by kernel_rfl
def k_gs   P:Z.br (KK P) Z.T.gn Z.T.gs=la:=by kernel_rfl
def k_xb   P:∃j,L2.XBase (KK P) (Z.gK (KK P)) 24 j:=Z.xb_mk 24 23 15 189 197 [(.ref 44),(.ref 63),(.ref 82),(.ref 101),(.ref 120)] (by kernel_rfl) (by kernel_rfl)
def k_cs   P:Z.Bs (KK P) Z.T.cs:=⟨Z.xc_mk (k_xb P) "NoPaper" "NoPaper.__init__" ["word", "at"] (xg (Z.Na 2) 0) 44 43 28 207 215 41 40 (.str q6 187) (by kernel_rfl) (by kernel_rfl) (by kernel_rfl) (.inr ⟨_,_,_,_,_,_,_,_,_,_,rfl,by decide,rfl⟩),
 Z.xc_mk (k_xb P) "TooMany" "TooMany.__init__" ["word"] (xg (Z.Na 3) 0) 63 62 47 234 242 60 59 (.str q6 187) (by kernel_rfl) (by kernel_rfl) (by kernel_rfl) (.inl ⟨_,_,_,_,_,rfl,rfl⟩),
 Z.xc_mk (k_xb P) "NoRing" "NoRing.__init__" ["word"] (xg (Z.Na 4) 0) 82 81 66 259 267 79 78 (.str q6 187) (by kernel_rfl) (by kernel_rfl) (by kernel_rfl) (.inl ⟨_,_,_,_,_,rfl,rfl⟩),
 Z.xc_mk (k_xb P) "NoText" "NoText.__init__" ["row", "word"] (xg (Z.Na 5) 0) 101 100 85 284 292 98 97 (.str q6 187) (by kernel_rfl) (by kernel_rfl) (by kernel_rfl) (.inr ⟨_,_,_,_,_,_,_,_,_,_,rfl,by decide,rfl⟩),
 Z.xc_mk (k_xb P) "NoRow" "NoRow.__init__" ["row"] (xg (Z.Na 6) 0) 120 119 104 311 319 117 116 (.str q6 187) (by kernel_rfl) (by kernel_rfl) (by kernel_rfl) (.inl ⟨_,_,_,_,_,rfl,rfl⟩),trivial⟩
noncomputable abbrev rr  : PySem.W.OpenRow:=PySem.Challenge.rw_beatplans_k41_least_rounds_told.row
def Xt  : Ja->Bool:=λs=>PySem.W.xlAt qw [] s&&PySem.W.recOk (PySem.W.RowW.records rr.toRowW) s
abbrev hk  : Ed:=PySem.W.kHook KK KA (λ_=>by kernel_rfl)
def dP  (w:Db):((zo w.params).isNs ze&&(⟨[]⟩:Array GenState).size==0,(zo w.params).objs.size,(zo w.params).nsMap ze "__annotations__")=(la,11,ia (Ie 6)):=by
 rw[PySem.W.Fast.te8920871248978507458];kernel_rfl
def k_l1  (w:Db) os:(PySem.W.staticsOk (importedModules pw.main.body) (zo w.params) (Hz w.params)&&PySem.W.namesBound pw (Hz w.params)&&PySem.W.gensDone (sz w os)&&PySem.W.laidKept (zo w.params) (Hz w.params))=la:=by
 rw[fL];kernel_rfl
def k_l2  (w:Db) os:PySem.W.openSeen qw [] (importedModules pw.main.body) Xt la (sz w os)=PySem.W.openGood qw []:=by
 rw[PySem.W.Fast.te4187177175401517315,fL];kernel_rfl
def k_l3   w os:WA hk (sz w os)=XA hk w:=by kernel_rfl
def k_hl  : PySem.W.LeftO pw qw [] Xt (WA hk) (XA hk) 6714:=PySem.W.LeftO.of_pieces (PySem.W.boot_open (by kernel_rfl) (by decide) λ_=>by kernel_rfl) dP FM (by decide) λw=>funext λj=>Vj (k_l1 w j) (Vj (k_l2 w j) (k_l3 w j))
end Y
open PySem PySem.W PyProof.Rows
set_option maxRecDepth 100000 in
set_option maxHeartbeats 0 in
theorem PySem.Challenge.cw_beatplans_k41_least_rounds_told_holds : PySem.Challenge.rw_beatplans_k41_least_rounds_told.Holds := by
 refine PySem.W.holds_law Z.wellS λsaid=>?_
 refine PySem.W.holds_open (q:=Y.qw) (loose:=[]) (Xt:=Y.Xt) (XP:=PySem.W.XL Y.qw []) (Yf:=WA Y.hk) (Ya:=XA Y.hk) (YP:=Ed.says Y.hk) (N:=6714) Y.k_hl (Ed.of Y.hk) (Ed.keeps Y.hk) (λs e=>PySem.W.xl_of s (Bool.and_eq_true_iff.mp e).1) PySem.W.XL.keeps (by rfl) (by rfl) (by rfl) (λs e=>PySem.W.recFacts_of (Bool.and_eq_true_iff.mp e).2) (by rfl) said (by decide +kernel) ⟨rfl,rfl,rfl,rfl,rfl,by decide +kernel⟩ ?hw ?hc
 case hw=>w_witness2
 refine Z.walk (l:=PySem.Challenge.rw_beatplans_k41_least_rounds_told) rfl rfl (λw h Y=>PySem.W.kIn_of Y) ?K ?S ?B ?F
 case K=>intro w;rfl
 case S=>intro w;exact⟨_,rfl,rfl⟩
 case B=>exact λw t ht=>(nomatch (show t∈[]from ht))
 case F=>exact λw mg fa h X G hm=>Z.all2 X G hm Z.prog_rep Z.prog_eq Z.tabsU (Y.k_dyn _) (Y.k_lk _) (Y.k_blt _) (Y.k_gs _) (Y.k_cs _) rfl rfl rfl rfl rfl
