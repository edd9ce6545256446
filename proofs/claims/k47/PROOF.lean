import PyProof.Rows.All
import Wide.All
import OpenK.AllK
import Wide.FinOn
import Lean
import PyProof.EqAt
import PyProof.EqKinds
import PyProof.TupleCall
import PySem.Challenge.RW_beatplans_k47_no_cases_of_moving
noncomputable section
set_option compiler.extract_closed false
set_option genSizeOf false
set_option genInjectivity false
set_option Elab.async false
set_option linter.all false
set_option maxRecDepth 100000
set_option maxHeartbeats 8000000
open List renaming all_cons → Yba, any_cons → Ybr, append_assoc → Yb1, append_nil → Ybb, contains_cons → Ybq, dropLast_eq_take → YeT, drop_eq_getElem_cons → YcL, drop_length → YfU, drop_of_length_le → YeN, drop_zero → Yeq, eraseIdxIfInBounds_toArray → YdG, filterMap_cons → YcC, filterMap_map → Yfx, find?_cons → Ybj, flatten_cons → Yb0, foldl → YdF, foldl_cons → Yeb, forIn_cons → Yea, getD → Ych, getElem?_append_left → Ya1, getElem?_append_right → Ybn, getElem?_cons_succ → YeE, getElem?_eq_getElem → YaD, getElem?_eq_none → YeS, getElem?_map → YaN, getElem?_range → Yff, getElem?_replicate → Ycg, getElem?_set_ne → YaW, getElem?_set_self → Ybk, getElem?_take_of_lt → Yez, getElem_mem → YdT, isEmpty_iff → YfT, length_append → Yaz, length_cons → YbL, length_drop → YfS, length_map → Yaj, length_nil → YcB, length_replicate → YeR, length_set → YcA, length_singleton → YeQ, length_take → Ycv, lookup → Ybs, lookup_cons → YaT, map_append → YaB, map_congr_left → Ydo, map_cons → YaC, map_fst_zip → YfR, map_map → YcI, map_nil → YdM, map_reverse → Ycu, map_take → YdB, mem_append_left → YaV, mem_append_right → Yas, mem_cons → YaM, mem_cons_of_mem → Yan, mem_cons_self → YaH, mem_map_of_mem → Ycz, mem_of_getElem? → Yay, mem_of_mem_take → Ye4, nil_append → YbA, nodup_append → YcV, not_mem_nil → Yau, of_mem_zip → Ycf, range → Ya9, range_succ → Yd9, replicate → Yaa, replicate_succ → Ya4, reverse_cons → YcU, set_cons_succ → Yfw, set_cons_zero → Yfv, set_eq_take_append_cons_drop → YdA, size_toArray → Yak, take_length → Yca, take_of_length_le → YeM, take_sublist → YdE, take_succ → YbO, zip_cons_cons → Yfu
open PySem.W renaming BT → Yb6, CodeHd → YfE, Frag → Yab, OpenLaw → YdK, WalkO → YfQ, boot_heap → YbW, boot_o_0 → YbJ, boot_o_1 → Ybl, boot_o_10 → Ybt, boot_o_2 → YbI, boot_o_3 → Yfd, boot_o_4 → YbH, boot_o_5 → YbG, boot_o_6 → YbF, boot_o_7 → YbE, boot_o_8 → YbD, boot_o_9 → YbC, callWith_K → Ydi, cellsFrom_some → Yce, codeIn → Ybo, codeRec_of → Ydh, findIn → YfD, fnMade → Yd4, fnOf → Ya2, instObj → YdJ, keepIn → Ybg, kia_one → Ya5, kitOne → Yc9, kitx_dict → Ye1, kitx_list → Ye0, lookIn → Yd3, methodObj → Ydu, mg_of → YcQ, nsIn → Ya6, piece_app → YcG, piecesOf → YcT, plainGet → Yfc, segRunT → Yc0, segRun_of → YcF, topRun → YfC, topStub → Yfr
open PySem renaming Arguments → YfW, Comprehension → Yd7, DictEntry → Ydv, ExcBaseFacts → Yer, FuncData → YeF, NameKind → Ybp, Operator → Yd5, PassesOwn → Yc8, Spec → Yax, StoreFacts → Yc7, assignEach → Ybd, assignInOrder → Yfp, attributeBase → Ycp, behindInMarks → YdZ, binaryOp → Ya8, bindArgs → Yfo, bindName → YeB, bootBuiltins → YbP, builtinLookup_eq_fast → Yby, builtinsNs → Ydy, call → Yfq, call_meets → Ybu, cellsFrom → Ya7, checkBuiltinCall → Ydc, closureFor → Yfa, codeAny_call_builtin → YdD, codeAny_call_function → Ydt, codeAny_func → YfO, codeAny_mono → YcZ, compTurn → YeA, compareOp → YaF, concat_meets → YfN, evalPart_none → Yfn, excClassObj → YcP, foldedForSure → Yfm, foldedSetIterable → YaZ, inplaceOp → YdY, isInstance → Ye9, lastMarks → YfM, letOwnedTupleGo → YcO, lookupAlong_cons → Yev, mainGlobals → Yaw, mem_of_lookup → Yaq, newFunctionEnv → YeY, noFill_tuple_add → Yeu, noteFrame → YfL, post_val_or_str → Yds, pushCells → YeJ, qualnameIn → YcJ, repr_of_reads' → YeX, seqIndex? → YfK, seqIndex_neg → YfJ, seqSlot_of → YfB, seq_tuple_add → Yfl, setFlight → YdX, sizeLine → Yag, sizeLine_eq → YbS, sliceBounds → Yci, slicePick → YdW, starEach → Yat, strLen_append → Yfk, swappedStores → Ybe, swapsWith → Ycd, swapsWithSole → Ybx, sysModules → Ya3, treeTable → YcN, tupleKind → YdU, tupleKind_room_in1 → Yco, typeIs_int → Yef, typeIs_str → Yc6, typeLookup → YaU, typeLookup_eq → Yfi, typeLookup_type → Ycn, wpAny_Call_Name_kw → Ybw, wpAny_binaryOp_repeat_ref → YeW, wpAny_bind → Yac, wpAny_call → Yee, wpAny_callSpecial?_slot → Yda, wpAny_call_entry → Yet, wpAny_comprehension_free → Ye8, wpAny_execs_cons → YbV, wpAny_execs_nil → YcM, wpAny_field → YbR, wpAny_getItem_list_slice → Yc5, wpAny_getItem_str_slice → Ycm, wpAny_holding → Yb8, wpAny_isSubtype_exc → YbQ, wpAny_loadPart_at → Yao, wpAny_mono → YaL, wpAny_mroOf_exc → YeI, wpAny_newFunctionEnv_cells → YcW, wpAny_newObj_type → YaY, wpAny_passesOwn → Yb4, wpAny_pure → Yal, wpAny_sequenceKey → Yed, wpAny_setField → YeV, wpAny_standAt → Yb7, wpAny_truthy_bool → YaX, wpAny_typeOf → Ydr
open PySem.Heap renaming SameBut → YdN, get?_none_of_le → Ydf, get?_push_at → YfI, get?_push_of_some → Yad, get?_push_size → YaA, get?_update_ne → Yfg, get?_update_other → Yc4, get?_update_self → Ycr, lt_size → Yam
open Nat renaming add_le_add_left → YcD, add_le_add_right → Ycx, le_add_left → Yej, le_of_eq → YdS, le_of_lt → YbY, le_refl → Yae, le_succ → Yft, le_trans → Yaf, lt_irrefl → Ybh, lt_of_le_of_lt → Ya0, lt_of_lt_of_le → Yap, lt_succ_self → Yc3, lt_trans → Ye3, mul_comm → YdR, ne_of_lt → YaR, succ_le_succ → Ycw, zero_add → YdQ, zero_le → YaK
open Bool renaming and_eq_true → Yah, and_false → Yes, eq_iff_iff → Ybc, false_eq_true → YbT, false_ne_true → Yai, false_or → YdC, not_eq_true' → Yb2, or_eq_true → YbB, or_true → Ycs, true_and → Ycy
open Option.some renaming inj → Yar
open PySem.NameKind renaming cell → YaI, free → Yav
open PySem.W.Fast renaming te10110043849684766642 → Ybf, te14364793385576792824 → YaE, te5923862056798008813 → Yc1
open PySem.PyData renaming canLayAll0 → YcK, depthAll → Ybv, eqv → YaG, eqvAll → Yct, int → Yei, showable → Yc2, showableAll → Ye2, shown → Yb9, shownAll → YfF
open Int renaming ediv_one → Ye7, emod_lt_of_pos → YbU, emod_nonneg → Yck, eq_ofNat_of_zero_le → YaJ, mul_ediv_add_emod → Ye6, mul_le_mul_of_nonneg_right → YbK, toNat → Yel, toNat_natCast → Yb3
open PySem.Builtin.Slice renaming sliceAdjust → Ybi, sliceApplied → YbM, sliceFields → Ydw, slicePlaces → YaO
open PySem.Value renaming bool → Yen, builtin → YcX, int → Yd2, none → Ybm, ref → YaP, str → YeK
open PySem.Builtin.Tuple renaming tupleExact → YaQ, tupleIsExact → Ydq, tupleItemsOf → Ycq, tupleTooMany → Ydp
open PyProof.Rows renaming args_tuple_getitem → Yd1, assignInOrder_cons → Yd0, boot_isinstance → Ydj, callWith_type1 → Ydm, entry_tuple_getitem → YdH, slot_tuple_getitem → YaS, subscriptTail → YdV, subscriptTail_builtinR → YfA, tupleItemsOf_ → Yfj
open False renaming elim → Ybz
open True renaming intro → YbN
open Array renaming append_assoc → Yfh, find?_toList → Ydx, getElem?_setIfInBounds_self_of_lt → YbX, getElem?_toList → YeO, length_toList → Ydl
open PySem.Builtin.List renaming listTooLong → YbZ
open PySem.Builtin.Str renaming occurrences → Yb5
open Sum.inr renaming injEq → Ycb
open PySem.Str renaming ofString → Ycc
open PySem.Obj renaming data_mapFields → YfG, isFreed_of_fields → Ydb, mapFields → Ycj, mapSeq → YdL
open PySem.F renaming args_dict_get_3 → Yeh, args_tuple_add_2 → YcH, args_tuple_mul_2 → YdO, entry_dict_get → Yep, entry_tuple_add → YcS, entry_tuple_mul → Yd6, plainAttrs_dict → Yeg, plainAttrs_list → YcR, slot_dict_eq_refl → YfV, slot_dict_get → Ycl, slot_int_rmul → Ydk, slot_tuple_add → YcY, slot_tuple_mul → Yem, type_dict_get → Yey
open PySem.EqBoolInt renaming of_rcne → YcE
open PySem.W.Hook renaming obs → Yde, val → Ydd
open PySem.SeqAt renaming EqAt → Yeo, in_listAt → YfP, in_tupleAt → YdI, notIn_listAt → Yfb, notIn_tupleAt → Ydg
open PySem.Paired renaming length → Ydn
open Option renaming getD_none → Yfs, isSome_map → Ydz, map → Yfe
open PySem.Txt renaming slice → YeZ, slice_le → YdP
open PySem.SeqAt.RcNeAt renaming tuples → Yd8
open PySem.Calls renaming Name_function_global → Yec, callWith_builtin → YeG
open List.Pairwise renaming nil → Yek
open PySem.SeqAt.EqAt renaming int_str → Yex, str_int → Yew
open PySem.ScopeKind renaming function → YeC
open PySem.Manifest renaming signature? → YeD
open PySem.Around renaming frames_deeper → YeP, under → YeH
open PySem.PassesOwn renaming looking → YeL
open PySem.Code renaming isFrame → YeU, quiet_builtin → Yfz
open List.cons renaming inj → Yfy, injEq → Ye5
open Lean.Parser.Tactic renaming simpLemma → YfH
namespace L2
open PySem PySem.Spec PyProof.Rows

abbrev Key:=Sum Int Str
noncomputable def jhN  : Key->Value->Bool
 |.inl k,v=>Value.isInt k v
 |.inr x,v=>Value.isStrOf x v
noncomputable def keyH  (w:World):Key->Int
 |.inl k=>hashInt k
 |.inr x=>hashStr w x
theorem jas  : ∀{k } {v },jhN k v=true->(∃i t,k=Sum.inl i/\v=Yd2 i t)\/(∃x t,k=Sum.inr x/\v=YeK x t)
 |.inl i,v,h=>by
  obtain⟨t,e⟩:=Value.isInt_shape (k:=i) (v:=v) h;exact .inl ⟨i,t,rfl,e⟩
 |.inr x,v,h=>by
  obtain⟨t,e⟩:=Value.isStrOf_shape (x:=x) (v:=v) h;exact .inr ⟨x,t,rfl,e⟩
theorem jiR   i t:jhN (.inl i) (.int i t)=true:=by simp[jhN,Value.isInt]
theorem jiQ   x t:jhN (.inr x) (.str x t)=true:=by simp[jhN,Value.isStrOf]
theorem jn6   a b:decide ((Sum.inl a:Key)=Sum.inl b)=(a==b):=by
 by_cases e:a=b
 ·subst e;simp
 ·have h:¬(Sum.inl a:Key)=Sum.inl b:=λq=>e (Sum.inl.inj q);rw[decide_eq_false h];exact(beq_eq_false_iff_ne.mpr e).symm
theorem jn3   a b:decide ((Sum.inr a:Key)=Sum.inr b)=decide (a=b):=by
 by_cases e:a=b
 ·subst e;simp
 ·have h:¬(Sum.inr a:Key)=Sum.inr b:=λq=>e (Sum.inr.inj q);rw[decide_eq_false h,decide_eq_false e]
theorem jn5   a b:decide ((Sum.inl a:Key)=Sum.inr b)=false:=decide_eq_false (λq=>nomatch q)
theorem jn4   a b:decide ((Sum.inr a:Key)=Sum.inl b)=false:=decide_eq_false (λq=>nomatch q)

def jar   prog w:PySem.KeyKind prog w Key where
 is:=jhN
 hash:=keyH w
 inj:=λv a b ha hb=>by
  rcases jas ha with⟨i,t,rfl,rfl⟩|⟨x,t,rfl,rfl⟩
  ·rcases jas hb with⟨j,u,rfl,e⟩|⟨y,u,rfl,e⟩
   ·injection e with e1 _;rw[e1]
   ·exact nomatch e
  ·rcases jas hb with⟨j,u,rfl,e⟩|⟨y,u,rfl,e⟩
   ·exact nomatch e
   ·injection e with e1 _;rw[e1]
 byValue:=λk v h=>by
  rcases jas h with⟨i,t,rfl,rfl⟩|⟨x,t,rfl,rfl⟩<;>rfl
 pyHash:=λhv h=>by
  rcases jas hv with⟨i,t,rfl,rfl⟩|⟨x,t,rfl,rfl⟩
  ·exact wpAny_pyHash_int h
  ·exact wpAny_pyHash_str h
 eqBool:=λhu hv h=>by
  rcases jas hu with⟨i,t,rfl,rfl⟩|⟨x,t,rfl,rfl⟩
  ·rcases jas hv with⟨j,u,rfl,rfl⟩|⟨y,u,rfl,rfl⟩
   ·rw[jn6]at h;exact wpAny_eqBool_int h
   ·rw[jn5]at h;exact Yex i t y u _ _ _ _ h
  ·rcases jas hv with⟨j,u,rfl,rfl⟩|⟨y,u,rfl,rfl⟩
   ·rw[jn4]at h;exact Yew x t j u _ _ _ _ h
   ·rw[jn3]at h;exact wpAny_eqBool_str h
 «strs»:=λk x t v h=>by
  rcases jas h with⟨i,u,rfl,e⟩|⟨y,u,rfl,e⟩
  ·exact nomatch e
  ·injection e with e1 _
   subst e1
   cases v<;>rfl

theorem jgf   prog w i t:(jar prog w).is (.inl i) (.int i t)=true:=jiR i t
theorem jge   prog w x t:(jar prog w).is (.inr x) (.str x t)=true:=jiQ x t

set_option genInjectivity true
inductive V where
 |non|bl (b:Bool)|int (i:Int)|str (x:Str)|byt (b:Array UInt8)|flt (b:UInt64)|ref (a:Addr)|ty (n:String)
 deriving DecidableEq

set_option genInjectivity false
def RelV  : V->Value->Prop
 |.non,u=>u=Ybm
 |.bl b,u=>u=Yen b
 |.int i,u=>∃t,u=Yd2 i t
 |.str x,u=>∃t,u=YeK x t
 |.byt b,u=>∃t,u=Value.bytes b t
 |.flt b,u=>∃t,u=Value.float b t
 |.ref a,u=>u=YaP a
 |.ty n,u=>u=Value.type n

abbrev Vals  : List V->List Value->Prop:=Paired RelV
theorem Vals.length    (r:Vals xs us):xs.length=us.length:=Ydn r
theorem Vals.get  : ∀{xs } {us } {i:Nat} {x },Vals xs us->xs[i]?=some x->∃u,us[i]?=some u/\RelV x u
 |_,_,_,_,.nil,e=>by simp at e
 |_,_,0,_,.cons r _,e=>by simp at e;subst e;exact⟨_,rfl,r⟩
 |_,_,i+1,x,.cons _ t,e=>by
  obtain⟨u,h1,h2⟩:=Vals.get (i:=i) (x:=x) t (by simpa using e)
  exact⟨u,by simpa using h1,h2⟩
theorem Vals.set    (r:RelV x u):∀{xs } {us } i ,Vals xs us->Vals (xs.set i x) (us.set i u)
 |_,_,_,.nil=>.nil
 |_,_,0,.cons _ t=>.cons r t
 |_,_,i+1,.cons q t=>.cons q (Vals.set r i t)
theorem Vals.append  : ∀{xs ys } {us ws },Vals xs us->Vals ys ws->Vals (xs++ys) (us++ws)
 |_,_,_,_,.nil,s=>s
 |_,_,_,_,.cons r t,s=>.cons r (Vals.append t s)
theorem Vals.take  : ∀{xs } {us } n ,Vals xs us->Vals (xs.take n) (us.take n)
 |_,_,0,_=>.nil
 |_,_,_+1,.nil=>.nil
 |_,_,n+1,.cons r t=>.cons r (Vals.take n t)
theorem Vals.drop  : ∀{xs } {us } n ,Vals xs us->Vals (xs.drop n) (us.drop n)
 |_,_,0,r=>r
 |_,_,_+1,.nil=>.nil
 |_,_,n+1,.cons _ t=>Vals.drop n t
def RelO  : Option V->Option Value->Prop
 |some v,some u=>RelV v u
 |none,none=>True
 |_,_=>False
def KV  {κ:Type}:List (κ×V)->List (κ×Value)->Prop:=Paired λ(p:κ×V) (q:κ×Value)=>p.1=q.1/\RelV p.2 q.2

noncomputable def kV  : Key->V
 |.inl i=>.int i
 |.inr x=>.str x

set_option genInjectivity true
inductive HO where
 |lst (xs:List V)
 |tup (xs:List V)
 |dK (kvs:List (Key×V))|dT (kvs:List (List Key×V))
 |set (S:Int->Bool) (n:Nat)
 |ins (C dx:Addr) (fs:List (Str×V))
 |own (x:Addr)
 |xd (fs:List (Str×V))
 |met (f x:Addr)
 |rng (lo hi:Int)
 |frz (o:Obj) (u:HO)
 |tbl (ps:Array Value)
 |ext (φ:Heap->Prop)

set_option genInjectivity false
abbrev Hp:=Addr->Option HO
noncomputable def upd  (H:Hp)(a:Addr)(o:HO):Hp:=λb=>if b=a then some o else H b
theorem jah     : upd H a o a=some o:=by unfold upd;rw[if_pos rfl]
theorem jae     (h:b≠a):upd H a o b=H b:=by unfold upd;rw[if_neg h]
theorem jpw  {H:Hp}(h:H a=some o)(h':H b=some u)(d:o≠u):a≠b:=by
 intro e;subst e;rw[h]at h';exact d (Yar h')
theorem jaj  {H:Hp}(h:H a=some o)(h':H b=none):a≠b:=by
 intro e;subst e;rw[h]at h';cases h'

def TupD  (h:Heap)(a:Addr)(items:Array Value):Prop:=∃o,h.get? a=some o/\o.cls=.type "tuple" /\ ∃n,o.data=.seq items n/\o.dict=none
theorem TupD.tup     (x:TupD h a items):IsTup h a items:=let ⟨o,e,c,n,d,_⟩:=x;⟨o,e,c,n,d⟩
theorem TupD.new  (h:Heap) items:TupD (h.push { cls:=.type "tuple",data:=.seq items }) h.objs.size items:=⟨_,YaA _ rfl,rfl,_,rfl,rfl⟩
section
variable (P:Program)(w:World)
def jaE (H:Hp)(h:Heap)(a:Addr):HO->Prop
 |.lst xs=>xs.length<=Yag/\∃(its:List Value) (n:Nat),Vals xs its/\h.get? a=some { cls:=.type "list",data:=.seq its.toArray n }
 |.tup xs=>xs.length<=Yag/\∃its:List Value,Vals xs its/\TupD h a its.toArray
 |.dK kvs=>kvs.length<=Yag/\(a==Ya3)=false/\∃vs,KV kvs vs/\h.DictOf (jar P w) a vs
 |.dT kvs=>kvs.length<=Yag/\(a==Ya3)=false/\∃xs:List (List Key×Addr×Value),
   Paired (λ(p:List Key×V) (q:List Key×Addr×Value)=>p.1=q.1/\H q.2.1=some (.tup (p.1.map kV))/\RelV p.2 q.2.2) kvs xs/\
   ∃o es ep,h.get? a=some o/\o.ExactDict/\o.data=.dict es ep/\es.toList=xs.map (entryOfKey (YdU (jar P w)))/\(xs.map (·.1)).Nodup
 |.set S n=>h.SetOf (intKind P w) a S n
 |.ins C dx fs=>H dx=some (.own a)/\fs.length<=1000/\dx≠a/\h.get? a=some (YdJ C dx)/\
   ∃mA,h.Ns1 dx mA/\(∀f,RelO (fs.lookup f) (mA f))/\PySem.Within mA (fs.map (·.1))
 |.own _=>∃o,h.get? a=some o
 |.xd fs=>∃mA,h.Ns1 a mA/\∀f,RelO (fs.lookup f) (mA f)
 |.rng lo hi=>∃t u v,h.get? a=some { cls:=.type "range",data:=.fields #[.int lo t,.int hi u,.int 1 v] }
 |.frz o u=>h.get? a=some o/\jaE H h a u
 |.tbl ps=>h.get? a=some { cls:=.none,data:=.fields ps }
 |.met f x=>h.get? a=some (Ydu (.ref f) (.ref x))
 |.ext φ=>φ h/\(∃o,h.get? a=some o)/\∀h1 h2:Heap,φ h1->(∀o,h1.get? a=some o->h2.get? a=some o)->φ h2
def HOk (H:Hp)(h:Heap):Prop:=∀a o,H a=some o->jaE P w H h a o
end

section
variable {P:Program}{w:World}{H H':Hp}{h h':Heap}{a:Addr}{o:HO}
theorem jaE.lt  (x:jaE P w H h a o):a<h.objs.size:=by
 cases o with
 |lst xs=>obtain⟨_,_,_,_,e⟩:=x;exact Yam e
 |tup xs=>obtain⟨_,_,_,p⟩:=x;exact p.tup.lt
 |dK kvs=>obtain⟨_,_,_,_,o,_,_,e,_⟩:=x;exact Yam e
 |dT kvs=>obtain⟨_,_,_,_,o,_,_,e,_⟩:=x;exact Yam e
 |set S n=>obtain⟨o,_,_,_,e,_⟩:=x;exact Yam e
 |ins C dx fs=>obtain⟨_,_,_,e,_⟩:=x;exact Yam e
 |own y=>obtain⟨_,e⟩:=x;exact Yam e
 |xd fs=>obtain⟨_,⟨_,_,_,e,_⟩,_⟩:=x;exact Yam e
 |rng lo hi=>obtain⟨_,_,_,e⟩:=x;exact Yam e
 |frz ob u=>obtain⟨e,_⟩:=x;exact Yam e
 |tbl ps=>exact Yam (show h.get? a=some _ from x)
 |met f y=>exact Yam (show h.get? a=some _ from x)
 |ext φ=>obtain⟨_,⟨_,e⟩,_⟩:=x;exact Yam e
theorem Paired.mapP    : ∀{l₁ } {l₂ },Paired F l₁ l₂->(∀a b,F a b->G a b)->Paired G l₁ l₂
 |_,_,.nil,_=>.nil
 |_,_,.cons r t,f=>.cons (f _ _ r) (Paired.mapP t f)
theorem jaE.stay  (x:jaE P w H h a o)(k:∀b u,(b=a\/H b=some (.own a))->h.get? b=some u->h'.get? b=some u)
  (ho:∀b,H b=some (.own a)->H' b=some (.own a)) (ht:∀b xs,H b=some (.tup xs)->H' b=some (.tup xs)):jaE P w H' h' a o:=by
 induction o with
 |lst xs=>obtain⟨z,its,n,r,e⟩:=x;exact⟨z,its,n,r,k _ _ (.inl rfl) e⟩
 |tup xs=>obtain⟨z,its,r,ob,e,c⟩:=x;exact⟨z,its,r,ob,k _ _ (.inl rfl) e,c⟩
 |dK kvs=>obtain⟨z,y,vs,r,ob,es,ep,e,c⟩:=x;exact⟨z,y,vs,r,ob,es,ep,k _ _ (.inl rfl) e,c⟩
 |dT kvs=>
  obtain⟨z,y,xs,r,ob,es,ep,e,c⟩:=x;exact⟨z,y,xs,Paired.mapP r λp q z=>⟨z.1,ht _ _ z.2.1,z.2.2⟩,ob,es,ep,k _ _ (.inl rfl) e,c⟩
 |set S n=>obtain⟨ob,es,ep,t,e,c⟩:=x;exact⟨ob,es,ep,t,k _ _ (.inl rfl) e,c⟩
 |ins C dx fs=>
  obtain⟨d,z,ne,e,mA,⟨od,es,ep,e2,c⟩,r⟩:=x;exact⟨ho _ d,z,ne,k _ _ (.inl rfl) e,mA,⟨od,es,ep,k _ _ (.inr d) e2,c⟩,r⟩
 |own y=>obtain⟨ob,e⟩:=x;exact⟨ob,k _ _ (.inl rfl) e⟩
 |xd fs=>obtain⟨mA,⟨od,es,ep,e,c⟩,r⟩:=x;exact⟨mA,⟨od,es,ep,k _ _ (.inl rfl) e,c⟩,r⟩
 |rng lo hi=>obtain⟨t,u,v,e⟩:=x;exact⟨t,u,v,k _ _ (.inl rfl) e⟩
 |frz ob u ih=>obtain⟨e,q⟩:=x;exact⟨k _ _ (.inl rfl) e,ih q⟩
 |tbl ps=>
  have e:h.get? a=some { cls:=.none,data:=.fields ps }:=x;show h'.get? a=some { cls:=.none,data:=.fields ps };exact k a _ (.inl rfl) e
 |met f y=>
  have e:h.get? a=some (Ydu (.ref f) (.ref y)):=x;show h'.get? a=some (Ydu (.ref f) (.ref y));exact k a _ (.inl rfl) e
 |ext φ=>obtain⟨p,⟨o,e⟩,st⟩:=x;exact⟨st _ _ p λo q=>k _ _ (.inl rfl) q,⟨o,k _ _ (.inl rfl) e⟩,st⟩
theorem HOk.lt  (x:HOk P w H h)(e:H a=some o):a<h.objs.size:=(x a o e).lt
theorem HOk.fresh  (x:HOk P w H h)(e:h.objs.size<=a):H a=none:=by
 cases q:H a with
 |none=>rfl
 |some u=>exact absurd (Yap (x.lt q) e) (Ybh _)
theorem HOk.kept  (x:HOk P w H h)(k:∀b u,h.get? b=some u->h'.get? b=some u):HOk P w H h':=λa o e=>
 (x a o e).stay (λb u _ q=>k b u q) (λ_ q=>q) λ_ _ q=>q
theorem HOk.laid  (x:HOk P w H h)(k:∀b u,h.get? b=some u->h'.get? b=some u)(hp:h.objs.size<=a)(new:jaE P w (upd H a o) h' a o):HOk P w (upd H a o) h':=λb u e=>by
 have hn:=x.fresh hp;by_cases hb:b=a
 ·subst hb;rw[jah]at e;cases e;exact new
 ·rw[jae hb]at e;exact(x b u e).stay (λc v _ q=>k c v q) (λc q=>by rw[jae (jaj q hn)];exact q) λc xs q=>by rw[jae (jaj q hn)];exact q
end

def Rd  (H:Hp)(a:Addr)(u:HO):Prop:=H a=some u\/∃o,H a=some (.frz o u)
theorem Rd.ok        (r:Rd H a u)(x:HOk P w H h):jaE P w H h a u:=by
 rcases r with r|⟨o,r⟩
 ·exact x a u r
 ·obtain⟨_,q⟩:=x a _ r;exact q
def Mut  : Option HO->Prop
 |some (.lst _)=>True
 |some (.dK _)=>True
 |some (.dT _)=>True
 |some (.set _ _)=>True
 |some (.ins _ _ _)=>True
 |some (.ext _)=>True
 |_=>False

theorem HOk.write  (ok:HOk P w H h)(mu:Mut (H x))(he:e=x\/H e=some (.own x))(k:∀b u,b≠e->h.get? b=some u->h'.get? b=some u)(heo:∃u,h'.get? e=some u)
  (new:jaE P w (upd H x o') h' x o'):HOk P w (upd H x o') h':=λb u q=>by
 have nown:∀c y,H c=some (.own y)->c≠x:=λc y r z=>by subst z;rw[r]at mu;exact mu
 have ntup:∀c xs,H c=some (.tup xs)->c≠x:=λc xs r z=>by subst z;rw[r]at mu;exact mu
 by_cases hb:b=x
 ·subst hb;rw[jah]at q;cases q;exact new
 ·rw[jae hb]at q;by_cases hbe:b=e
  ·have q':H b=some (.own x):=by
    rcases he with z|z
    ·exact absurd (hbe.trans z) hb
    ·rw[hbe];exact z
   rw[q]at q';cases q';obtain⟨v,hv⟩:=heo;exact⟨v,by rw[hbe];exact hv⟩
  ·refine(ok b u q).stay (λc v hc r=>k c v ?_ r) (λc r=>by rw[jae (nown c b r)];exact r) λc xs r=>by rw[jae (ntup c xs r)];exact r
   rcases hc with rfl|hc
   ·exact hbe
   ·rintro rfl;rcases he with z|z
    ·exact nown c b hc z
    ·rw[hc]at z;cases z;exact hb rfl

structure Un (fs ex:List Addr)(H H':Hp)(h h':Heap):Prop where
 keep:∀b o,h.get? b=some o->H b=none->b∉fs->b∉ex->h'.get? b=some o
 slot:∀b o,h.get? b=some o->H b=none->b∈fs->b∉ex->∃sl,h'.get? b=some { o with slots:=sl }
 free:∀b o,h.get? b=some o->H b=none->b∉ex->H' b=none
 there:∀b o,h.get? b=some o->b∉ex->∃o',h'.get? b=some o'
 tups:∀b xs,H b=some (.tup xs)->H' b=some (.tup xs)
 frzs:∀b o u,H b=some (.frz o u)->H' b=some (.frz o u)
 tbls:∀b ps,H b=some (.tbl ps)->∃more,H' b=some (.tbl (ps++more))

theorem Un.any  (u:Un fs ex H H1 h h1)(q:h.get? b=some ob)(n:H b=none)(hx:b∉ex):∃sl,h1.get? b=some { ob with slots:=sl }:=by
 by_cases hb:b∈fs
 ·exact u.slot b ob q n hb hx
 ·exact⟨ob.slots,u.keep b ob q n hb hx⟩
theorem Un.trans  (a:Un fs ex H H1 h h1)(b:Un fs ex H1 H2 h1 h2):Un fs ex H H2 h h2 where
 keep:=λc ob q n hc hx=>b.keep c ob (a.keep c ob q n hc hx) (a.free c ob q n hx) hc hx
 slot:=λc ob q n hc hx=>by
  obtain⟨sl,e1⟩:=a.slot c ob q n hc hx;obtain⟨sl',e2⟩:=b.slot c _ e1 (a.free c ob q n hx) hc hx;exact⟨sl',e2⟩
 free:=λc ob q n hx=>by
  obtain⟨o',e1⟩:=a.there c ob q hx;exact b.free c o' e1 (a.free c ob q n hx) hx
 there:=λc ob q hx=>by
  obtain⟨o',e1⟩:=a.there c ob q hx;exact b.there c o' e1 hx
 tups:=λc xs q=>b.tups c xs (a.tups c xs q)
 frzs:=λc ob xs q=>b.frzs c ob xs (a.frzs c ob xs q)
 tbls:=λc ps q=>by
  obtain⟨m1,e1⟩:=a.tbls c ps q;obtain⟨m2,e2⟩:=b.tbls c _ e1;exact⟨m1++m2,by rw[e2,Yfh]⟩
theorem Un.kept  (k:∀b u,h.get? b=some u->h'.get? b=some u):Un fs ex H H h h':=
 ⟨λb ob q _ _ _=>k b ob q,λb ob q _ _ _=>⟨ob.slots,k b ob q⟩,λ_ _ _ n _=>n,λb ob q _=>⟨ob,k b ob q⟩,λ_ _ q=>q,λ_ _ _ q=>q,λ_ ps q=>⟨#[],by rw[q];simp⟩⟩
theorem Un.refl  : Un fs ex H H h h:=Un.kept λ_ _ q=>q
theorem Un.laid  {h: Heap}{a: Addr}(k:∀b u,h.get? b=some u->h'.get? b=some u)(hp:h.objs.size<=a)(hn:H a=none):Un fs ex H (upd H a o) h h' where
 keep:=λb u q _ _ _=>k b u q
 slot:=λb u q _ _ _=>⟨u.slots,k b u q⟩
 free:=λb u q n _=>by rw[jae (YaR (Yap (Yam q) hp))];exact n
 there:=λb u q _=>⟨u,k b u q⟩
 tups:=λb xs q=>by rw[jae (jaj q hn)];exact q
 frzs:=λb u xs q=>by rw[jae (jaj q hn)];exact q
 tbls:=λb ps q=>⟨#[],by rw[jae (jaj q hn),q];simp⟩
theorem Un.write  (mu:Mut (H x))(he:e=x\/H e=some (.own x))(k:∀b u,b≠e->h.get? b=some u->h'.get? b=some u)(heo:∃u,h'.get? e=some u):Un fs ex H (upd H x o) h h':=by
 have hx:∀b,H b=none->b≠x:=λb n z=>by subst z;rw[n]at mu;exact mu
 have hb:∀b,H b=none->b≠e:=λb n z=>by
  subst z;rcases he with r|r
  ·exact hx b n r
  ·rw[n]at r;cases r
 have hm:∀b u,H b=some u->¬Mut (some u)->b≠x:=λb u q nm z=>by subst z;rw[q]at mu;exact nm mu
 refine⟨λb u q n _ _=>k b u (hb b n) q,λb u q n _ _=>⟨u.slots,k b u (hb b n) q⟩,λb u q n _=>by rw[jae (hx b n)];exact n,λb u q _=>?_,
  λb xs q=>by rw[jae (hm b _ q λz=>z)];exact q,λb u xs q=>by rw[jae (hm b _ q λz=>z)];exact q,λb ps q=>⟨#[],by rw[jae (hm b _ q λz=>z),q];simp⟩⟩
 by_cases hbe:b=e
 ·subst hbe;exact heo
 ·exact⟨u,k b u hbe q⟩

noncomputable def trk  (h:Heap)(H:Hp):List Addr:=(Ya9 h.objs.size).filter λa=>(H a).isSome
def hidT  (h:Heap)(H:Hp):Heap:=PySem.W.hideAll h (trk h H)
theorem jiY  (h:Heap) H:(hidT h H).objs.size=h.objs.size:=PySem.W.hideAll_size _ _
theorem je8      (e:h.get? b=some o)(n:H b=none):(hidT h H).get? b=some o:=
 PySem.W.hideAll_get _ e λhm=>by
  have q:(H b).isSome=true:=(List.mem_filter.mp hm).2;rw[n]at q;simp at q
theorem jlU      (e:(hidT h H).get? b=some o):h.get? b=some o/\H b=none:=by
 have e':h.get? b=some o:=PySem.W.of_hideAll (trk h H) e;refine⟨e',?_⟩;cases q:H b with
 |none=>rfl
 |some x=>
  have hm:b∈trk h H:=List.mem_filter.mpr ⟨List.mem_range.mpr (Yam e'),by simp[q]⟩
  have z:(hidT h H).get? b=none:=PySem.W.hideAll_none (trk h H) hm;rw[z]at e;cases e

noncomputable def jmw  (g h:Heap)(L:Addr):List (Addr×Obj):=(Ya9 h.objs.size).filterMap λa=>if a=L\/(g.get? a).isSome=true then none else (h.get? a).map λo=>(a,o)
def rest  (g h:Heap)(L d:Addr):List (Addr×Obj):=(jmw g h L).filter λp=>decide (p.1≠d)

structure Mod (K:Yab)(mg:Str->Option Value)(base:Heap):Prop where
 kin:K.In base
 glob:base.Ns Yaw mg
 blt:∃mb,base.Ns Ydy mb/\∀x:Str,x ≠ "__name__" -> mb x=YbP x
 nolimit:base.NoLimit
 sys:∃o,K.lookup Ya3=some o/\o.cls=.type "dict"

structure Cx where
 prog:Program
 w:World
 K:Yab
 mg:Str->Option Value
 base:Heap
 A:Around
 N:List Str
 s₀:Shared
 H₀:Hp
 env:Env
 outer:List Env
 stack:List Env
 ex:List Addr
 fn:Str->Bool
 calm:Bool
 pn:List (Addr×Obj)
 xe:Value->Shared->Prop
noncomputable def frs  (l:List Env):List Addr:=l.filterMap (·.frame)
abbrev Cx.fs  (X:Cx):List Addr:=frs X.outer

def Vis  (sc:Scope)(x:Str):Prop:=sc.names.lookup x=some .local\/sc.names.lookup x=some .cell\/sc.names.lookup x=some .free
def Loc  (sc:Scope)(x:Str):Prop:=sc.names.lookup x=some .local\/sc.names.lookup x=some .cell
def Look  (env:Env)(h:Heap)(m:Str->Option Value)(x:Str)(u:Value):Prop:=
 (env.kindOf x=some .local/\m x=some u)\/((env.kindOf x=some .cell\/env.kindOf x=some .free)/\∃c,env.cells.lookup x=some c/\h.IsCell c (some u))

structure Cx.Ok (X:Cx):Prop where
 mod:Mod X.K X.mg X.base
 kind:X.env.scope.kind=.function
 glob:X.env.globals=Yaw
 blt:X.env.builtins=Ydy
 above:X.s₀.heap.objs.size<=X.env.locals
 inj:∀x y c,X.env.cells.lookup x=some c->X.env.cells.lookup y=some c->x=y
 has:∀x,(X.env.kindOf x=some .cell\/X.env.kindOf x=some .free)->∃c,X.env.cells.lookup x=some c
 cab:∀x c,X.fn x=true->X.env.cells.lookup x=some c->X.s₀.heap.objs.size<=c
 hd:X.calm=true->X.A.handled=none
 frames:X.A.frames=some X.stack
 stk:X.stack=X.outer\/(X.stack=X.env::X.outer/\X.env.frame=some X.env.locals)
 exf:∀b∈X.ex,b≠X.env.locals/\∀x c,X.env.cells.lookup x=some c->c≠b
 bs:∀b o,X.base.get? b=some o->X.s₀.heap.get? b=some o/\X.H₀ b=none
 bsz:X.base.objs.size<=X.s₀.heap.objs.size
 noex:∀b o,X.base.get? b=some o->b∉X.ex
 exfs:∀b∈X.ex,b∉X.fs
 funs:X.s₀.heap.FunFrames X.base X.outer
 frf:∀b∈X.fs,X.H₀ b=none

structure Inv (X:Cx)(pins:List (Addr×Obj))(σ:List (Option V))(H:Hp)(s:Shared):Prop where
 ok:X.Ok
 os:s.os=X.s₀.os
 bare:AllBare s.gens
 base:Un X.fs X.ex X.H₀ H X.s₀.heap s.heap
 loc:∃m,s.heap.Ns X.env.locals m/\∀(i:Nat) (x:Str) (v:V),X.N[i]?=some x->σ[i]?=some (some v)->Vis X.env.scope x->∃u,RelV v u/\Look X.env s.heap m x u
 cell:∀x c,X.env.cells.lookup x=some c->∃v,s.heap.IsCell c v
 free:H X.env.locals=none
 freeC:∀x c,X.env.cells.lookup x=some c->H c=none
 pin:∀p∈X.pn++pins,s.heap.get? p.1=some p.2/\H p.1=none/\p.1≠X.env.locals/\p.1∉X.fs/\∀v,p.2.data≠.cell v
 hok:HOk X.prog X.w H s.heap
 len:σ.length=X.N.length

section
variable {X:Cx}{pins:List (Addr×Obj)}{σ:List (Option V)}{H H':Hp}{s:Shared}{h':Heap}

theorem Cx.Ok.nofr  (ok:X.Ok)(e:X.base.get? b=some o):b∉X.fs:=λhb=>by
 have:=(ok.funs.mem hb).1;rw[e]at this;cases this
theorem Inv.bs  (I:Inv X pins σ H s):∀b o,X.base.get? b=some o->s.heap.get? b=some o/\H b=none:=λb o e=>
 ⟨I.base.keep b o (I.ok.bs b o e).1 (I.ok.bs b o e).2 (I.ok.nofr e) (I.ok.noex b o e),I.base.free b o (I.ok.bs b o e).1 (I.ok.bs b o e).2 (I.ok.noex b o e)⟩
theorem Inv.bk  (I:Inv X pins σ H s):∀b o,X.base.get? b=some o->s.heap.get? b=some o:=λb o e=>(I.bs b o e).1
theorem Inv.mod  (I:Inv X pins σ H s):Mod X.K X.mg X.base:=I.ok.mod
theorem Inv.kIn  (I:Inv X pins σ H s):X.K.In s.heap:=I.ok.mod.kin.keeps I.bk
theorem Inv.lt  (I:Inv X pins σ H s):X.env.locals<s.heap.objs.size:=let ⟨_,hn,_⟩:=I.loc;hn.lt
theorem Inv.sz  (I:Inv X pins σ H s):X.s₀.heap.objs.size<=s.heap.objs.size:=Yaf I.ok.above (YbY I.lt)
theorem Inv.nofs  (I:Inv X pins σ H s){a:Addr}(h:s.heap.objs.size<=a):a∉X.fs:=λhb=>by
 obtain⟨_,o,ho,_⟩:=I.ok.funs.mem hb;exact absurd (Yap (Yam ho) (Yaf I.sz h)) (Ybh _)
theorem Inv.cne  (I:Inv X pins σ H s):∀x c,X.env.cells.lookup x=some c->c≠X.env.locals:=λx c e z=>by
 obtain⟨v,o,ho,hd⟩:=I.cell x c e;obtain⟨m,⟨o',es,ep,ho',hd',_⟩,_⟩:=I.loc;rw[z,ho']at ho;cases ho;rw[hd']at hd;cases hd
theorem Inv.funs  (I:Inv X pins σ H s):s.heap.FunFrames X.base X.outer:=by
 have all:∀(l:List Env),(∀b∈frs l,b∈X.fs)->X.s₀.heap.FunFrames X.base l->s.heap.FunFrames X.base l:=by
  intro l
  induction l with
  |nil=>intro _ _;trivial
  |cons env r ih=>
   intro hs hl;obtain⟨hk,⟨L,o,hf,hn,ho,hd⟩,hr⟩:=hl;have hL:L∈X.fs:=hs L (by unfold frs;rw[YcC,hf];exact YaH)
   obtain⟨sl,e⟩:=I.base.slot L o ho (I.ok.frf L hL) hL λz=>I.ok.exfs L z hL;exact⟨hk,⟨L,_,hf,hn,e,hd⟩,ih (λb hb=>hs b (by unfold frs;rw[YcC,hf];exact Yan _ hb)) hr⟩
 exact all X.outer (λ_ hb=>hb) I.ok.funs

theorem Inv.stack  (I:Inv X pins σ H s):s.heap.FunFrames X.base X.stack:=by
 rcases I.ok.stk with e|⟨e,hf⟩
 ·rw[e];exact I.funs
 ·rw[e];obtain⟨m,hn,_⟩:=I.loc;refine .cons (by rw[I.ok.kind];decide) hf hn ?_ I.funs
  exact Ydf (Yaf I.ok.bsz I.ok.above)
theorem Inv.stkSub  (I:Inv X pins σ H s):∀b∈frs X.stack,b∈X.env.locals::X.fs:=λb hb=>by
 rcases I.ok.stk with e|⟨e,hf⟩
 ·rw[e]at hb;exact Yan _ hb
 ·rw[e]at hb;unfold frs at hb;rw[YcC,hf]at hb;exact hb
theorem Inv.stkFree  (I:Inv X pins σ H s):∀b∈frs X.stack,H b=none:=λb hb=>by
 rcases YaM.mp (I.stkSub b hb)with e|hb
 ·rw[e];exact I.free
 ·obtain⟨_,o,ho,_⟩:=I.ok.funs.mem hb;exact I.base.free b o ho (I.ok.frf b hb) λz=>I.ok.exfs b z hb

theorem Inv.step     {ch:List Addr}(I:Inv X pins σ H s)
  (hch:∀b∈ch,(b∈X.ex\/X.s₀.heap.objs.size<=b)/\b≠X.env.locals/\(∀x c,X.env.cells.lookup x=some c->c≠b)/\∀p∈X.pn++pins,p.1≠b)
  (keep:∀b o,b≠X.env.locals->b∉X.fs->b∉ch->s.heap.get? b=some o->H b=none->h'.get? b=some o)
  (slot:∀b o,b≠X.env.locals->b∈X.fs->b∉ch->s.heap.get? b=some o->H b=none->∃sl,h'.get? b=some { o with slots:=sl }) (free:∀b o,b∉ch->s.heap.get? b=some o->H b=none->H' b=none)
  (there:∀b o,b∉ch->s.heap.get? b=some o->∃o',h'.get? b=some o')
  (tups:∀b xs,H b=some (.tup xs)->H' b=some (.tup xs)) (frzs:∀b o u,H b=some (.frz o u)->H' b=some (.frz o u)) (tbls:∀b ps,H b=some (.tbl ps)->∃more,H' b=some (.tbl (ps++more)))
  (ns:∀m,s.heap.Ns X.env.locals m->h'.Ns X.env.locals m) (hok:HOk X.prog X.w H' h') (hg:AllBare g') :
  Inv X pins σ H' { s with heap:=h',gens:=g',drawn:=d',toks:=t' }:=by
 have neL:∀b o,X.s₀.heap.get? b=some o->b≠X.env.locals:=λb o e=>YaR (Yap (Yam e) I.ok.above);have neC:∀b o,X.s₀.heap.get? b=some o->b∉X.ex->b∉ch:=λb o e hx hb=>by
  rcases(hch b hb).1 with z|z
  ·exact hx z
  ·exact absurd (Yap (Yam e) z) (Ybh _)
 have cellK:∀x c,X.env.cells.lookup x=some c->∀v,s.heap.IsCell c v->h'.IsCell c v:=λx c e v ⟨o,ho,hd⟩=>by
  have nch:c∉ch:=λz=>(hch c z).2.2.1 x c e rfl;by_cases hc:c∈X.fs
  ·obtain⟨sl,q⟩:=slot c o (I.cne x c e) hc nch ho (I.freeC x c e);exact⟨_,q,hd⟩
  ·exact⟨o,keep c o (I.cne x c e) hc nch ho (I.freeC x c e),hd⟩
 refine⟨I.ok,I.os,hg,⟨λb o e n hb hx=>?_,λb o e n hb hx=>?_,λb o e n hx=>?_,λb o e hx=>?_,λb xs e=>tups b xs (I.base.tups b xs e),λb o xs e=>frzs b o xs (I.base.frzs b o xs e),λb ps e=>?_⟩,?_,λx c e=>?_,?_,λx c e=>?_,λp hp=>?_,hok,I.len⟩
 ·exact keep b o (neL b o e) hb (neC b o e hx) (I.base.keep b o e n hb hx) (I.base.free b o e n hx)
 ·obtain⟨sl,e1⟩:=I.base.slot b o e n hb hx;obtain⟨sl',e2⟩:=slot b _ (neL b o e) hb (neC b o e hx) e1 (I.base.free b o e n hx);exact⟨sl',e2⟩
 ·obtain⟨o',e1⟩:=I.base.there b o e hx;exact free b o' (neC b o e hx) e1 (I.base.free b o e n hx)
 ·obtain⟨o',e1⟩:=I.base.there b o e hx;exact there b o' (neC b o e hx) e1
 ·obtain⟨m1,e1⟩:=I.base.tbls b ps e;obtain⟨m2,e2⟩:=tbls b _ e1;exact⟨m1++m2,by rw[e2,Yfh]⟩
 ·obtain⟨m,hn,hl⟩:=I.loc;refine⟨m,ns m hn,λi x v e1 e2 e3=>?_⟩;obtain⟨u,r,l⟩:=hl i x v e1 e2 e3;refine⟨u,r,?_⟩;rcases l with l|⟨k,c,e,z⟩
  ·exact .inl l
  ·exact .inr ⟨k,c,e,cellK x c e _ z⟩
 ·obtain⟨v,z⟩:=I.cell x c e;exact⟨v,cellK x c e v z⟩
 ·obtain⟨m,⟨o,_,_,ho,_⟩,_⟩:=I.loc;exact free _ o (λz=>(hch _ z).2.1 rfl) ho I.free
 ·obtain⟨v,o,ho,hd⟩:=I.cell x c e;exact free c o (λz=>(hch c z).2.2.1 x c e rfl) ho (I.freeC x c e)
 ·obtain⟨e,n,ne,nf,d⟩:=I.pin p hp;have nch:p.1∉ch:=λz=>(hch p.1 z).2.2.2 p hp rfl;exact⟨keep p.1 p.2 ne nf nch e n,free p.1 p.2 nch e n,ne,nf,d⟩
theorem Inv.un   (I:Inv X pins σ H s)(u:Un X.fs [] H H' s.heap h')(hok:HOk X.prog X.w H' h'):Inv X pins σ H' { s with heap:=h',toks:=t' }:=by
 obtain⟨m,⟨o,es,ep,ho,r⟩,_⟩:=id I.loc;obtain⟨sl,hL⟩:=u.any ho I.free (by simp)
 exact I.step (g':=s.gens) (d':=s.drawn) (ch:=[]) (λ_ z=>nomatch z) (λb o _ hb _ e n=>u.keep b o e n hb (by simp)) (λb o _ hb _ e n=>u.slot b o e n hb (by simp)) (λb o _ e n=>u.free b o e n (by simp)) (λb o _ e=>u.there b o e (by simp)) u.tups u.frzs u.tbls (λm' hm=>by
  obtain⟨o',es',ep',ho',r'⟩:=hm;rw[ho]at ho';cases ho';exact⟨_,es',ep',hL,r'⟩) hok I.bare
theorem Inv.call      (I:Inv X pins σ H s)(u:Un (frs X.stack) ch H H' s.heap h')(hok:HOk X.prog X.w H' h')(hg:AllBare g')
  (hch:∀b∈ch,(b∈X.ex\/X.s₀.heap.objs.size<=b)/\b≠X.env.locals/\(∀x c,X.env.cells.lookup x=some c->c≠b)/\∀p∈X.pn++pins,p.1≠b) :
  Inv X pins σ H' { s with heap:=h',gens:=g',drawn:=d',toks:=t' }:=by
 obtain⟨m,⟨o,es,ep,ho,r⟩,_⟩:=id I.loc;obtain⟨sl,hL⟩:=u.any ho I.free λz=>(hch _ z).2.1 rfl;exact I.step (ch:=ch) hch (λb o hL hb hc e n=>u.keep b o e n (λz=>(YaM.mp (I.stkSub b z)).elim hL hb) hc) (λb o _ _ hc e n=>u.any e n hc) (λb o hc e n=>u.free b o e n hc) (λb o hc e=>u.there b o e hc) u.tups u.frzs u.tbls (λm' hm=>by
  obtain⟨o',es',ep',ho',r'⟩:=hm;rw[ho]at ho';cases ho';exact⟨_,es',ep',hL,r'⟩) hok hg
theorem Inv.turned    (I:Inv X pins σ H s)(k:∀b o,b≠it->s.heap.get? b=some o->h'.get? b=some o)(hn:H it=none)(hL:it≠X.env.locals)
  (h1:it∈X.ex\/X.s₀.heap.objs.size<=it) (h2:∀x c,X.env.cells.lookup x=some c->c≠it) (h3:∀p∈X.pn++pins,p.1≠it):Inv X pins σ H { s with heap:=h',toks:=t' }:=by
 have nit:∀b u,H b=some u->b≠it:=λb u e z=>by rw[z,hn]at e;cases e
 refine I.step (g':=s.gens) (d':=s.drawn) (ch:=[it]) (λb hb=>?_) (λb o _ _ hc e _=>k b o (λz=>hc (by simp[z])) e) (λb o _ _ hc e _=>⟨o.slots,k b o (λz=>hc (by simp[z])) e⟩) (λ_ _ _ _ n=>n)
  (λb o hc e=>⟨o,k b o (λz=>hc (by simp[z])) e⟩) (λ_ _ e=>e) (λ_ _ _ e=>e) (λb ps e=>⟨#[],by rw[e];simp⟩) (λm hm=>?_) (λb u e=>?_) I.bare
 ·have e:b=it:=by simpa using hb
  subst e;exact⟨h1,hL,h2,h3⟩
 ·obtain⟨o,es,ep,ho,r⟩:=hm;exact⟨o,es,ep,k _ o (Ne.symm hL) ho,r⟩
 ·refine(I.hok b u e).stay (λc v hc q=>k c v ?_ q) (λ_ q=>q) λ_ _ q=>q;rcases hc with z|z
  ·rw[z];exact nit b u e
  ·exact nit c _ z
theorem Inv.tok  (I:Inv X pins σ H s) t:Inv X pins σ H { s with toks:=t }:=I.un (h':=s.heap) (t':=t) Un.refl I.hok
theorem Inv.kept   (I:Inv X pins σ H s)(k:∀b u,s.heap.get? b=some u->h'.get? b=some u):Inv X pins σ H { s with heap:=h',toks:=t' }:=I.un (Un.kept k) (I.hok.kept k)
theorem Inv.laid  {a:Addr}(I:Inv X pins σ H s)(k:∀b u,s.heap.get? b=some u->h'.get? b=some u)(hp:s.heap.objs.size<=a)(new:jaE X.prog X.w (upd H a o) h' a o) :
  Inv X pins σ (upd H a o) { s with heap:=h',toks:=t' }:=I.un (Un.laid k hp (I.hok.fresh hp)) (I.hok.laid k hp new)
theorem Inv.write     (I:Inv X pins σ H s)(mu:Mut (H x))(he:e=x\/H e=some (.own x))(k:∀b u,b≠e->s.heap.get? b=some u->h'.get? b=some u)(heo:∃u,h'.get? e=some u)
  (new:jaE X.prog X.w (upd H x o) h' x o):Inv X pins σ (upd H x o) { s with heap:=h',toks:=t' }:=I.un (Un.write mu he k heo) (I.hok.write mu he k heo new)
theorem Inv.pins_of  {pins':List (Addr×Obj)}(I:Inv X pins σ H s)(h:∀p∈pins',s.heap.get? p.1=some p.2/\H p.1=none/\p.1≠X.env.locals/\p.1∉X.fs/\∀v,p.2.data≠.cell v):Inv X pins' σ H s:=
 ⟨I.ok,I.os,I.bare,I.base,I.loc,I.cell,I.free,I.freeC,λp hp=>(List.mem_append.mp hp).elim (λz=>I.pin p (YaV _ z)) (h p),I.hok,I.len⟩

theorem jdS  {N:List Str}(hN:N.Nodup){i j:Nat}(a:N[i]?=some x)(b:N[j]?=some x):i=j:=by
 obtain⟨h1,e1⟩:=List.getElem?_eq_some_iff.mp a;obtain⟨h2,e2⟩:=List.getElem?_eq_some_iff.mp b;exact(List.getElem_inj hN).mp (e1.trans e2.symm)

section
variable {M:Model}{A:Around}{E:Value->Shared->Prop}{i:Nat}{x:Str}{v:V}{u:Value}{Q:Unit->Shared->Prop}
theorem jfn (I:Inv X pins σ H s)(hN:X.N.Nodup)(hi:X.N[i]?=some x)(hx:Loc X.env.scope x)(r:RelV v u)
  (h:∀s',Inv X pins (σ.set i (some v)) H s'->(∃a,YdN a s.heap s'.heap/\(a=X.env.locals\/X.env.cells.lookup x=some a))->Q () s') (hf:X.fn x=true\/X.env.scope.names.lookup x=some .local:=by first|exact .inl rfl|exact .inr rfl|assumption):wpAny M A (storeName X.env x u) Q E s:=by
 obtain⟨m,hn,hl⟩:=id I.loc;have hcls:(X.env.scope.kind == .class||(X.env.scope.kind == .module&&X.env.locals != X.env.globals))=false:=by rw[I.ok.kind];rfl
 have hiσ:i<σ.length:=by rw[I.len];exact(List.getElem?_eq_some_iff.mp hi).1
 have cne:=I.cne;have tracked:∀{a:Addr} {h':Heap},(∃o,s.heap.get? a=some o/\H a=none)->YdN a s.heap h'->HOk X.prog X.w H h':=λ{a h'} ha hs b ob e=>by
  obtain⟨_,_,hfree⟩:=ha;refine(I.hok b ob e).stay (λc w' hc q=>(hs.2 c ?_).trans q) (λ_ q=>q) λ_ _ q=>q;rintro rfl;rcases hc with rfl|hc
  ·rw[hfree]at e;cases e
  ·rw[hfree]at hc;cases hc
 rcases hx with hk|hk
 ·refine wpAny_storeName_local hk hn (λh' hn' hs=>?_) hcls;obtain⟨oL,_,_,hoL,_⟩:=id hn;refine h _ ⟨I.ok,I.os,I.bare,⟨λb o e n hb hx=>?_,λb o e n hb hx=>?_,I.base.free,λb o e hx=>?_,I.base.tups,I.base.frzs,I.base.tbls⟩,⟨_,hn',λj y v' e1 e2 e3=>?_⟩,λy c e=>?_,I.free,I.freeC,λp hp=>?_,tracked ⟨oL,hoL,I.free⟩ hs,by simpa using I.len⟩ ⟨_,hs,.inl rfl⟩
  ·exact(hs.2 b (YaR (Yap (Yam e) I.ok.above))).trans (I.base.keep b o e n hb hx)
  ·obtain⟨sl,e1⟩:=I.base.slot b o e n hb hx;exact⟨sl,(hs.2 b (YaR (Yap (Yam e) I.ok.above))).trans e1⟩
  ·obtain⟨o',e1⟩:=I.base.there b o e hx;exact⟨o',(hs.2 b (YaR (Yap (Yam e) I.ok.above))).trans e1⟩
  ·by_cases hj:j=i
   ·subst hj;rw[hi]at e1;cases e1;rw[Ybk hiσ]at e2;cases e2;exact⟨u,r,.inl ⟨hk,by simp⟩⟩
   ·rw[YaW (Ne.symm hj)]at e2;obtain⟨u',r',q⟩:=hl j y v' e1 e2 e3;refine⟨u',r',?_⟩;rcases q with⟨k,e⟩|⟨k,c,e,z⟩
    ·refine .inl ⟨k,?_⟩;have:y≠x:=λe=>hj (jdS hN e1 (e ▸ hi));simp[this,e]
    ·exact .inr ⟨k,c,e,z.sameBut hs (cne y c e)⟩
  ·obtain⟨w',z⟩:=I.cell y c e;exact⟨w',z.sameBut hs (cne y c e)⟩
  ·obtain⟨e,n,ne,nf,d⟩:=I.pin p hp;exact⟨(hs.2 p.1 ne).trans e,n,ne,nf,d⟩
 ·have hfn:X.fn x=true:=by
   rcases hf with z|z
   ·exact z
   ·rw[z]at hk;cases hk
  obtain⟨c,hc⟩:=I.ok.has x (.inl hk);obtain⟨w',z⟩:=I.cell x c hc;refine wpAny_storeName_cell I.ok.kind hk hc z (λh' hc' hs=>?_);obtain⟨oc,hoc,hocd⟩:=id z;refine h { s with heap:=h' } ⟨I.ok,I.os,I.bare,⟨λb o e n hb hx=>?_,λb o e n hb hx=>?_,I.base.free,λb o e hx=>?_,I.base.tups,I.base.frzs,I.base.tbls⟩,⟨m,hn.sameBut hs (Ne.symm (cne x c hc)),λj y v' e1 e2 e3=>?_⟩,λy c' e=>?_,I.free,I.freeC,λp hp=>?_,tracked ⟨oc,hoc,I.freeC x c hc⟩ hs,by simpa using I.len⟩ ⟨c,hs,.inr hc⟩
  ·exact(hs.2 b (YaR (Yap (Yam e) (I.ok.cab x c hfn hc)))).trans (I.base.keep b o e n hb hx)
  ·obtain⟨sl,e1⟩:=I.base.slot b o e n hb hx;exact⟨sl,(hs.2 b (YaR (Yap (Yam e) (I.ok.cab x c hfn hc)))).trans e1⟩
  ·obtain⟨o',e1⟩:=I.base.there b o e hx;exact⟨o',(hs.2 b (YaR (Yap (Yam e) (I.ok.cab x c hfn hc)))).trans e1⟩
  ·by_cases hj:j=i
   ·subst hj;rw[hi]at e1;cases e1;rw[Ybk hiσ]at e2;cases e2;exact⟨u,r,.inr ⟨.inl hk,c,hc,hc'⟩⟩
   ·rw[YaW (Ne.symm hj)]at e2;obtain⟨u',r',q⟩:=hl j y v' e1 e2 e3;refine⟨u',r',?_⟩;rcases q with q|⟨k,c',e,z'⟩
    ·exact .inl q
    ·refine .inr ⟨k,c',e,z'.sameBut hs ?_⟩;rintro rfl;exact hj (jdS hN e1 (I.ok.inj _ _ _ e hc ▸ hi))
  ·by_cases hcc:c'=c
   ·subst hcc;exact⟨_,hc'⟩
   ·obtain⟨w2,z2⟩:=I.cell y c' e;exact⟨w2,z2.sameBut hs hcc⟩
  ·obtain⟨e,n,ne,nf,d⟩:=I.pin p hp;refine⟨(hs.2 p.1 ?_).trans e,n,ne,nf,d⟩;intro q;rw[q,hoc]at e;have q':oc=p.2:=Yar e;exact d w' (by rw[<- q'];exact hocd)
theorem jbm (I:Inv X pins σ H s)(hN:X.N.Nodup)(hi:X.N[i]?=some x)(hx:Loc X.env.scope x)(r:RelV v u)
  (h:∀s',Inv X pins (σ.set i (some v)) H s'->Q () s') (hf:X.fn x=true\/X.env.scope.names.lookup x=some .local:=by first|exact .inl rfl|exact .inr rfl|assumption):wpAny M A (storeName X.env x u) Q E s:=
 jfn I hN hi hx r (λs' I' _=>h s' I') hf
end
theorem Inv.call'    (I:Inv X pins σ H s)(ho:s'.os=s.os)(u:Un (frs X.stack) ch H H' s.heap s'.heap)(hok:HOk X.prog X.w H' s'.heap)(hg:AllBare s'.gens)
  (hch:∀b∈ch,(b∈X.ex\/X.s₀.heap.objs.size<=b)/\b≠X.env.locals/\(∀x c,X.env.cells.lookup x=some c->c≠b)/\∀p∈X.pn++pins,p.1≠b):Inv X pins σ H' s':=by
 obtain⟨h',g',d',t',o'⟩:=s';have e:o'=s.os:=ho;subst e;exact I.call (g':=g') (t':=t') (d':=d') u hok hg hch
end

abbrev XK:=Value->Option Addr->Hp->Prop
abbrev St:=List (Option V)
abbrev VK:=V->Hp->Prop
abbrev TE:=St->Hp->VK->Prop
abbrev TT:=St->Hp->(Bool->Hp->Prop)->Prop
abbrev TA:=St->Hp->(List V->Hp->Prop)->Prop
structure Ends where
 nx:St->Hp->Prop
 rt:VK
 bk:St->Hp->Prop:=λ_ _=>False
 ct:St->Hp->Prop:=λ_ _=>False
abbrev TS:=Ends->St->Hp->Prop

def EP  (X:Cx)(pins:List (Addr×Obj))(σ:St)(Q:VK)(u:Value)(s':Shared):Prop:=∃v H',Inv X pins σ H' s'/\RelV v u/\Q v H'
def TP  (X:Cx)(pins:List (Addr×Obj))(σ:St)(Q:Bool->Hp->Prop)(b:Bool)(s':Shared):Prop:=∃H',Inv X pins σ H' s'/\Q b H'
def AP  (X:Cx)(pins:List (Addr×Obj))(σ:St)(Q:List V->Hp->Prop)(us:List Value)(s':Shared):Prop:=∃vs H',Inv X pins σ H' s'/\Vals vs us/\Q vs H'
def SP  (X:Cx)(pins:List (Addr×Obj))(D:Ends)(f:Flow)(s':Shared):Prop:=
 match f with
 |.next=>∃σ' H',Inv X pins σ' H' s'/\D.nx σ' H'
 |.brk=>∃σ' H',Inv X pins σ' H' s'/\D.bk σ' H'
 |.cont=>∃σ' H',Inv X pins σ' H' s'/\D.ct σ' H'
 |.ret u=>∃v σ' H',Inv X pins σ' H' s'/\RelV v u/\D.rt v H'

def PE  (X:Cx)(e:Expr)(t:TE):Prop:=
 ∀(pins:List (Addr×Obj)) (s:Shared) (σ:St) (H:Hp) (Q:VK),Inv X pins σ H s->t σ H Q->wpAny (model X.prog X.w) X.A (eval e X.env) (EP X pins σ Q) X.xe s
def PT  (X:Cx)(e:Expr)(t:TT):Prop:=
 ∀(pins:List (Addr×Obj)) (s:Shared) (σ:St) (H:Hp) (Q:Bool->Hp->Prop),Inv X pins σ H s->t σ H Q->wpAny (model X.prog X.w) X.A (isTrue e X.env (eval e X.env)) (TP X pins σ Q) X.xe s
def PW  (X:Cx)(e:Expr)(t:TT):Prop:=
 ∀(whole:Sem Value) (pins:List (Addr×Obj)) (s:Shared) (σ:St) (H:Hp) (Q:Bool->Hp->Prop),Inv X pins σ H s->t σ H Q->wpAny (model X.prog X.w) X.A (isTrue e X.env whole) (TP X pins σ Q) X.xe s
theorem PW.pt     (h:PW X e t):PT X e t:=h _
def PA  (X:Cx)(es:List Expr)(t:TA):Prop:=
 ∀(pos:Pos) (pins:List (Addr×Obj)) (s:Shared) (σ:St) (H:Hp) (Q:List V->Hp->Prop),Inv X pins σ H s->t σ H Q->wpAny (model X.prog X.w) X.A (spliced (backTo pos (Yat es X.env))) (AP X pins σ Q) X.xe s
def PS  (X:Cx)(st:Stmt)(t:TS):Prop:=
 ∀(pins:List (Addr×Obj)) (s:Shared) (σ:St) (H:Hp) (D:Ends),Inv X pins σ H s->t D σ H->wpAny (model X.prog X.w) X.A (exec st X.env) (SP X pins D) X.xe s
def PSs  (X:Cx)(st:List Stmt)(t:TS):Prop:=
 ∀(pins:List (Addr×Obj)) (s:Shared) (σ:St) (H:Hp) (D:Ends),Inv X pins σ H s->t D σ H->wpAny (model X.prog X.w) X.A (execs st X.env) (SP X pins D) X.xe s
theorem thn    {Q Q':α->Shared->Prop}(h:wpAny M A t Q E s)(hQ:∀a s,Q a s->Q' a s):wpAny M A t Q' E s:=YaL h hQ λ_ _ x=>x
section
variable {X:Cx}

def tVar  (i:Nat):TE:=λσ H Q=>∃v,σ[i]?=some (some v)/\Q v H
def tC  (v:V):TE:=λ_ H Q=>Q v H
theorem jb2 {i:Nat}{x:Str}{pos:Pos}(hN:X.N[i]?=some x)(hv:Vis X.env.scope x)(hd:(x==("__debug__" : Str))=false:=by decide)(hcd:(x==("__classdict__" : Str))=false:=by decide):PE X (.Name x pos) (tVar i):=by
 intro pins s σ H Q I h;obtain⟨v,e,h⟩:=h;obtain⟨m,hn,hl⟩:=I.loc;obtain⟨u,r,l⟩:=hl i x v hN e hv;have fin:EP X pins σ Q u s:=⟨v,H,I,r,h⟩;rcases l with⟨hk,hm⟩|⟨hk,c,hc,hcell⟩
 ·exact wpAny_Name (wpAny_loadName_local I.ok.kind hk hn hm fin) hd
 ·rcases hk with hk|hk
  ·exact wpAny_Name (wpAny_loadName_cell I.ok.kind hk hc hcell fin) hd
  ·exact wpAny_Name (wpAny_loadName_free I.ok.kind hk hc hcell fin hcd) hd
theorem jnn   : PE X (.Constant (.int i) j pos) (tC (.int i)):=λ_ _ _ H _ I h=>wpAny_Constant_int ⟨.int i,H,I.tok _,⟨_,rfl⟩,h⟩
theorem jno   : PE X (.Constant (.bool b) j pos) (tC (.bl b)):=λ_ _ _ H _ I h=>Constant_bool ⟨.bl b,H,I,rfl,h⟩
theorem jnl   : PE X (.Constant .none j pos) (tC .non):=λ_ _ _ H _ I h=>Constant_none ⟨.non,H,I,rfl,h⟩
theorem jkw   : PE X (.Constant (.str x) j pos) (tC (.str x)):=λ_ _ _ H _ I h=>Calls.Constant_str ⟨.str x,H,I.tok _,⟨_,rfl⟩,h⟩

def Gl  (X:Cx)(x:Str):Prop:=X.env.kindOf x=some .globalImplicit
section
variable {E:Value->Shared->Prop}{pins:List (Addr×Obj)}{s:Shared}{σ:St}{H:Hp}{x:Str}{u:Value}{pos:Pos}{Q:Value->Shared->Prop}
theorem jdg (I:Inv X pins σ H s)(hg:Gl X x)(hm:X.mg x=some u)(h:Q u s)
  (hd:(x==("__debug__" : Str))=false:=by decide):wpAny (model X.prog X.w) X.A (eval (.Name x pos) X.env) Q E s:=
 Yec I.ok.kind hg (Calls.loadGlobal_global (by rw[I.ok.glob];exact I.mod.glob.keeps I.bk) hm h) hd
theorem jg3 (I:Inv X pins σ H s)(hg:Gl X x)(hm:X.mg x=none)(hv:YbP x=some u)(h:Q u s)
  (hn:x ≠ "__name__" := by decide) (hd:(x==("__debug__" : Str))=false:=by decide):wpAny (model X.prog X.w) X.A (eval (.Name x pos) X.env) Q E s:=by
 obtain⟨mb,h1,h2⟩:=I.mod.blt;exact Yec I.ok.kind hg (Calls.loadGlobal_builtin (by rw[I.ok.glob];exact I.mod.glob.keeps I.bk) hm (by rw[I.ok.blt];exact h1.keeps I.bk) ((h2 x hn).trans hv) h) hd
end
section
variable {x:Str}{v:V}{u:Value}{pos:Pos}
theorem jf7 (hg:Gl X x)(hm:X.mg x=some u)(r:RelV v u)(hd:(x==("__debug__" : Str))=false:=by decide):PE X (.Name x pos) (tC v):=
 λ_ _ _ H _ I h=>jdg I hg hm ⟨v,H,I,r,h⟩ hd
theorem jiq (hg:Gl X x)(hm:X.mg x=none)(hv:YbP x=some u)(r:RelV v u)(hn:x ≠ "__name__" := by decide)(hd:(x==("__debug__" : Str))=false:=by decide):PE X (.Name x pos) (tC v):=
 λ_ _ _ H _ I h=>jg3 I hg hm hv ⟨v,H,I,r,h⟩ hn hd

end
variable {a b:Expr}{ta tb:TE}{pos:Pos}
def tB  (t:TE):TT:=λσ H Q=>t σ H λx H1=>∃c,x=.bl c/\Q c H1
theorem jm8 {e:Expr}{t:TE}(h:PE X e t)(he:∀whole,isTrue e X.env whole=(do let v <- whole;standAt e.pos;holding [v] (truthy v)):=by intro _;rfl):PT X e (tB t):=by
 intro pins s σ H Q I hw;refine isTrue_plain (thn (h pins s σ H _ I hw) λv s1 ⟨x,H1,I1,r1,q1⟩=>?_) (he _);obtain⟨d,rfl,q⟩:=q1;cases r1;exact YaX ⟨H1,I1,q⟩

def tAnd  (t u:TT):TT:=λσ H Q=>t σ H λc H1=>if c=true then u σ H1 Q else Q false H1
def tOr  (t u:TT):TT:=λσ H Q=>t σ H λc H1=>if c=true then Q true H1 else u σ H1 Q
def tNot  (t:TT):TT:=λσ H Q=>t σ H λc H1=>Q (!c) H1
theorem pw_and1  (ha:PT X a tA):PW X (.BoolOp .And [a] pos) tA:=by
 intro wh pins s σ H Q I h;refine isTrue_and (thn (ha pins s σ H Q I h) λc s1 e=>?_);cases c with
 |true=>exact isTrue_and_nil e
 |false=>exact e
theorem pw_or1  (ha:PT X a tA):PW X (.BoolOp .Or [a] pos) tA:=by
 intro wh pins s σ H Q I h;refine isTrue_or (thn (ha pins s σ H Q I h) λc s1 e=>?_);cases c with
 |false=>exact isTrue_or_nil e
 |true=>exact e
theorem pw_and  {rest: List Expr}(ha:PT X a tA)(hb:PW X (.BoolOp .And (b::rest) pos) tB'):PW X (.BoolOp .And (a::b::rest) pos) (tAnd tA tB'):=by
 intro wh pins s σ H Q I h;refine isTrue_and (thn (ha pins s σ H _ I h) λc s1 ⟨H1,I1,q1⟩=>?_);cases c with
 |true=>exact hb wh pins s1 σ H1 Q I1 q1
 |false=>exact⟨H1,I1,q1⟩
theorem pw_or  {rest: List Expr}(ha:PT X a tA)(hb:PW X (.BoolOp .Or (b::rest) pos) tB'):PW X (.BoolOp .Or (a::b::rest) pos) (tOr tA tB'):=by
 intro wh pins s σ H Q I h;refine isTrue_or (thn (ha pins s σ H _ I h) λc s1 ⟨H1,I1,q1⟩=>?_);cases c with
 |true=>exact⟨H1,I1,q1⟩
 |false=>exact hb wh pins s1 σ H1 Q I1 q1
theorem jkv  (ha:PT X a tA):PT X (.UnaryOp .Not a pos) (tNot tA):=by
 intro pins s σ H Q I h;exact isTrue_not (ha pins s σ H (λc H1=>Q (!c) H1) I h)
def jo6  (ta tb:TE):TE:=λσ H Q=>ta σ H λx H1=>∃c,x=.bl c/\if c=true then tb σ H1 Q else Q (.bl false) H1
def tOrV  (ta tb:TE):TE:=λσ H Q=>ta σ H λx H1=>∃c,x=.bl c/\if c=true then Q (.bl true) H1 else tb σ H1 Q
def jo1  (ta:TE):TE:=λσ H Q=>ta σ H λx H1=>∃c,x=.bl c/\Q (.bl (!c)) H1
theorem jgV    (h:PE X a t):PE X (.BoolOp op [a] pos) t:=λpins s σ H Q I hw=>BoolOp_one (h pins s σ H Q I hw)
theorem jnp  {rest: List Expr}(ha:PE X a ta)(hb:PE X (.BoolOp .And (b::rest) pos) tb):PE X (.BoolOp .And (a::b::rest) pos) (jo6 ta tb):=by
 intro pins s σ H Q I h;refine BoolOp_and (thn (ha pins s σ H _ I h) λv s1 ⟨x,H1,I1,r1,q1⟩=>?_);obtain⟨c,rfl,q1⟩:=q1;cases r1;refine YaX ?_;cases c with
 |true=>exact hb pins s1 σ H1 Q I1 q1
 |false=>exact⟨.bl false,H1,I1,rfl,q1⟩
theorem jpl  {rest: List Expr}(ha:PE X a ta)(hb:PE X (.BoolOp .Or (b::rest) pos) tb):PE X (.BoolOp .Or (a::b::rest) pos) (tOrV ta tb):=by
 intro pins s σ H Q I h;refine BoolOp_or (thn (ha pins s σ H _ I h) λv s1 ⟨x,H1,I1,r1,q1⟩=>?_);obtain⟨c,rfl,q1⟩:=q1;cases r1;refine YaX ?_;cases c with
 |false=>exact hb pins s1 σ H1 Q I1 q1
 |true=>exact⟨.bl true,H1,I1,rfl,q1⟩
theorem jnk  (ha:PE X a ta):PE X (.UnaryOp .Not a pos) (jo1 ta):=by
 intro pins s σ H Q I h;refine UnaryOp_ (thn (ha pins s σ H _ I h) λv s1 ⟨x,H1,I1,r1,q1⟩=>?_);obtain⟨c,rfl,q1⟩:=q1;cases r1;exact not_of (YaX ⟨.bl (!c),H1,I1,rfl,q1⟩)
def tIf  (t:TT)(ta tb:TE):TE:=λσ H Q=>t σ H λc H1=>if c=true then ta σ H1 Q else tb σ H1 Q
theorem jjQ   (hc:PT X c tA)(ha:PE X a ta)(hb:PE X b tb):PE X (.IfExp c a b pos) (tIf tA ta tb):=by
 intro pins s σ H Q I h;refine wpAny_IfExp (thn (hc pins s σ H _ I h) λd s1 ⟨H1,I1,q1⟩=>?_);cases d with
 |true=>exact ha pins s1 σ H1 Q I1 q1
 |false=>exact hb pins s1 σ H1 Q I1 q1
end

def SqL  (K:Yab)(H:Hp)(a:Addr)(xs:List V):Prop:=
 Rd H a (.lst xs)\/
  ∃(o:Obj) (its:Array Value) (n:Nat),K.lookup a=some o/\o.cls=.type "list" /\ o.dict=none/\o.data=.seq its n/\its.size<=Yag/\Vals xs its.toList
def SqT  (K:Yab)(H:Hp)(a:Addr)(xs:List V):Prop:=
 Rd H a (.tup xs)\/
  ∃(o:Obj) (its:Array Value) (n:Nat),K.lookup a=some o/\o.cls=.type "tuple" /\ o.data=.seq its n/\its.size<=Yag/\Vals xs its.toList
noncomputable def absV  : Value->Option V
 |.none=>some .non
 |.bool b=>some (.bl b)
 |.int i _=>some (.int i)
 |.str x _=>some (.str x)
 |.bytes b _=>some (.byt b)
 |.float b _=>some (.flt b)
 |.ref a=>some (.ref a)
 |.type n=>some (.ty n)
 |_=>none
theorem RelV.abs    (r:RelV x u):absV u=some x:=by
 cases x with
 |non=>cases r;rfl
 |bl _=>cases r;rfl
 |int _=>obtain⟨t,rfl⟩:=r;rfl
 |str _=>obtain⟨t,rfl⟩:=r;rfl
 |byt _=>obtain⟨t,rfl⟩:=r;rfl
 |flt _=>obtain⟨t,rfl⟩:=r;rfl
 |ref _=>cases r;rfl
 |ty _=>cases r;rfl
theorem RelV.inj    (r:RelV x u)(q:RelV y u):x=y:=Yar (r.abs.symm.trans q.abs)
theorem Vals.inj  : ∀{xs ys } {us },Vals xs us->Vals ys us->xs=ys
 |_,_,_,.nil,.nil=>rfl
 |_,_,_,.cons r t,.cons r' t'=>by rw[r.inj r',Vals.inj t t']

theorem SqL.of  {K:Yab}(h:H a=some (.lst xs)):SqL K H a xs:=.inl (.inl h)
theorem SqT.of  {K:Yab}(h:H a=some (.tup xs)):SqT K H a xs:=.inl (.inl h)
theorem Inv.list  {σ: St}(I:Inv X pins σ H s)(h:SqL X.K H a xs):∃its ,Vals xs its/\PlainL s.heap a its.toArray/\xs.length<=Yag:=by
 rcases h with h|⟨o,its,n,hk,hc,hd,hs,hz,r⟩
 ·obtain⟨z,its,n,r,e⟩:=h.ok I.hok;exact⟨its,r,⟨_,n,e,rfl,rfl,rfl⟩,z⟩
 ·refine⟨its.toList,r,⟨o,n,I.kIn a o hk,hc,hd,by simpa using hs⟩,?_⟩
  have e:=r.length;simp only[Ydl]at e
  lia
theorem Inv.tuple  {σ: St}(I:Inv X pins σ H s)(h:SqT X.K H a xs):∃its ,Vals xs its/\IsTup s.heap a its.toArray/\xs.length<=Yag:=by
 rcases h with h|⟨o,its,n,hk,hc,hs,hz,r⟩
 ·obtain⟨z,its,r,p⟩:=h.ok I.hok;exact⟨its,r,p.tup,z⟩
 ·refine⟨its.toList,r,⟨o,I.kIn a o hk,hc,n,by simpa using hs⟩,?_⟩
  have e:=r.length;simp only[Ydl]at e
  lia
theorem Inv.list_inj  {σ: St}(I:Inv X pins σ H s)(h:SqL X.K H a xs)(h':SqL X.K H a ys):xs=ys:=by
 obtain⟨its,r,⟨o,n,e,_,_,d⟩,_⟩:=I.list h;obtain⟨its',r',⟨o',n',e',_,_,d'⟩,_⟩:=I.list h';rw[e]at e';cases e';rw[d]at d';injection d' with d1 _
 have:its=its':=by simpa using congrArg Array.toList d1
 subst this;exact r.inj r'
theorem Inv.tuple_inj  {σ: St}(I:Inv X pins σ H s)(h:SqT X.K H a xs)(h':SqT X.K H a ys):xs=ys:=by
 obtain⟨its,r,⟨o,e,_,n,d⟩,_⟩:=I.tuple h;obtain⟨its',r',⟨o',e',_,n',d'⟩,_⟩:=I.tuple h';rw[e]at e';cases e';rw[d]at d';injection d' with d1 _
 have:its=its':=by simpa using congrArg Array.toList d1
 subst this;exact r.inj r'

noncomputable abbrev Cx.wish  (X:Cx)(E:Value->Shared->Prop):Cx:={ X with xe:=E }
theorem Cx.Ok.wish  {X:Cx}(ok:X.Ok) E:(X.wish E).Ok:=
 ⟨ok.mod,ok.kind,ok.glob,ok.blt,ok.above,ok.inj,ok.has,ok.cab,ok.hd,ok.frames,ok.stk,ok.exf,ok.bs,ok.bsz,ok.noex,ok.exfs,ok.funs,ok.frf⟩
theorem Cx.Ok.unwish  {X:Cx}(ok:(X.wish E).Ok):X.Ok:=
 ⟨ok.mod,ok.kind,ok.glob,ok.blt,ok.above,ok.inj,ok.has,ok.cab,ok.hd,ok.frames,ok.stk,ok.exf,ok.bs,ok.bsz,ok.noex,ok.exfs,ok.funs,ok.frf⟩
section
variable {X:Cx}{pins:List (Addr×Obj)}{σ:St}{H:Hp}{s:Shared}{E:Value->Shared->Prop}
theorem Inv.wish  (I:Inv X pins σ H s) E:Inv (X.wish E) pins σ H s:=⟨I.ok.wish E,I.os,I.bare,I.base,I.loc,I.cell,I.free,I.freeC,I.pin,I.hok,I.len⟩
theorem Inv.unwish  (I:Inv (X.wish E) pins σ H s):Inv X pins σ H s:=⟨I.ok.unwish,I.os,I.bare,I.base,I.loc,I.cell,I.free,I.freeC,I.pin,I.hok,I.len⟩
theorem SP.unwish     (h:SP (X.wish E) pins D f s'):SP X pins D f s':=by
 cases f with
 |next=>obtain⟨σ',H',I,q⟩:=h;exact⟨σ',H',I.unwish,q⟩
 |brk=>obtain⟨σ',H',I,q⟩:=h;exact⟨σ',H',I.unwish,q⟩
 |cont=>obtain⟨σ',H',I,q⟩:=h;exact⟨σ',H',I.unwish,q⟩
 |ret u=>obtain⟨v,σ',H',I,r,q⟩:=h;exact⟨v,σ',H',I.unwish,r,q⟩
end

section
variable {X:Cx}{st:Stmt}{rest:List Stmt}{t u:TS}{e:Expr}{te:TE}{pos:Pos}
def jo3  : TS:=λD σ H=>D.nx σ H
def tSeq  (t u:TS):TS:=λD σ H=>t { D with nx:=u D } σ H
theorem jf5  : PSs X [] jo3:=λ_ _ σ H _ I h=>YcM ⟨σ,H,I,h⟩
theorem jeW  (h1:PS X st t)(h2:PSs X rest u):PSs X (st::rest) (tSeq t u):=by
 intro pins s σ H D I h;refine YbV (thn (h1 pins s σ H { D with nx:=u D } I h) λf s1 q=>?_)
 cases f with
 |next=>
  obtain⟨σ',H',I',q⟩:=q;exact h2 pins s1 σ' H' D I' q
 |ret v=>exact q
 |brk=>exact q
 |cont=>exact q
theorem jlp  (h1:PS X st t):PSs X [st] t:=by
 intro pins s σ H D I h;refine YbV (thn (h1 pins s σ H D I h) λf s1 q=>?_);cases f with
 |next=>exact YcM q
 |ret v=>exact q
 |brk=>exact q
 |cont=>exact q
theorem Inv.quiet   {σ:St}(I:Inv X pins σ H s):interactive X.env=false:=by simp[interactive,I.ok.kind]
def jo4  (te:TE):TS:=λD σ H=>te σ H λ_ H1=>D.nx σ H1
theorem jlr (he:PE X e te)(hs:Ycd e none pos.line X.env=pure false:=by rfl):PS X (.Expr e pos) (jo4 te):=by
 intro pins s σ H D I h;exact wpAny_Expr_any (thn (he pins s σ H _ I h) λv s1 ⟨x,H1,I1,r1,q1⟩=>⟨σ,H1,I1,q1⟩) I.quiet hs
def tRet  (te:TE):TS:=λD σ H=>te σ H D.rt
theorem jm9  (he:PE X e te):PS X (.Return (some e) pos) (tRet te):=by
 intro pins s σ H D I h;exact wpAny_Return_some (thn (he pins s σ H _ I h) λv s1 ⟨x,H1,I1,r1,q1⟩=>⟨x,σ,H1,I1,r1,q1⟩)
def tIfS  (c:TT)(t u:TS):TS:=λD σ H=>c σ H λb H1=>if b=true then t D σ H1 else u D σ H1
theorem jnc     (hc:PT X c tc)(ha:PSs X a t)(hb:PSs X b u):PS X (.If c a b pos) (tIfS tc t u):=by
 intro pins s σ H D I h;refine wpAny_If (thn (hc pins s σ H _ I h) λd s1 ⟨H1,I1,q1⟩=>?_);cases d with
 |true=>exact ha pins s1 σ H1 D I1 q1
 |false=>exact hb pins s1 σ H1 D I1 q1
end

abbrev TG:=V->St->Hp->(St->Hp->Prop)->Prop
abbrev TGs:=List V->St->Hp->(St->Hp->Prop)->Prop
def PG  (X:Cx)(target:Expr)(t:TG):Prop:=
 ∀(pins:List (Addr×Obj)) (s:Shared) (σ:St) (H:Hp) (v:V) (u:Value) (Q:St->Hp->Prop),Inv X pins σ H s->RelV v u->t v σ H Q->
  wpAny (model X.prog X.w) X.A (assign target X.env u) (λ_ s'=>∃σ' H',Inv X pins σ' H' s'/\Q σ' H') X.xe s
def PGs  (X:Cx)(ts:List Expr)(t:TGs):Prop:=
 ∀(pins:List (Addr×Obj)) (s:Shared) (σ:St) (H:Hp) (vs:List V) (us:List Value) (Q:St->Hp->Prop),Inv X pins σ H s->Vals vs us->t vs σ H Q->
  wpAny (model X.prog X.w) X.A (Yfp ((Ybd ts X.env).map (·.2)) us) (λ_ s'=>∃σ' H',Inv X pins σ' H' s'/\Q σ' H') X.xe s
abbrev TSet:=V->V->V->Hp->(Hp->Prop)->Prop
def PSet  (X:Cx)(t:TSet):Prop:=
 ∀(pins:List (Addr×Obj)) (s:Shared) (σ:St) (H:Hp) (o i v:V) (ov iv u:Value) (Q:Hp->Prop),Inv X pins σ H s->RelV o ov->RelV i iv->RelV v u->t o i v H Q->
  wpAny (model X.prog X.w) X.A (setItem ov iv u) (λ_ s'=>∃H',Inv X pins σ H' s'/\Q H') X.xe s
abbrev TIp:=V->V->Hp->VK->Prop
def PIp  (X:Cx)(op:Yd5)(t:TIp):Prop:=
 ∀(pins:List (Addr×Obj)) (s:Shared) (σ:St) (H:Hp) (x y:V) (v u:Value) (Q:VK),Inv X pins σ H s->RelV x v->RelV y u->t x y H Q->
  wpAny (model X.prog X.w) X.A (YdY op v u) (EP X pins σ Q) X.xe s
section
variable {X:Cx}{pos:Pos}
def ji2  (i:Nat):TG:=λv σ H Q=>Q (σ.set i (some v)) H
theorem jf6 {i:Nat}{x:Str}(hN:X.N.Nodup)(hi:X.N[i]?=some x)(hx:Loc X.env.scope x)(hf:X.fn x=true\/X.env.scope.names.lookup x=some .local:=by first|exact .inl rfl|exact .inr rfl|assumption):PG X (.Name x pos) (ji2 i):=by
 intro pins s σ H v u Q I r h;exact wpAny_assign_Name (jbm I hN hi hx r (λs' I'=>⟨_,H,I',h⟩) hf)
def gNil  : TGs:=λvs σ H Q=>vs=[]/\Q σ H
def jpF  (t:TG)(u:TGs):TGs:=λvs σ H Q=>∃v r,vs=v::r/\t v σ H λσ' H'=>u r σ' H' Q
theorem jly  : PGs X [] gNil:=by
 intro pins s σ H vs us Q I r h;obtain⟨e,h⟩:=h;subst e;cases r;exact assignInOrder_nil ⟨σ,H,I,h⟩
theorem jjO {e:Expr}{es:List Expr}{t:TG}{u:TGs}(h1:PG X e t)(h2:PGs X es u)
  (hs:(Ybd (e::es) X.env).map (·.2)=assign e X.env::(Ybd es X.env).map (·.2):=by rfl):PGs X (e::es) (jpF t u):=by
 intro pins s σ H vs us Q I r h;obtain⟨v,vr,e1,h⟩:=h;subst e1;cases r with
 |cons r rr=>
  rw[hs];refine Yd0 (thn (h1 pins s σ H _ _ _ I r h) λ_ s1 ⟨σ1,H1,I1,q1⟩=>?_);exact h2 pins s1 σ1 H1 _ _ Q I1 rr q1
def gTup  (K:Yab)(n:Nat)(t:TGs):TG:=λv σ H Q=>∃a xs,v=.ref a/\SqT K H a xs/\xs.length=n/\t xs σ H Q
theorem jnh {es:List Expr}{k:Nat}{t:TGs}{n:Nat}(hc:X.calm=true)(h:PGs X es t)
  (hn:(Ybd es X.env).length=n:=by rfl) (hst:(Ybd es X.env).findIdx? (·.1)=none:=by rfl):PG X (.Tuple es k pos) (gTup X.K n t):=by
 intro pins s σ H v u Q I r hw;obtain⟨a,xs,e1,hq,hl,hw⟩:=hw;subst e1;cases r;obtain⟨its,rv,ht,hz⟩:=I.tuple hq;refine assign_Tuple_tuple (I.ok.hd hc) ht (by simp[hn,<- hl,rv.length]) hst λh' hx=>?_
 have I1:Inv X pins σ H { s with heap:=h' }:=I.kept (t':=s.toks) λb o e=>hx b o (YaR (Yam e)) e
 exact h pins _ σ H xs _ Q I1 (by simpa using rv) hw
def gSub  (to ti:TE)(t:TSet):TG:=λv σ H Q=>to σ H λo H1=>ti σ H1 λi H2=>t o i v H2 λH3=>Q σ H3
theorem jni {o i:Expr}{to ti:TE}{t:TSet}(ho:PE X o to)(hi:PE X i ti)(hs:PSet X t)
  (ha:∀v,assign (.Subscript o i pos) X.env v=(do
   let ov <- holding [v] (eval o X.env)
   let iv <- holding [v,ov] (eval i X.env)
   standAt pos
   holding [v,ov,iv] (setItem ov iv v)
   release [v,ov,iv] []):=by intro _;rfl):PG X (.Subscript o i pos) (gSub to ti t):=by
 intro pins s σ H v u Q I r h;rw[ha];refine Yac (Yb8 (thn (ho pins s σ H _ I h) λov s1 ⟨x,H1,I1,r1,q1⟩=>?_));refine Yac (Yb8 (thn (hi pins s1 σ H1 _ I1 q1) λiv s2 ⟨y,H2,I2,r2,q2⟩=>?_));refine Yac (Yb7 (Yac (Yb8 (thn (hs pins s2 σ H2 x y v ov iv u _ I2 r1 r2 r q2) λ_ s3 ⟨H3,I3,q3⟩=>?_))));exact wpAny_release ⟨σ,H3,I3,q3⟩
def tAsg  (te:TE)(g:TG):TS:=λD σ H=>te σ H λx H1=>g x σ H1 D.nx
theorem jil {tg e:Expr}{te:TE}{g:TG}(he:PE X e te)(hg:PG X tg g)(hs:Ybx [tg] e pos.line X.env=pure false:=by rfl)(hw:Ybe [tg] e X.env=pure none:=by rfl)
  (h1:(Ybd [tg] X.env).map (·.2)=[assign tg X.env]:=by rfl):PS X (.Assign [tg] e pos) (tAsg te g):=by
 intro pins s σ H D I h;refine wpAny_Assign_stores (thn (he pins s σ H _ I h) λv s1 ⟨x,H1,I1,r1,q1⟩=>?_) hs hw;rw[h1];exact thn (hg pins s1 σ H1 x v _ I1 r1 q1) λ_ s2 q=>q
def tPar  (i j:Nat)(ta:TA):TS:=λD σ H=>ta σ H λvs H1=>∃v w,vs=[v,w]/\D.nx ((σ.set i (some v)).set j (some w)) H1
theorem jna {i j:Nat}{x y:Str}{a b:Expr}{ta:TA}{px py pt:Pos}{kt k2 pt2}(hc:X.calm=true)(hN:X.N.Nodup)(hi:X.N[i]?=some x)(hj:X.N[j]?=some y)(hij:i≠j)
  (hx:X.env.scope.names.lookup x=some .local) (hy:X.env.scope.names.lookup y=some .local) (ha:PA X [a,b] ta)
  (hw:Ybe [.Tuple [.Name x px,.Name y py] kt pt] (.Tuple [a,b] k2 pt2) X.env=pure (some [x,y]))
  (hs:Ybx [.Tuple [.Name x px,.Name y py] kt pt] (.Tuple [a,b] k2 pt2) pos.line X.env=pure false:=by rfl) :
  PS X (.Assign [.Tuple [.Name x px,.Name y py] kt pt] (.Tuple [a,b] k2 pt2) pos) (tPar i j ta):=by
 intro pins s σ H D I h;rw[exec_Assign_arm];refine Yac (Yb7 ?_);rw[hs];refine Yac (Yal ?_);rw[if_neg (by decide)]
 refine Yac (Tuple_ (thn (ha _ pins s σ H _ I h) λus s1 ⟨vs,H1,I1,r1,q1⟩=>?_));obtain⟨v,w,e1,q1⟩:=q1;subst e1;obtain⟨u1,u2,rfl,rv,rw'⟩:∃u1 u2,us=[u1,u2]/\RelV v u1/\RelV w u2:=by
  cases r1 with
  |cons p q=>
   cases q with
   |cons p' q'=>
    cases q';exact⟨_,_,rfl,p,p'⟩
 refine YaY ?_ (by show 2<=Yag;decide)
 have I2:Inv X pins σ H1 { s1 with heap:=s1.heap.push { cls:=.type "tuple",data:=.seq [u1,u2].toArray } }:=I1.kept (t':=s1.toks) λb o e=>Yad _ e
 rw[hw];refine Yac (Yal ?_);show wpAny (model X.prog X.w) X.A (do rule "assign.swapped-stores";let items <- unpackItems (.ref s1.heap.objs.size) 2 none;Yfp [λv=>YeB X.env y v,λv=>YeB X.env x v] items.reverse;pure Flow.next) _ _ _
 refine Yac (wpAny_rule (Yac (unpackItems_tuple (items:=#[u1,u2]) (I.ok.hd hc) (IsTup.new s1.heap _) λh' hx'=>?_)));have I3:=I2.kept (h':=h') (t':=s1.toks) λb o e=>hx' b o (YaR (Yam e)) e;show wpAny _ _ (Yfp [λv=>YeB X.env y v,λv=>YeB X.env x v] [u2,u1] >>= λ_=>pure Flow.next) _ _ _
 refine Yac (Yd0 (wpAny_bindName (jbm I3 hN hj (.inl hy) rw' (λs2 I4=>?_) (.inr hy))));refine Yd0 (wpAny_bindName (jbm I4 hN hi (.inl hx) rv (λs3 I5=>assignInOrder_nil (Yal ?_)) (.inr hx)));rw[List.set_comm _ _ (Ne.symm hij)]at I5;exact⟨_,H1,I5,q1⟩
def tAug  (i:Nat)(te:TE)(ti:TIp):TS:=λD σ H=>∃x,σ[i]?=some (some x)/\te σ H λy H1=>ti x y H1 λz H2=>D.nx (σ.set i (some z)) H2
theorem jne {i:Nat}{x:Str}{e:Expr}{te:TE}{op:Yd5}{ti:TIp}{pos':Pos}(hN:X.N.Nodup)(hi:X.N[i]?=some x)(hx:Loc X.env.scope x)(he:PE X e te)(ho:PIp X op ti)(hf:X.fn x=true\/X.env.scope.names.lookup x=some .local:=by first|exact .inl rfl|exact .inr rfl|assumption) :
  PS X (.AugAssign (.Name x pos') op e pos) (tAug i te ti):=by
 intro pins s σ H D I h;obtain⟨v,e1,h⟩:=h;obtain⟨m,hn,hl⟩:=I.loc;have vis:Vis X.env.scope x:=by rcases hx with k|k;exact .inl k;exact .inr (.inl k)
 obtain⟨u,r,l⟩:=hl i x v hi e1 vis;refine wpAny_AugAssign_Name ?_;have go:wpAny (model X.prog X.w) X.A (eval e X.env) (λw s₂=>wpAny (model X.prog X.w) X.A (YdY op u w) (λr s₃=>wpAny (model X.prog X.w) X.A (storeName X.env x r) (λ_=>SP X pins D .next) X.xe s₃) X.xe s₂) X.xe s:=by
  refine thn (he pins s σ H _ I h) λw s1 ⟨y,H1,I1,r1,q1⟩=>?_;refine thn (ho pins s1 σ H1 v y u w _ I1 r r1 q1) λz s2 ⟨zv,H2,I2,r2,q2⟩=>?_;exact jbm I2 hN hi hx r2 (λs3 I3=>⟨_,H2,I3,q2⟩) hf
 rcases l with⟨hk,hm⟩|⟨hk,c,hc,hcell⟩
 ·exact wpAny_loadName_local I.ok.kind hk hn hm go
 ·rcases hk with hk|hk
  ·exact wpAny_loadName_cell I.ok.kind hk hc hcell go
  ·rcases hx with k|k
   ·have:X.env.scope.names.lookup x=some .free:=hk;rw[k]at this;cases this
   ·have:X.env.scope.names.lookup x=some .free:=hk;rw[k]at this;cases this
def PGet  (X:Cx)(t:V->V->Hp->VK->Prop):Prop:=
 ∀(pins:List (Addr×Obj)) (s:Shared) (σ:St) (H:Hp) (o i:V) (ov iv:Value) (Q:VK),Inv X pins σ H s->RelV o ov->RelV i iv->t o i H Q->
  wpAny (model X.prog X.w) X.A (getItem ov iv) (EP X pins σ Q) X.xe s
end


def jmL  (c:TT)(tb:TS):TS:=λD σ H=>∃W:Nat->St->Hp->Prop,(∃m,W m σ H)/\∀m σ H,W m σ H->
 c σ H λb H1=>if b=true then ∃N:St->Hp->Prop,(∀σ' H',N σ' H'->∃m',m'<m/\W m' σ' H')/\tb { D with nx:=N,ct:=N,bk:=D.nx } σ H1 else D.nx σ H1
theorem jjI      (hp:Yc8 (model X.prog X.w) X.A X.env X.xe)(hc:PT X c tc)(hb:PSs X body tb):PS X (.While c body [] pos) (jmL tc tb):=by
 intro pins s σ H D I h;obtain⟨W,⟨m0,w0⟩,turn⟩:=h;refine wpAny_While (codeAny_whileLoop (λn s'=>∃σ' H',Inv X pins σ' H' s'/\W n σ' H') ?_ m0 ⟨σ,H,I,w0⟩);rintro n s1 ⟨σ1,H1,I1,w1⟩;refine Yb4 hp (thn (hc pins s1 σ1 H1 _ I1 (turn n σ1 H1 w1)) λb s2 ⟨H2,I2,q2⟩=>?_);cases b with
 |true=>
  obtain⟨N,hN,q2⟩:=q2;rw[if_pos rfl];refine Yb4 hp (thn (hb pins s2 σ1 H2 _ I2 q2) λf s3 q3=>?_);cases f with
  |next=>
   obtain⟨σ3,H3,I3,n3⟩:=q3;obtain⟨m',hm,w3⟩:=hN σ3 H3 n3;exact⟨m',hm,σ3,H3,I3,w3⟩
  |cont=>
   obtain⟨σ3,H3,I3,n3⟩:=q3;obtain⟨m',hm,w3⟩:=hN σ3 H3 n3;exact⟨m',hm,σ3,H3,I3,w3⟩
  |brk=>exact q3
  |ret v=>exact q3
 |false=>
  rw[if_neg Yai];exact YcM ⟨σ1,H2,I2,q2⟩

structure It where
 go:Nat->Hp->Prop
 yld:Nat->Hp->V->Hp->Prop
 stop:Nat->Hp->Prop
def FpOk  (X:Cx)(pins:List (Addr×Obj))(H:Hp)(b:Addr):Prop:=
 H b=none/\b≠X.env.locals/\b∉X.fs/\(b∈X.ex\/X.s₀.heap.objs.size<=b)/\(∀x c,X.env.cells.lookup x=some c->c≠b)/\∀p∈X.pn++pins,p.1≠b
theorem Inv.fpOk    {σ:St}{b:Addr}(I:Inv X pins σ H s)(hb:s.heap.objs.size<=b)(hn:H' b=none):FpOk X pins H' b:=by
 refine⟨hn,Nat.ne_of_gt (Yap I.lt hb),I.nofs hb,.inr (Yaf I.sz hb),λx c e z=>?_,λp hp z=>?_⟩
 ·obtain⟨v,q⟩:=I.cell x c e;exact absurd (Yap q.lt (by rw[z];exact hb)) (Ybh _)
 ·exact absurd (Yap (Yam (I.pin p hp).1) (by rw[z];exact hb)) (Ybh _)
structure Turn (P:Program)(w:World)(K:Yab)(tg:Expr)(J:It)(fp:List Addr)(it:Addr)(tn:Nat->Heap->Prop):Prop where
 mem:it∈fp
 obj:∀i h,tn i h->∀b∈fp,∃o,h.get? b=some o/\∀v,o.data≠.cell v
 keep:∀i h h',tn i h->(∀b∈fp,∀o,h.get? b=some o->h'.get? b=some o)->tn i h'
 item:∀(X:Cx),X.prog=P->X.w=w->X.K=K->X.calm=true->∀(i:Nat) (pins:List (Addr×Obj)) (s:Shared) (σ:St) (H:Hp) (E:Value->Shared->Prop),Inv X pins σ H s->(∀b∈fp,FpOk X pins H b)->tn i s.heap->J.go i H->
  wpAny (model P w) X.A (pyNext (.ref it)) (λr s1=>∃u,r=some u/\
   wpAny (model P w) X.A (YcO tg (.ref it) u) (λ_ s2=>∃x H',Inv X pins σ H' s2/\RelV x u/\J.yld i H x H'/\tn (i+1) s2.heap/\∀b∈fp,H' b=none) E s1) E s
 done:∀(X:Cx),X.prog=P->X.w=w->X.K=K->X.calm=true->∀(i:Nat) (pins:List (Addr×Obj)) (s:Shared) (σ:St) (H:Hp) (E:Value->Shared->Prop),Inv X pins σ H s->(∀b∈fp,FpOk X pins H b)->tn i s.heap->J.stop i H->
  wpAny (model P w) X.A (pyNext (.ref it)) (λr s1=>r=none/\Inv X pins σ H s1) E s
 self:∀(A:Around) (i:Nat) (s:Shared) (Q:Value->Shared->Prop) (E:Value->Shared->Prop),tn i s.heap->Q (.ref it) s->wpAny (model P w) A (pyIter (.ref it)) Q E s
abbrev TI:=St->Hp->(It->Hp->Prop)->Prop
def PIE  (X:Cx)(pins:List (Addr×Obj))(σ:St)(tg:Expr)(R:It->Hp->Prop)(itv:Value)(s2:Shared):Prop:=
 ∃(it:Addr) (fp:List Addr) (tn:Nat->Heap->Prop) (J:It) (H':Hp),itv=.ref it/\Inv X pins σ H' s2/\Turn X.prog X.w X.K tg J fp it tn/\tn 0 s2.heap/\(∀b∈fp,FpOk X pins H' b)/\R J H'
def PI  (X:Cx)(tg iter:Expr)(wi:TI):Prop:=
 ∀(pins:List (Addr×Obj)) (s:Shared) (σ:St) (H:Hp) (R:It->Hp->Prop),Inv X pins σ H s->wi σ H R->
  wpAny (model X.prog X.w) X.A (eval iter X.env) (λv s1=>wpAny (model X.prog X.w) X.A (pyIter v) (PIE X pins σ tg R) X.xe s1) X.xe s

theorem jmi             (ho : s.heap.get? it = some o)(hc : o.cls = .type n)(hd : o.data = .fields vs)
    (hn : ["enumerate", "zip", "dict_itemiterator", "dict_reverseitemiterator", "odict_iterator", "itertools.zip_longest", "itertools.pairwise"].contains n = false) (hQ : Q () s) : wpAny M A (YcO tg (.ref it) u) Q E s := by
  unfold YcO
  cases tg <;> first
    | exact Yal hQ
    | (cases u <;> first
        | exact Yal hQ
        | (refine Yac (wpAny_load ho ?_)
           rw [hc, hd]
           show wpAny M A (if (["enumerate", "zip", "dict_itemiterator", "dict_reverseitemiterator", "odict_iterator", "itertools.zip_longest", "itertools.pairwise"].contains n && vs[0]? == some (rawInt _)) = true then _ else _) Q E s
           rw [if_neg (by intro h; rw [hn, Bool.false_and] at h; cases h)]
           exact Yal hQ))

noncomputable def Itl  (K:Yab)(a:Addr):It:=
 ⟨λi H=>∃xs x,SqL K H a xs/\xs[i]?=some x,λi H x H'=>H'=H/\∀xs,SqL K H a xs->xs[i]?=some x,λi H=>∃xs,SqL K H a xs/\xs.length<=i⟩
noncomputable def Itt  (K:Yab)(a:Addr):It:=
 ⟨λi H=>∃xs x,SqT K H a xs/\xs[i]?=some x,λi H x H'=>H'=H/\∀xs,SqT K H a xs->xs[i]?=some x,λi H=>∃xs,SqT K H a xs/\xs.length<=i⟩
noncomputable def Itr  (lo:Int)(n:Nat):It:=⟨λi _=>i<n,λi H x H'=>H'=H/\x=.int (lo+i),λi _=>n<=i⟩
theorem jh4    {K:Yab} a it:Turn P w K tg (Itl K a) [it] it (λi h=>h.IsListIter it a i) where
 mem:=by simp
 obj:=λi h st b hb=>by
  have e:b=it:=by simpa using hb
  subst e;obtain⟨o,e,c,d⟩:=st;exact⟨o,e,λv z=>by rw[d]at z;cases z⟩
 keep:=λi h h' st k=>st.at λo e=>k it (by simp) o e
 item:=by
  intro X hP hw hK hc i pins s σ H E I hf st hg;subst hP hw hK;obtain⟨xs,x,hq,hx⟩:=hg;obtain⟨its,rv,p,hz⟩:=I.list hq;obtain⟨u,hu,ru⟩:=rv.get hx;obtain⟨f0,f1,f2,f3,f4,f5⟩:=hf it (by simp)
  refine wpAny_pyNext_list_item st p.isList (x:=u) (by simpa using hu) λh' st' sb=>?_
  have I1:Inv X pins σ H { s with heap:=h' }:=I.turned (t':=s.toks) (λb o hb e=>(sb.2 b hb).trans e) f0 f1 f3 f4 f5
  obtain⟨o,e,c,d⟩:=id st';exact⟨u,rfl,jmi (s:={ s with heap:=h' }) e c d (by decide) ⟨x,H,I1,ru,⟨rfl,λys hy=>by rw[I.list_inj hy hq];exact hx⟩,st',λb hb=>(hf b hb).1⟩⟩
 done:=by
  intro X hP hw hK hc i pins s σ H E I hf st hg;subst hP hw hK;obtain⟨xs,hq,hx⟩:=hg;obtain⟨its,rv,p,hz⟩:=I.list hq;obtain⟨f0,f1,f2,f3,f4,f5⟩:=hf it (by simp)
  have hl:=rv.length;exact wpAny_pyNext_list_end (I.ok.hd hc) st p.isList (by simp;lia) λh' eb=>⟨rfl,I.turned (t':=s.toks) (λb o hb e=>eb b o hb e) f0 f1 f3 f4 f5⟩
 self:=λ_ _ _ _ _ st h=>wpAny_pyIter_listiter st h
theorem jho    {K:Yab} a it:Turn P w K tg (Itt K a) [it] it (λi h=>h.IsTupleIter it a i) where
 mem:=by simp
 obj:=λi h st b hb=>by
  have e:b=it:=by simpa using hb
  subst e;obtain⟨o,e,c,d⟩:=st;exact⟨o,e,λv z=>by rw[d]at z;cases z⟩
 keep:=λi h h' st k=>st.at λo e=>k it (by simp) o e
 item:=by
  intro X hP hw hK hc i pins s σ H E I hf st hg;subst hP hw hK;obtain⟨xs,x,hq,hx⟩:=hg;obtain⟨its,rv,p,hz⟩:=I.tuple hq;obtain⟨u,hu,ru⟩:=rv.get hx;obtain⟨f0,f1,f2,f3,f4,f5⟩:=hf it (by simp)
  refine wpAny_pyNext_tuple_item st (show s.heap.IsTuple a its.toArray from p) (x:=u) (by simpa using hu) λh' st' sb=>?_
  have I1:Inv X pins σ H { s with heap:=h' }:=I.turned (t':=s.toks) (λb o hb e=>(sb.2 b hb).trans e) f0 f1 f3 f4 f5
  obtain⟨o,e,c,d⟩:=id st';exact⟨u,rfl,jmi (s:={ s with heap:=h' }) e c d (by decide) ⟨x,H,I1,ru,⟨rfl,λys hy=>by rw[I.tuple_inj hy hq];exact hx⟩,st',λb hb=>(hf b hb).1⟩⟩
 done:=by
  intro X hP hw hK hc i pins s σ H E I hf st hg;subst hP hw hK;obtain⟨xs,hq,hx⟩:=hg;obtain⟨its,rv,p,hz⟩:=I.tuple hq;obtain⟨f0,f1,f2,f3,f4,f5⟩:=hf it (by simp)
  have hl:=rv.length;exact wpAny_pyNext_tuple_end (I.ok.hd hc) st (show s.heap.IsTuple a its.toArray from p) (by simp;lia) λh' eb=>⟨rfl,I.turned (t':=s.toks) (λb o hb e=>eb b o hb e) f0 f1 f3 f4 f5⟩
 self:=λ_ _ _ _ _ st h=>wpAny_pyIter_tupleiter st h
theorem jhp    {K:Yab} it lo n:Turn P w K tg (Itr lo n) [it] it (λi h=>IsRangeIter h it (lo+(i:Nat)*1) ((n:Int)-(i:Nat)) 1) where
 mem:=by simp
 obj:=λi h st b hb=>by
  have e:b=it:=by simpa using hb
  subst e;exact⟨_,st,λv z=>by
   have z':Data.fields _=Data.cell v:=z;cases z'⟩
 keep:=λi h h' st k=>k it (by simp) _ st
 item:=by
  intro X hP hw hK hc i pins s σ H E I hf st hg;subst hP hw hK;obtain⟨f0,f1,f2,f3,f4,f5⟩:=hf it (by simp)
  have W:=Walks.range (prog:=X.prog) (w:=X.w) (I.ok.hd hc) it lo 1 n;refine W.item i s _ _ hg st λv h' tk hv st' kk=>?_;obtain⟨t,rfl⟩:=hv;have I1:Inv X pins σ H { s with heap:=h',toks:=tk }:=I.turned (λb o hb e=>kk b o (by simpa using hb) e) f0 f1 f3 f4 f5
  refine⟨_,rfl,jmi (s:={ s with heap:=h',toks:=tk }) (n := "range_iterator") st' rfl rfl (by decide) ⟨.int (lo+i),H,I1,⟨t,?_⟩,⟨rfl,rfl⟩,st',λb hb=>(hf b hb).1⟩⟩
  rw[Int.mul_one]
 done:=by
  intro X hP hw hK hc i pins s σ H E I hf st hg;subst hP hw hK;obtain⟨f0,f1,f2,f3,f4,f5⟩:=hf it (by simp)
  exact wpAny_pyNext_range_end (I.ok.hd hc) st (by have:n<=i:=hg;lia) λh' eb=>⟨rfl,I.turned (t':=s.toks) (λb o hb e=>eb b o hb e) f0 f1 f3 f4 f5⟩
 self:=λ_ _ _ _ _ st h=>wpAny_pyIter_rangeiter st h
section
variable {X:Cx}{tg:Expr}
theorem jjE   {σ:St}{lo hi:Int}(I:Inv X pins σ H s)(h1:-(2 ^ 62)<=lo)(h2:lo<2 ^ 62)(h3:-(2 ^ 62)<=hi)(h4:hi<2 ^ 62)
  (q:R (Itr lo (hi-lo).toNat) H):wpAny (model X.prog X.w) X.A (pyIter (.ref s.heap.objs.size)) (PIE X pins σ tg R) E { s with heap:=s.heap.push { cls:=.type "range",data:=.fields #[.int lo t,.int hi u,.int 1 v] },toks:=tk }:=by
 refine wpAny_pyIter_range (IsRange.new ..) (small_one h1 h2 h3 h4) ?_;have I1:Inv X pins σ H { s with heap:=s.heap.push { cls:=.type "range",data:=.fields #[.int lo t,.int hi u,.int 1 v] },toks:=tk }:=I.kept λb o e=>Yad _ e
 refine⟨(s.heap.push { cls:=.type "range",data:=.fields #[.int lo t,.int hi u,.int 1 v] }).objs.size,[(s.heap.push { cls:=.type "range",data:=.fields #[.int lo t,.int hi u,.int 1 v] }).objs.size],_,_,H,rfl,
  I1.kept (t':=tk) λb o e=>Yad _ e,jhp _ lo (hi-lo).toNat,?_,λb hb=>?_,q⟩
 ·have e1:lo+((0:Nat):Int)*1=lo:=by simp
  have e2:(((hi-lo).toNat:Nat):Int)-((0:Nat):Int)=Builtin.Range.rangeSize lo hi 1:=by rw[rangeSize_one];split<;>lia
  show IsRangeIter _ _ (lo+((0:Nat):Int)*1) ((((hi-lo).toNat:Nat):Int)-((0:Nat):Int)) 1;rw[e1,e2];exact YaA _ rfl
 ·have e:b=(s.heap.push { cls:=.type "range",data:=.fields #[.int lo t,.int hi u,.int 1 v] }).objs.size:=by simpa using hb
  subst e;exact I1.fpOk (Yae _) (I1.hok.fresh (Yae _))
def jpC  (ta:TA):TI:=λσ H R=>ta σ H λvs H1=>∃j:Int,vs=[.int j]/\-(2 ^ 62)<=j/\j<2 ^ 62/\R (Itr 0 j.toNat) H1
theorem jio {a:Expr}{ta:TA}{p pos:Pos}(hg:Gl X "range")(hm:X.mg "range" = none)(ha:PA X [a] ta)(hs:Yat [a] X.env=[(false,eval a X.env)]:=by rfl):PI X tg (.Call (.Name "range" p) [a] [] pos) (jpC ta):=by
 intro pins s σ H R I h;refine Call_ (jg3 I hg hm boot_range (Ydm (thn (ha pos pins s σ H _ I h) λus s1 ⟨vs,H1,I1,r1,q1⟩=>?_) hs rfl));obtain⟨j,e,q1,q2,q⟩:=q1;subst e;cases r1 with
 |cons r rr=>
  cases rr;obtain⟨t,rfl⟩:=r;exact call_range_1 (jjE I1 (by lia) (by lia) q1 q2 (by simpa using q))
def tFor  (wi:TI)(g:TG)(tb:TS):TS:=λD σ H=>wi σ H λJ H1=>∃W:Nat->Nat->St->Hp->Prop,(∃m,W 0 m σ H1)/\∀i m σ H,W i m σ H->
 (J.stop i H/\D.nx σ H)\/(J.go i H/\∃N:St->Hp->Prop,(∀σ' H',N σ' H'->∃m',m'<m/\W (i+1) m' σ' H')/\∀x H',J.yld i H x H'->g x σ H' λσ2 H2=>tb { D with nx:=N,ct:=N,bk:=D.nx } σ2 H2)
noncomputable def jfs  (fp:List Addr)(h:Heap):List (Addr×Obj):=fp.filterMap λb=>(h.get? b).map λo=>(b,o)
theorem jck      (hb:b∈fp)(e:h.get? b=some o):(b,o)∈jfs fp h:=List.mem_filterMap.mpr ⟨b,hb,by rw[e];rfl⟩
theorem jiD     (hp:p∈jfs fp h):p.1∈fp/\h.get? p.1=some p.2:=by
 obtain⟨b,hb,e⟩:=List.mem_filterMap.mp hp;cases q:h.get? b with
 |none=>rw[q]at e;cases e
 |some o=>
  rw[q]at e;have e':(b,o)=p:=Yar e;subst e';exact⟨hb,q⟩
theorem Inv.pinned   {σ:St}(I:Inv X pins σ H s)(hf:∀b∈fp,FpOk X pins H b)(ho:∀b∈fp,∃o,s.heap.get? b=some o/\∀v,o.data≠.cell v):Inv X (pins++jfs fp s.heap) σ H s:=
 I.pins_of λp hp=>(List.mem_append.mp hp).elim (λz=>I.pin p (Yas _ z)) λz=>by
  obtain⟨hb,e⟩:=jiD z;obtain⟨f0,f1,f2,_⟩:=hf p.1 hb;obtain⟨o,e',d⟩:=ho p.1 hb;rw[e]at e';cases e';exact⟨e,f0,f1,f2,d⟩
theorem Inv.unpinned   {σ:St}(I:Inv X (pins++pl) σ H s):Inv X pins σ H s:=I.pins_of λp hp=>I.pin p (Yas _ (YaV _ hp))
theorem jnd {iter:Expr}{body:List Stmt}{wi:TI}{g:TG}{tb:TS}{pos:Pos}(hp:Yc8 (model X.prog X.w) X.A X.env X.xe)(hc:X.calm=true)(hi:PI X tg iter wi)(hg:PG X tg g)(hb:PSs X body tb)
  (hs:∀x,YaZ iter X.env x=pure x:=by intro _;rfl):PS X (.For tg iter body [] pos) (tFor wi g tb):=by
 intro pins s σ H D I h;refine wpAny_For (thn (hi pins s σ H _ I h) λv s1 h1=>thn h1 λitv s2 h2=>?_) hs;obtain⟨it,fp,tn,J,H2,e,I2,T,st2,f2,W,⟨m0,w0⟩,turn⟩:=h2;subst e;have stat:∀{H':Hp},(∀b∈fp,H' b=none)->∀b∈fp,FpOk X pins H' b:=λhn b hb=>⟨hn b hb,(f2 b hb).2⟩;refine codeAny_forLoop_any (λn s'=>∃i σ' H',Inv X pins σ' H' s'/\tn i s'.heap/\(∀b∈fp,H' b=none)/\W i n σ' H') ?_ m0 ⟨0,σ,H2,I2,st2,λb hb=>(f2 b hb).1,w0⟩;rintro n s3 ⟨i,σ3,H3,I3,st3,fr3,w3⟩;rcases turn i n σ3 H3 w3 with⟨stop,qn⟩|⟨go,N,hN,step⟩
 ·refine Yb4 hp (thn (T.done X rfl rfl rfl hc i pins s3 σ3 H3 X.xe I3 (stat fr3) st3 stop) λr s4 ⟨hr,I4⟩=>?_);subst hr;exact YcM ⟨σ3,H3,I4,qn⟩
 ·refine Yb4 hp (thn (T.item X rfl rfl rfl hc i pins s3 σ3 H3 X.xe I3 (stat fr3) st3 go) λr s4 ⟨u,hr,h4⟩=>?_);subst hr;refine Yb4 hp (thn h4 λ_ s5 ⟨x,H5,I5,r5,y5,st5,fr5⟩=>?_);have I5':=I5.pinned (stat fr5) (T.obj _ _ st5);refine Yb4 hp (thn (hg _ s5 σ3 H5 x u _ I5' r5 (step x H5 y5)) λ_ s6 ⟨σ6,H6,I6,q6⟩=>?_);refine Yb4 hp (thn (hb _ s6 σ6 H6 _ I6 q6) λf s7 q7=>?_);have again:∀{σ7:St} {H7:Hp},Inv X (pins++jfs fp s5.heap) σ7 H7 s7->N σ7 H7->∃m,m<n/\∃i σ' H',Inv X pins σ' H' s7/\tn i s7.heap/\(∀b∈fp,H' b=none)/\W i m σ' H':=λ{σ7 H7} I7 n7=>by
   obtain⟨m',hm,w7⟩:=hN σ7 H7 n7;refine⟨m',hm,i+1,σ7,H7,I7.unpinned,T.keep _ _ _ st5 λb hb o e=>(I7.pin (b,o) (Yas _ (Yas _ (jck hb e)))).1,λb hb=>?_,w7⟩;obtain⟨o,e,d⟩:=T.obj _ _ st5 b hb;exact(I7.pin (b,o) (Yas _ (Yas _ (jck hb e)))).2.1
  cases f with
  |next=>obtain⟨σ7,H7,I7,n7⟩:=q7;exact again I7 n7
  |cont=>obtain⟨σ7,H7,I7,n7⟩:=q7;exact again I7 n7
  |brk=>obtain⟨σ7,H7,I7,q7⟩:=q7;exact⟨σ7,H7,I7.unpinned,q7⟩
  |ret v=>obtain⟨x7,σ7,H7,I7,r7,q7⟩:=q7;exact⟨x7,σ7,H7,I7.unpinned,r7,q7⟩
end


abbrev R2:=V->V->Hp->VK->Prop
def OpR  (X:Cx)(f:Value->Value->Sem Value)(r:R2):Prop:=
 ∀(pins:List (Addr×Obj)) (s:Shared) (σ:St) (H:Hp) (x y:V) (v u:Value) (Q:VK),Inv X pins σ H s->RelV x v->RelV y u->r x y H Q->
  wpAny (model X.prog X.w) X.A (f v u) (EP X pins σ Q) X.xe s
def UnR  (X:Cx)(f:Value->Sem Value)(r:V->Hp->VK->Prop):Prop:=
 ∀(pins:List (Addr×Obj)) (s:Shared) (σ:St) (H:Hp) (x:V) (v:Value) (Q:VK),Inv X pins σ H s->RelV x v->r x H Q->
  wpAny (model X.prog X.w) X.A (f v) (EP X pins σ Q) X.xe s
def ja8  (X:Cx)(f:Value)(r:List V->Hp->VK->Prop):Prop:=
 ∀(pins:List (Addr×Obj)) (s:Shared) (σ:St) (H:Hp) (xs:List V) (us:List Value) (Q:VK),Inv X pins σ H s->Vals xs us->r xs H Q->
  wpAny (model X.prog X.w) X.A (call f us) (EP X pins σ Q) X.xe s
def TruR  (X:Cx)(r:V->Hp->(Bool->Hp->Prop)->Prop):Prop:=
 ∀(pins:List (Addr×Obj)) (s:Shared) (σ:St) (H:Hp) (x:V) (v:Value) (Q:Bool->Hp->Prop),Inv X pins σ H s->RelV x v->r x H Q->
  wpAny (model X.prog X.w) X.A (truthy v) (TP X pins σ Q) X.xe s

def tOp  (r:R2)(ta tb:TE):TE:=λσ H Q=>ta σ H λx H1=>tb σ H1 λy H2=>r x y H2 Q
def tUn  (r:V->Hp->VK->Prop)(ta:TE):TE:=λσ H Q=>ta σ H λx H1=>r x H1 Q
def rI  (C:Int->Int->Prop)(g:Int->Int->V):R2:=λx y H Q=>∃i j,x=.int i/\y=.int j/\C i j/\Q (g i j) H
def rI0  (g:Int->Int->V):R2:=λx y H Q=>∃i j,x=.int i/\y=.int j/\Q (g i j) H
def rU  (g:Int->V):V->Hp->VK->Prop:=λx H Q=>∃i,x=.int i/\Q (g i) H


theorem binT  (ha:PE X a ta)(hb:PE X b tb){σ:St}{R:V->V->Hp->Prop}(I:Inv X pins σ H s)
  (h:ta σ H λx H1=>tb σ H1 λy H2=>R x y H2) {f:Value->Value->Sem Value}
  (hf:∀v u s2 x y H2,Inv X pins σ H2 s2->RelV x v->RelV y u->R x y H2->wpAny (model X.prog X.w) X.A (f v u) Q X.xe s2) :
  wpAny (model X.prog X.w) X.A (eval a X.env) (λv s₁=>wpAny (model X.prog X.w) X.A (eval b X.env) (λu s₂=>wpAny (model X.prog X.w) X.A (f v u) Q X.xe s₂) X.xe s₁) X.xe s:=by
 refine thn (ha pins s σ H _ I h) λv s1 ⟨x,H1,I1,r1,q1⟩=>?_;refine thn (hb pins s1 σ H1 _ I1 q1) λu s2 ⟨y,H2,I2,r2,q2⟩=>?_;exact hf v u s2 x y H2 I2 r1 r2 q2

theorem jpm    (ho:OpR X (Ya8 op) r)(ha:PE X a ta)(hb:PE X b tb):PE X (.BinOp a op b pos) (tOp r ta tb):=by
 intro pins s σ H Q I h;exact wpAny_BinOp (binT ha hb I h λv u s2 x y H2 I2 rx ry q=>ho pins s2 σ H2 x y v u Q I2 rx ry q)
theorem jpk    (ho:UnR X (unaryOp op) r)(ha:PE X a ta):PE X (.UnaryOp op a pos) (tUn r ta):=by
 intro pins s σ H Q I h;exact UnaryOp_ (thn (ha pins s σ H _ I h) λv s1 ⟨x,H1,I1,r1,q1⟩=>ho pins s1 σ H1 x v Q I1 r1 q1)
theorem opI    {g:Int->Int->Int}
  (rule:∀i j t u (s:Shared) Q E ,C i j->Q (.int (g i j) s.toks) { s with toks:=s.toks+1 }->wpAny (model X.prog X.w) X.A (f (.int i t) (.int j u)) Q E s) :
  OpR X f (rI C λi j=>.int (g i j)):=by
 intro pins s σ H x y v u Q I rx ry h;obtain⟨i,j,rfl,rfl,hc,q⟩:=h;obtain⟨t,rfl⟩:=rx;obtain⟨t',rfl⟩:=ry;exact rule i j t t' s _ _ hc ⟨.int (g i j),H,I.tok _,⟨_,rfl⟩,q⟩
theorem opI0   {g:Int->Int->Int}
  (rule:∀i j t u (s:Shared) Q E ,Q (.int (g i j) s.toks) { s with toks:=s.toks+1 }->wpAny (model X.prog X.w) X.A (f (.int i t) (.int j u)) Q E s) :
  OpR X f (rI0 λi j=>.int (g i j)):=by
 intro pins s σ H x y v u Q I rx ry h;obtain⟨i,j,rfl,rfl,q⟩:=h;obtain⟨t,rfl⟩:=rx;obtain⟨t',rfl⟩:=ry;exact rule i j t t' s _ _ ⟨.int (g i j),H,I.tok _,⟨_,rfl⟩,q⟩
theorem opB0   {g:Int->Int->Bool}
  (rule:∀i j t u s Q E ,Q (.bool (g i j)) s->wpAny (model X.prog X.w) X.A (f (.int i t) (.int j u)) Q E s) :
  OpR X f (rI0 λi j=>.bl (g i j)):=by
 intro pins s σ H x y v u Q I rx ry h;obtain⟨i,j,rfl,rfl,q⟩:=h;obtain⟨t,rfl⟩:=rx;obtain⟨t',rfl⟩:=ry;exact rule i j t t' s _ _ ⟨.bl (g i j),H,I,rfl,q⟩

def CDiv  (i j:Int):Prop:=0<j/\j<1073741824
def CPow  (i j:Int):Prop:=0<=j/\j<=1000000/\i.natAbs<2 ^ 64
def CMul  (i j:Int):Prop:=(-(2 ^ 64)<i/\i<2 ^ 64)\/(-(2 ^ 64)<j/\j<2 ^ 64)
theorem CMul.ok   (h:CMul i j):IntMulOk i j:=by
 rcases h with⟨h1,h2⟩|⟨h1,h2⟩
 ·exact .of_left (intBits_le_64 h1 h2)
 ·exact .of_right (intBits_le_64 h1 h2)
theorem jnJ  : OpR X (Ya8 .Add) (rI0 λi j=>.int (i+j)):=opI0 λ_ _ _ _ _ _ _ q=>add_int q
theorem jnx  : OpR X (Ya8 .Sub) (rI0 λi j=>.int (i-j)):=opI0 λ_ _ _ _ _ _ _ q=>sub_int q
theorem jnB  : OpR X (Ya8 .Mult) (rI CMul λi j=>.int (i*j)):=opI λ_ _ _ _ _ _ _ hc q=>mul_int q hc.ok
theorem jlI  : OpR X (Ya8 .FloorDiv) (rI CDiv λi j=>.int (i/j)):=opI λi j _ _ _ _ _ hc q=>by
 have h1:(0:Int)<j:=hc.1;have h2:j<1073741824:=hc.2;exact floordiv_int (by lia) (by rw[Int.fdiv_eq_ediv_of_nonneg i (by lia)];exact q) (.inl (PyProof.noPylong_small (by lia)))
theorem jnC  : OpR X (Ya8 .Mod) (rI (λ_ j=>0<j) λi j=>.int (i%j)):=opI λi j _ _ _ _ _ hc q=>by
 have h1:(0:Int)<j:=hc;exact mod_int' (by lia) (by rw[Int.fmod_eq_emod_of_nonneg i (by lia)];exact q)
theorem jnz  : OpR X (Ya8 .Pow) (rI CPow λi j=>.int (i ^ j.toNat)):=opI λ_ _ _ _ _ _ _ hc q=>pow_int_small hc.1 hc.2.1 hc.2.2 q
theorem jmd  : OpR X (YdY .Add) (rI0 λi j=>.int (i+j)):=opI0 λ_ _ _ _ _ _ _ q=>iadd_int q
theorem jmb  : OpR X (YdY .Sub) (rI0 λi j=>.int (i-j)):=opI0 λ_ _ _ _ _ _ _ q=>isub_int q
theorem jmc  : OpR X (YdY .Mult) (rI CMul λi j=>.int (i*j)):=opI λ_ _ _ _ _ _ _ hc q=>imul_int q hc.ok
theorem unI   {g:Int->Int}
  (rule:∀i t (s:Shared) Q E ,Q (.int (g i) s.toks) { s with toks:=s.toks+1 }->wpAny (model X.prog X.w) X.A (f (.int i t)) Q E s) :
  UnR X f (rU λi=>.int (g i)):=by
 intro pins s σ H x v Q I rx h;obtain⟨i,rfl,q⟩:=h;obtain⟨t,rfl⟩:=rx;exact rule i t s _ _ ⟨.int (g i),H,I.tok _,⟨_,rfl⟩,q⟩
theorem jmA  : UnR X (unaryOp .USub) (rU λi=>.int (-i)):=unI λ_ _ _ _ _ q=>neg_int q

noncomputable def scal  : V->V->Bool
 |.non,.non=>true|.non,.int _=>true|.int _,.non=>true|.non,.bl _=>true|.bl _,.non=>true|.non,.str _=>true|.str _,.non=>true
 |.int _,.int _=>true|.bl _,.bl _=>true|.str _,.str _=>true|.byt _,.byt _=>true
 |.int _,.str _=>true|.str _,.int _=>true|.bl _,.str _=>true|.str _,.bl _=>true
 |_,_=>false
def rEq  : R2:=λx y H Q=>scal x y=true/\Q (.bl (decide (x=y))) H
def rNe  : R2:=λx y H Q=>scal x y=true/\Q (.bl (!decide (x=y))) H

theorem ji9   : decide (V.int i=V.int j)=(i==j):=by
 rw[Ybc];simp
theorem jkR   : decide (V.bl i=V.bl j)=(i==j):=by
 rw[Ybc];simp
theorem ji8   : decide (V.str i=V.str j)=(i==j):=by
 rw[Ybc];simp
theorem jja   : decide (V.byt i=V.byt j)=(i.toList==j.toList):=by
 rw[Ybc];cases i;cases j;simp

section
variable {X:Cx}{a b c:Expr}{ta tb tc:TE}{pos:Pos}
theorem jan   {σ:St}(I:Inv X pins σ H s)(q:Q (.bl k) H)(e:k=k'):EP X pins σ Q (.bool k') s:=by
 subst e;exact⟨.bl k,H,I,rfl,q⟩
theorem jpu  : OpR X (YaF .Eq) rEq:=by
 intro pins s σ H x y v u Q I rx ry h;obtain⟨hs,q⟩:=h;cases x with
 |non=>
  cases rx;cases y with
  |non=>cases ry;exact PySem.EqNone.eq_none_none (jan I q (by simp))
  |bl j=>cases ry;exact PySem.EqNone.eq_none_bool (jan I q (by simp))
  |int j=>obtain⟨t',rfl⟩:=ry;exact PySem.EqNone.eq_none_int (jan I q (by simp))
  |str j=>obtain⟨t',rfl⟩:=ry;exact PySem.EqNone.eq_none_str (jan I q (by simp))
  |_=>exact absurd (show false=true from hs) Yai
 |bl i=>
  cases rx;cases y with
  |non=>cases ry;exact PySem.EqNone.eq_bool_none (jan I q (by simp))
  |bl j=>cases ry;exact eq_bool (jan I q jkR)
  |str j=>obtain⟨t',rfl⟩:=ry;exact PySem.EqMixed.eq_bool_str (jan I q (by simp))
  |_=>exact absurd (show false=true from hs) Yai
 |int i=>
  obtain⟨t,rfl⟩:=rx;cases y with
  |non=>cases ry;exact PySem.EqNone.eq_int_none (jan I q (by simp))
  |int j=>obtain⟨t',rfl⟩:=ry;exact eq_int (jan I q ji9)
  |str j=>obtain⟨t',rfl⟩:=ry;exact PySem.EqMixed.eq_int_str (jan I q (by simp))
  |_=>exact absurd (show false=true from hs) Yai
 |str i=>
  obtain⟨t,rfl⟩:=rx;cases y with
  |non=>cases ry;exact PySem.EqNone.eq_str_none (jan I q (by simp))
  |bl j=>cases ry;exact PySem.EqMixed.eq_str_bool (jan I q (by simp))
  |int j=>obtain⟨t',rfl⟩:=ry;exact PySem.EqMixed.eq_str_int (jan I q (by simp))
  |str j=>obtain⟨t',rfl⟩:=ry;exact eq_str (jan I q ji8)
  |_=>exact absurd (show false=true from hs) Yai
 |byt i=>
  obtain⟨t,rfl⟩:=rx;cases y with
  |byt j=>obtain⟨t',rfl⟩:=ry;exact PySem.W.eq_bytes (jan I q jja)
  |_=>exact absurd (show false=true from hs) Yai
 |_=>cases y<;>exact absurd (show false=true from hs) Yai
theorem jpp  : OpR X (YaF .NotEq) rNe:=by
 intro pins s σ H x y v u Q I rx ry h;obtain⟨hs,q⟩:=h;cases x with
 |non=>
  cases rx;cases y with
  |non=>cases ry;exact PySem.EqNone.ne_none_none (jan I q (by simp))
  |bl j=>cases ry;exact PySem.EqNone.ne_none_bool (jan I q (by simp))
  |int j=>obtain⟨t',rfl⟩:=ry;exact PySem.EqNone.ne_none_int (jan I q (by simp))
  |str j=>obtain⟨t',rfl⟩:=ry;exact PySem.EqNone.ne_none_str (jan I q (by simp))
  |_=>exact absurd (show false=true from hs) Yai
 |bl i=>
  cases rx;cases y with
  |non=>cases ry;exact PySem.EqNone.ne_bool_none (jan I q (by simp))
  |bl j=>cases ry;exact ne_bool (jan I q (congrArg not jkR))
  |str j=>obtain⟨t',rfl⟩:=ry;exact PySem.EqMixed.ne_bool_str (jan I q (by simp))
  |_=>exact absurd (show false=true from hs) Yai
 |int i=>
  obtain⟨t,rfl⟩:=rx;cases y with
  |non=>cases ry;exact PySem.EqNone.ne_int_none (jan I q (by simp))
  |int j=>obtain⟨t',rfl⟩:=ry;exact ne_int (jan I q (congrArg not ji9))
  |str j=>obtain⟨t',rfl⟩:=ry;exact PySem.EqMixed.ne_int_str (jan I q (by simp))
  |_=>exact absurd (show false=true from hs) Yai
 |str i=>
  obtain⟨t,rfl⟩:=rx;cases y with
  |non=>cases ry;exact PySem.EqNone.ne_str_none (jan I q (by simp))
  |bl j=>cases ry;exact PySem.EqMixed.ne_str_bool (jan I q (by simp))
  |int j=>obtain⟨t',rfl⟩:=ry;exact PySem.EqMixed.ne_str_int (jan I q (by simp))
  |str j=>obtain⟨t',rfl⟩:=ry;exact ne_str (jan I q (congrArg not ji8))
  |_=>exact absurd (show false=true from hs) Yai
 |byt i=>
  obtain⟨t,rfl⟩:=rx;cases y with
  |byt j=>obtain⟨t',rfl⟩:=ry;exact PySem.W.ne_bytes (jan I q (congrArg not jja))
  |_=>exact absurd (show false=true from hs) Yai
 |_=>cases y<;>exact absurd (show false=true from hs) Yai

theorem jpq  : OpR X (YaF .Lt) (rI0 λi j=>.bl (decide (i<j))):=opB0 λ_ _ _ _ _ _ _ q=>lt_int q
theorem jpr  : OpR X (YaF .LtE) (rI0 λi j=>.bl (decide (i<=j))):=opB0 λ_ _ _ _ _ _ _ q=>le_int q
theorem jps  : OpR X (YaF .Gt) (rI0 λi j=>.bl (decide (j<i))):=opB0 λ_ _ _ _ _ _ _ q=>gt_int q
theorem jpt  : OpR X (YaF .GtE) (rI0 λi j=>.bl (decide (j<=i))):=opB0 λ_ _ _ _ _ _ _ q=>ge_int q
theorem jix  : OpR X (YaF .In) (λx y H Q=>∃i j,x=.str i/\y=.str j/\Q (.bl (!(Yb5 j i 0 j.length 1).isEmpty)) H):=by
 intro pins s σ H x y v u Q I rx ry h;obtain⟨i,j,rfl,rfl,q⟩:=h;obtain⟨t,rfl⟩:=rx;obtain⟨t',rfl⟩:=ry;exact in_str (jan I q rfl)

theorem jfu  : OpR X (YaF .NotIn) (λx y H Q=>∃i j,x=.str i/\y=.str j/\Q (.bl (!(!(Yb5 j i 0 j.length 1).isEmpty))) H):=by
 intro pins s σ H x y v u Q I rx ry h;obtain⟨i,j,rfl,rfl,q⟩:=h;obtain⟨t,rfl⟩:=rx;obtain⟨t',rfl⟩:=ry;exact notIn_str (jan I q rfl)
theorem OpR.or    (h:OpR X f r)(h':OpR X f r'):OpR X f (λx y H Q=>r x y H Q\/r' x y H Q):=by
 intro pins s σ H x y v u Q I rx ry q;rcases q with q|q
 ·exact h pins s σ H x y v u Q I rx ry q
 ·exact h' pins s σ H x y v u Q I rx ry q

theorem jlC    (ho:OpR X (YaF op) r)(ha:PE X a ta)(hb:PE X b tb)(hm:YdZ op b=false):PE X (.Compare a [op] [b] pos) (tOp r ta tb):=by
 intro pins s σ H Q I h;exact wpAny_Compare1 (binT ha hb I h λv u s2 x y H2 I2 rx ry q=>ho pins s2 σ H2 x y v u Q I2 rx ry q) hm
def jmM  (t:TE):TT:=λσ H Q=>t σ H λx H'=>∃k,x=.bl k/\Q k H'
theorem jlo    (ho:OpR X (YaF op) r)(ha:PE X a ta)(hb:PE X b tb)(hm:YdZ op b=false):PT X (.Compare a [op] [b] pos) (jmM (tOp r ta tb)):=by
 intro pins s σ H Q I h;refine wpAny_isTrue_Compare1 (thn (ha pins s σ H _ I h) λv s1 ⟨x,H1,I1,r1,q1⟩=>thn (hb pins s1 σ H1 _ I1 q1) λu s2 ⟨y,H2,I2,r2,q2⟩=>
  thn (ho pins s2 σ H2 x y v u _ I2 r1 r2 q2) λc s3 ⟨z,H3,I3,r3,k,e,q3⟩=>?_) hm
 subst e;cases r3;exact YaX ⟨H3,I3,q3⟩
def jkt  (r r':R2)(ta tb tc:TE):TE:=λσ H Q=>ta σ H λx H1=>tb σ H1 λy H2=>r x y H2 λz H3=>∃k,z=.bl k/\
 (if k=true then tc σ H3 λw' H4=>r' y w' H4 Q else Q (.bl false) H3)
section
variable {op op':CmpOp}{r r':R2}
theorem jjS (ho:OpR X (YaF op) r)(ho':OpR X (YaF op') r')(ha:PE X a ta)(hb:PE X b tb)(hc:PE X c tc)
  (hm:YfM [op,op'] [b,c]=false:=by with_unfolding_all rfl):PE X (.Compare a [op,op'] [b,c] pos) (jkt r r' ta tb tc):=by
 intro pins s σ H Q I h;refine Compare_chain (thn (ha pins s σ H _ I h) λv s1 ⟨x,H1,I1,r1,q1⟩=>chain_link (thn (hb pins s1 σ H1 _ I1 q1) λu s2 ⟨y,H2,I2,r2,q2⟩=>
  thn (ho pins s2 σ H2 x y v u _ I2 r1 r2 q2) λd s3 ⟨z,H3,I3,r3,k,e,q3⟩=>?_)) hm
 subst e;cases r3;refine YaX ?_;cases k with
 |false=>exact ite_ff ⟨.bl false,H3,I3,rfl,q3⟩
 |true=>exact ite_tt (chain_last (thn (hc pins s3 σ H3 _ I3 q3) λw' s4 ⟨z',H4,I4,r4,q4⟩=>ho' pins s4 σ H4 y z' u w' Q I4 r2 r4 q4))
theorem jjH (ho:OpR X (YaF op) r)(ho':OpR X (YaF op') r')(ha:PE X a ta)(hb:PE X b tb)(hc:PE X c tc)
  (hm:YfM [op,op'] [b,c]=false:=by with_unfolding_all rfl):PT X (.Compare a [op,op'] [b,c] pos) (jmM (jkt r r' ta tb tc)):=by
 intro pins s σ H Q I h;refine isTrue_chain (thn (ha pins s σ H _ I h) λv s1 ⟨x,H1,I1,r1,q1⟩=>test_link (thn (hb pins s1 σ H1 _ I1 q1) λu s2 ⟨y,H2,I2,r2,q2⟩=>
  thn (ho pins s2 σ H2 x y v u _ I2 r1 r2 q2) λd s3 ⟨z,H3,I3,r3,k,e,q3⟩=>?_)) hm
 subst e;cases r3;refine YaX ?_;cases k with
 |false=>
  obtain⟨k',e',q'⟩:=q3;cases e';exact ite_ff ⟨H3,I3,q'⟩
 |true=>
  refine ite_tt (test_last (thn (hc pins s3 σ H3 _ I3 q3) λw' s4 ⟨z',H4,I4,r4,q4⟩=>thn (ho' pins s4 σ H4 y z' u w' _ I4 r2 r4 q4) λd' s5 ⟨z2,H5,I5,r5,k2,e2,q5⟩=>?_));subst e2;cases r5;exact YaX ⟨H5,I5,q5⟩

end
def TruV  (K:Yab)(x:V)(H:Hp)(k:Bool):Prop:=
 match x with
 |.non=>k=false
 |.bl b=>k=b
 |.int i=>k=(i != 0)
 |.str y=>y.length<=Yag/\k=((y.length:Int) != 0)
 |.byt y=>y.size<=Yag/\k=((y.size:Int) != 0)
 |.ref p=>(∃xs,SqL K H p xs/\k = !xs.isEmpty)\/(∃xs,SqT K H p xs/\k = !xs.isEmpty)\/∃kvs,H p=some (.dK kvs)/\k = !kvs.isEmpty
 |_=>False
theorem jhP     (r:KV kvs vs):(!vs.isEmpty) = !kvs.isEmpty:=by
 cases r<;>rfl
theorem jeG    (r:Vals xs its):(!its.toArray.isEmpty) = !xs.isEmpty:=by
 cases r<;>simp
theorem jeC  : (Yag:Nat)<2 ^ 63:=by rw[YbS];decide
theorem jgM  : TruR X (λx H Q=>∃k,TruV X.K x H k/\Q k H):=by
 intro pins s σ H x v Q I rx h;obtain⟨k,e,q⟩:=h;have hl:=jeC;have hs:Yag=16777216:=YbS;cases x with
 |non=>
  cases rx;have e':k=false:=e;subst e';exact truthy_none ⟨H,I,q⟩
 |bl b=>
  cases rx;have e':k=b:=e;subst e';exact YaX ⟨H,I,q⟩
 |int i=>
  obtain⟨t,rfl⟩:=rx;have e':k=(i != 0):=e;subst e';exact PySem.P.truthy_int ⟨H,I,q⟩
 |str y=>
  obtain⟨t,rfl⟩:=rx;obtain⟨hy,e'⟩:y.length<=Yag/\k=((y.length:Int) != 0):=e;subst e';exact PySem.P.truthy_str (by lia) ⟨H,I.tok _,q⟩
 |byt y=>
  obtain⟨t,rfl⟩:=rx;obtain⟨hy,e'⟩:y.size<=Yag/\k=((y.size:Int) != 0):=e;subst e';exact PySem.W.truthy_bytes (by lia) ⟨H,I.tok _,q⟩
 |ref p=>
  cases rx;have e':(∃xs,SqL X.K H p xs/\k = !xs.isEmpty)\/(∃xs,SqT X.K H p xs/\k = !xs.isEmpty)\/∃kvs,H p=some (.dK kvs)/\k = !kvs.isEmpty:=e;rcases e' with⟨xs,hx,e'⟩|⟨xs,hx,e'⟩|⟨kvs,hx,e'⟩
  ·subst e';obtain⟨its,r,pl,hz⟩:=I.list hx;have hlen:=r.length;exact wpAny_truthy_list pl.isList (by simp only[Yak];lia) ⟨H,I.tok _,by rw[jeG r];exact q⟩
  ·subst e';obtain⟨its,r,pl,hz⟩:=I.tuple hx;have hlen:=r.length;exact truthy_tuple pl (by simp only[Yak];lia) ⟨H,I.tok _,by rw[jeG r];exact q⟩
  ·subst e';obtain⟨hz,hS,vs,r,m⟩:kvs.length<=Yag/\(p==Ya3)=false/\∃vs,KV kvs vs/\s.heap.DictOf (jar X.prog X.w) p vs:=I.hok p _ hx;have hlen:kvs.length=vs.length:=Ydn r;exact wpAny_truthy_dict hS m (by lia) ⟨H,I.tok _,by rw[jhP r];exact q⟩
 |_=>exact(show False from e).elim
theorem jjG  (ha:PE X a ta)(he:∀whole,isTrue a X.env whole=(do let v <- whole;standAt a.pos;holding [v] (truthy v))) :
  PT X a (λσ H Q=>ta σ H λx H'=>∃k,TruV X.K x H' k/\Q k H'):=by
 intro pins s σ H Q I h;exact isTrue_plain (thn (ha pins s σ H _ I h) λv s1 ⟨x,H1,I1,r1,q1⟩=>jgM pins s1 σ H1 x v Q I1 r1 q1) (he _)

theorem jhA  : OpR X (Ya8 .Add) (λx y H Q=>∃i j,x=.str i/\y=.str j/\i.length+j.length<=Yag/\Q (.str (i++j)) H):=by
 intro pins s σ H x y v u Q I rx ry h;obtain⟨i,j,rfl,rfl,hz,q⟩:=h;obtain⟨t,rfl⟩:=rx;obtain⟨t',rfl⟩:=ry;exact add_str (λt' tk=>⟨.str (i++j),H,I.tok _,⟨_,rfl⟩,q⟩) hz
theorem jgn  : OpR X (YdY .Add) (λx y H Q=>∃i j,x=.str i/\y=.str j/\i.length+j.length<=Yag/\Q (.str (i++j)) H):=by
 intro pins s σ H x y v u Q I rx ry h;obtain⟨i,j,rfl,rfl,hz,q⟩:=h;obtain⟨t,rfl⟩:=rx;obtain⟨t',rfl⟩:=ry;exact iadd_str (λt' tk=>⟨.str (i++j),H,I.tok _,⟨_,rfl⟩,q⟩) hz
theorem jeQ    (r:Vals [x] us):∃u,us=[u]/\RelV x u:=by
 cases r with
 |cons r1 r2=>cases r2;exact⟨_,rfl,r1⟩
theorem joF    (r:Vals [x,y] us):∃u w',us=[u,w']/\RelV x u/\RelV y w':=by
 cases r with
 |cons r1 r2=>
  cases r2 with
  |cons r3 r4=>cases r4;exact⟨_,_,rfl,r1,r3⟩
theorem jji  (hc:X.calm=true):ja8 X (.builtin "min") (λxs H Q=>∃i j,xs=[.int i,.int j]/\Q (.int (if j<i then j else i)) H):=by
 intro pins s σ H xs us Q I r h;obtain⟨i,j,rfl,q⟩:=h;obtain⟨u,w',rfl,⟨t,rfl⟩,⟨t',rfl⟩⟩:=joF r;refine min_two_ints (I.ok.hd hc) λh' tk k=>⟨_,H,I.kept k,?_,q⟩;by_cases hj:j<i
 ·rw[if_pos hj,if_pos hj];exact⟨_,rfl⟩
 ·rw[if_neg hj,if_neg hj];exact⟨_,rfl⟩
theorem jjn  : ja8 X (.type "int") (λxs H Q=>(∃i,xs=[.int i]/\Q (.int i) H)\/∃k,xs=[.bl k]/\Q (.int (if k then 1 else 0)) H):=by
 intro pins s σ H xs us Q I r h;rcases h with⟨i,rfl,q⟩|⟨k,rfl,q⟩
 ·obtain⟨u,rfl,t,rfl⟩:=jeQ r;exact call_int_int ⟨.int i,H,I,⟨_,rfl⟩,q⟩
 ·obtain⟨u,rfl,r1⟩:=jeQ r;cases r1;exact call_int_bool ⟨.int (if k then 1 else 0),H,I.tok _,⟨_,rfl⟩,q⟩
def LenV  (K:Yab)(x:V)(H:Hp)(n:Nat):Prop:=
 match x with
 |.str y=>y.length<=Yag/\n=y.length
 |.byt y=>y.size<=Yag/\n=y.size
 |.ref p=>(∃xs,SqL K H p xs/\n=xs.length)\/∃xs,SqT K H p xs/\n=xs.length
 |_=>False
theorem jkg  : ja8 X (.builtin "len") (λxs H Q=>∃x n,xs=[x]/\LenV X.K x H n/\Q (.int n) H):=by
 intro pins s σ H xs us Q I r h;obtain⟨x,n,rfl,e,q⟩:=h;obtain⟨u,rfl,rx⟩:=jeQ r;have hl:=jeC;have hs:Yag=16777216:=YbS;cases x with
 |str y=>
  obtain⟨t,rfl⟩:=rx;obtain⟨hy,e'⟩:y.length<=Yag/\n=y.length:=e;subst e';exact len_str (by lia) ⟨.int _,H,I.tok _,⟨_,rfl⟩,q⟩
 |byt y=>
  obtain⟨t,rfl⟩:=rx;obtain⟨hy,e'⟩:y.size<=Yag/\n=y.size:=e;subst e';exact PySem.W.len_bytes (by lia) ⟨.int _,H,I.tok _,⟨_,rfl⟩,q⟩
 |ref p=>
  cases rx;have e':(∃xs,SqL X.K H p xs/\n=xs.length)\/∃xs,SqT X.K H p xs/\n=xs.length:=e;rcases e' with⟨xs,hx,e'⟩|⟨xs,hx,e'⟩
  ·subst e';obtain⟨its,r',pl,hz⟩:=I.list hx;have hlen:=r'.length;exact Calls.call_len_list pl.isList (by simp only[Yak];lia) ⟨.int xs.length,H,I.tok _,⟨_,by simp only[Yak];rw[hlen]⟩,q⟩
  ·subst e';obtain⟨its,r',pl,hz⟩:=I.tuple hx;have hlen:=r'.length;exact len_tuple pl (by simp only[Yak];lia) ⟨.int xs.length,H,I.tok _,⟨_,by simp only[Yak];rw[hlen]⟩,q⟩
 |_=>exact(show False from e).elim
end

structure ObjM (h:Heap)(x dx C:Addr)(mA:Str->Option Value):Prop where
 obj:h.get? x=some (YdJ C dx)
 ns:h.Ns1 dx mA
 ne:dx≠x

theorem jiM  {h:Heap}(n:h.Ns1 dx mA):∃od,h.get? dx=some od/\∀name,Yd3 name od=some (mA name):=by
 obtain⟨o,es,ep,ho,hd,hk,_,hm⟩:=n;refine⟨o,ho,λname=>?_⟩;have e:=hm name;unfold nsFind findBy at e;rw[<- Ydx]at e;unfold Yd3;rw[hd];dsimp only;split
 ·rename_i y q;rw[q]at e;exact congrArg some e
 ·rename_i q;rw[q]at e;have a:es.toList.any (·.refKey)=false:=by
   rw[List.any_eq_false];intro y hy;obtain⟨z,t,hkey⟩:=hk y (Array.mem_toList_iff.mp hy);simp[Ydv.refKey,hkey]
  have a':¬es.toList.any (·.refKey)=true:=by rw[a];exact Yai
  rw[if_neg a'];exact congrArg some e

theorem ObjM.look     (I:ObjM h x dx C mA):∃od,PySem.W.InstAt h x (YdJ C dx) C (some od)/\∀name,Yd3 name od=some (mA name):=
 let ⟨od,ho,hl⟩:=jiM I.ns
 ⟨od,⟨I.obj,rfl,rfl,ho⟩,hl⟩



noncomputable def putF  (f:Str)(v:V):List (Str×V)->List (Str×V)
 |[]=>[(f,v)]
 |(g,x)::r=>if g=f then (g,v)::r else (g,x)::putF f v r
theorem jd5   f g v:∀fs ,(putF f v fs).lookup g=if g=f then some v else fs.lookup g
 |[]=>by
  show Ybs g [(f,v)]=_;by_cases h:g=f
  ·have hb:(g==f)=true:=beq_iff_eq.mpr h;simp only[Ybs,hb,if_pos h]
  ·have hb:(g==f)=false:=beq_eq_false_iff_ne.mpr h;simp only[Ybs,hb,if_neg h]
 |(k,x)::r=>by
  have ih:=jd5 f g v r;rw[show putF f v ((k,x)::r)=(if k=f then (k,v)::r else (k,x)::putF f v r)from rfl]
  by_cases hk:k=f
  ·rw[if_pos hk];by_cases h:g=k
   ·have hb:(g==k)=true:=beq_iff_eq.mpr h;simp only[Ybs,hb,if_pos (h.trans hk)]
   ·have hb:(g==k)=false:=beq_eq_false_iff_ne.mpr h;simp only[Ybs,hb,if_neg (λe:g=f=>h (e.trans hk.symm))]
  ·rw[if_neg hk];by_cases h:g=k
   ·have hb:(g==k)=true:=beq_iff_eq.mpr h;simp only[Ybs,hb,if_neg (λe:g=f=>hk (h.symm.trans e))]
   ·have hb:(g==k)=false:=beq_eq_false_iff_ne.mpr h;simp only[Ybs,hb];exact ih
theorem RelO.some_of    (r:RelO (some v) o):∃u,o=some u/\RelV v u:=by
 cases o with
 |none=>exact(show False from r).elim
 |some u=>exact⟨u,rfl,r⟩
theorem RelO.none_of   (r:RelO none o):o=none:=by
 cases o with
 |none=>rfl
 |some u=>exact(show False from r).elim

theorem jmf  (hok:HOk P w H h)(e:H a=some (.ins C dx fs)):∃mA,ObjM h a dx C mA/\(∀f,RelO (fs.lookup f) (mA f))/\PySem.Within mA (fs.map (·.1))/\fs.length<=1000/\H dx=some (.own a):=by
 obtain⟨d,z,ne,ob,mA,n,r,q⟩:=(show jaE P w H h a (.ins C dx fs)from hok a _ e);exact⟨mA,⟨ob,n,ne⟩,r,q,z,d⟩

structure Cls (K:Yab)(C:Addr):Prop where
 pg:Yfc K C Str.empty=true
 hd:PySem.W.hasDictIn K C=true
 po:PySem.W.plainOver K C=true
 sa:YfD K (.ref C) "__setattr__" = some (some (.builtin "object.__setattr__"))
theorem Cls.get  {K:Yab}(c:Cls K C) f:Yfc K C f=true:=c.pg

theorem jmu          (hb:Ycp e f env (eval e env)=eval e env)
  (h:wpAny (model prog w) A (eval e env) (λo s₁=>wpAny (model prog w) A (getAttr o f true) Q E s₁) E s):wpAny (model prog w) A (eval (.Attribute e f pos) env) Q E s:=
 Attribute_any_ h (by rw[arm_eval_Attribute,hb])



section
variable {X:Cx}{pins:List (Addr×Obj)}{σ:St}{H:Hp}{s:Shared}{A:Around}{E:Value->Shared->Prop}{Q:Value->Shared->Prop}{c:Value}{b:Bool}
inductive TyOf (K:Yab)(H:Hp):V->Value->Prop where
 |non:TyOf K H .non (.type "NoneType")
 |bl (x:Bool):TyOf K H (.bl x) (.type "bool")
 |int (i:Int):TyOf K H (.int i) (.type "int")
 |str (x:Str):TyOf K H (.str x) (.type "str")
 |flt (x:UInt64):TyOf K H (.flt x) (.type "float")
 |lst {a:Addr} {xs:List V} (e:H a=some (.lst xs)):TyOf K H (.ref a) (.type "list")
 |frz {a:Addr} {o:Obj} {xs:List V} (e:H a=some (.frz o (.lst xs))):TyOf K H (.ref a) (.type "list")
 |tup {a:Addr} {xs:List V} (e:H a=some (.tup xs)):TyOf K H (.ref a) (.type "tuple")
 |dK {a:Addr} {kvs:List (Key×V)} (e:H a=some (.dK kvs)):TyOf K H (.ref a) (.type "dict")
 |dT {a:Addr} {kvs:List (List Key×V)} (e:H a=some (.dT kvs)):TyOf K H (.ref a) (.type "dict")
 |ins {a C dx:Addr} {fs:List (Str×V)} (e:H a=some (.ins C dx fs)) (cl:Cls K C) (ha:YfD K (.ref C) "__class__" = some (some (.builtin "object.__class__")))
   (hn:PySem.W.specialIn K (.builtin "object.__class__") "__get__" = some (some (.builtin "getset_descriptor.__get__"))) (htk:PySem.W.takesIn K (.builtin "object.__class__")=some true)
   (hm:PySem.W.mroIn K C (.type "object")=some true):TyOf K H (.ref a) (.ref C)
theorem jiU    (I:Inv X pins σ H s)(rx:RelV x u)(ty:TyOf X.K H x t)(e:Yc9 X.K t c=some b)(h:∀tk,Q (.bool b) { s with toks:=tk }) :
  wpAny (model X.prog X.w) A (call (.builtin "isinstance") [u,c]) Q E s:=by
 cases ty with
 |non=>cases(show u=Ybm from rx);exact Ya5 PySem.W.kitx_none I.kIn YbN e (λz=>nomatch z) h
 |bl y=>cases(show u=Yen y from rx);exact Ya5 PySem.W.kitx_bool I.kIn YbN e (λz=>nomatch z) h
 |int i=>obtain⟨t,q⟩:=(show ∃t,u=Yd2 i t from rx);cases q;exact Ya5 PySem.W.kitx_int I.kIn YbN e (λz=>nomatch z) h
 |str y=>obtain⟨t,q⟩:=(show ∃t,u=YeK y t from rx);cases q;exact Ya5 PySem.W.kitx_str I.kIn YbN e (λz=>nomatch z) h
 |flt y=>obtain⟨t,q⟩:=(show ∃t,u=Value.float y t from rx);cases q;exact Ya5 PySem.W.kitx_float I.kIn YbN e (λz=>nomatch z) h
 |@lst a xs ea=>
  cases(show u=YaP a from rx);obtain⟨_,_,n,_,h1⟩:=(show jaE X.prog X.w H s.heap a (.lst xs)from I.hok a _ ea);exact Ya5 Ye0 I.kIn ⟨_,h1,rfl⟩ e (λz=>nomatch z) h
 |@frz a ob xs ea=>
  cases(show u=YaP a from rx);obtain⟨_,_,_,n,_,h1⟩:=(show jaE X.prog X.w H s.heap a (.frz ob (.lst xs))from I.hok a _ ea);exact Ya5 Ye0 I.kIn ⟨_,h1,rfl⟩ e (λz=>nomatch z) h
 |@tup a xs ea=>
  cases(show u=YaP a from rx);obtain⟨_,_,_,p⟩:=(show jaE X.prog X.w H s.heap a (.tup xs)from I.hok a _ ea);obtain⟨o,h1,h2,_⟩:=p;exact Ya5 PySem.W.kitx_tuple I.kIn ⟨o,h1,h2⟩ e (λz=>nomatch z) h
 |@dK a kvs ea=>
  cases(show u=YaP a from rx);obtain⟨_,_,vs,_,p⟩:=(show jaE X.prog X.w H s.heap a (.dK kvs)from I.hok a _ ea);obtain⟨o,es,ep,h1,h2,_⟩:=p;exact Ya5 Ye1 I.kIn ⟨o,h1,h2.1⟩ e (λz=>nomatch z) h
 |@dT a kvs ea=>
  cases(show u=YaP a from rx);obtain⟨_,_,xs,_,o,es,ep,h1,h2,_⟩:=(show jaE X.prog X.w H s.heap a (.dT kvs)from I.hok a _ ea);exact Ya5 Ye1 I.kIn ⟨o,h1,h2.1⟩ e (λz=>nomatch z) h
 |@ins a C dx fs ea cl ha hn htk hm=>
  cases(show u=YaP a from rx);obtain⟨mA,O,_⟩:=jmf I.hok ea;obtain⟨od,J,_⟩:=O.look;exact Ya5 (PySem.W.kitx_own (cl.get _) cl.hd ha hn htk hm) I.kIn J e (λz=>nomatch z) h
end

structure Room (k:Nat)(A:Around):Prop where
 hd:A.handled=none
 dp:A.depth+k+20<recursionLimit
 un:A.units+8*k+200<cLine
 gd:A.guards=some []
theorem Room.mono    (r:Room k A)(h:j<=k):Room j A:=⟨r.hd,by have:=r.dp;lia,by have:=r.un;lia,r.gd⟩
theorem Room.deeper    (r:Room (k+1) A) env:Room k (A.deeper env):=
 ⟨r.hd,by have:=r.dp;show A.depth+1+k+20<_;lia,by have:=r.un;show A.units+3+8*k+200<_;lia,r.gd⟩
theorem jhL  {A:Around}:(A.under (.builtin "type.__call__" ⟨.ref C::us,kw⟩)).depth=A.depth+1:=by
 first|rfl|simp[YeH,Code.weight,Code.isCreation,Code.isGuard,Code.isCaller,Code.frames,YeU,guardIds]
theorem jhK  {A:Around}:(A.under (.builtin "type.__call__" ⟨.ref C::us,kw⟩)).units=A.units+1:=by
 first|rfl|simp[YeH,Code.cUnits,Code.frames,YeU]
theorem Room.make    (r:Room (k+1) A) C us kw:Room k (A.under (.builtin "type.__call__" ⟨.ref C::us,kw⟩)):=
 ⟨r.hd,by have:=r.dp;rw[jhL];lia,by have:=r.un;rw[jhK];lia,r.gd⟩
theorem Room.depth    (r:Room k A):A.depth<recursionLimit:=by have:=r.dp;lia
theorem Room.units    (r:Room k A):A.units+64<cLine:=by have:=r.un;lia
theorem Room.units0    (r:Room k A):A.units<cLine:=by have:=r.un;lia

def tNil  : TA:=λ_ H Q=>Q [] H
def jh8  (ta:TE)(tr:TA):TA:=λσ H Q=>ta σ H λx H1=>tr σ H1 λxs H2=>Q (x::xs) H2
section
variable {X:Cx}{e:Expr}{es:List Expr}{te:TE}{t:TA}{pos:Pos}
theorem jdZ  : PA X [] tNil:=λ_ _ _ _ H Q I h=>Calls.spliced_nil ⟨[],H,I,.nil,h⟩
theorem jaN (ha:PE X e te)(hr:PA X es t)(hs:Yat (e::es) X.env=(false,eval e X.env)::Yat es X.env:=by rfl):PA X (e::es) (jh8 te t):=by
 intro pos pins s σ H Q I h;rw[hs];show wpAny _ _ (spliced ((false,eval e X.env)::backTo pos (Yat es X.env))) _ _ s;refine Calls.spliced_cons (thn (ha pins s σ H _ I h) λu s1 ⟨x,H1,I1,r1,q1⟩=>?_);exact thn (hr pos pins s1 σ H1 _ I1 q1) λus s2 ⟨xs,H2,I2,r2,q2⟩=>⟨x::xs,H2,I2,.cons r1 r2,q2⟩

def tTup  (t:TA):TE:=λσ H Q=>t σ H λxs H1=>xs.length<=Yag/\∀p,H1 p=none->Q (.ref p) (upd H1 p (.tup xs))
def tLst  (t:TA):TE:=λσ H Q=>t σ H λxs H1=>xs.length<=Yag/\∀p,H1 p=none->Q (.ref p) (upd H1 p (.lst xs))
theorem jip   (h:PA X es t):PE X (.Tuple es x1 pos) (tTup t):=by
 intro pins s σ H Q I hq;refine wpAny_Tuple_spliced (thn (h pos pins s σ H _ I hq) λus s1 ⟨xs,H1,I1,r,z,q⟩=>⟨by rw[<- r.length];exact z,?_⟩)
 have hf:H1 s1.heap.objs.size=none:=I1.hok.fresh (Yae _);refine⟨.ref s1.heap.objs.size,upd H1 s1.heap.objs.size (.tup xs),I1.laid (t':=s1.toks) (λb u e=>Yad _ e) (Yae _) ?_,rfl,q _ hf⟩;exact⟨z,us,r,⟨_,YaA _ rfl,rfl,_,rfl,rfl⟩⟩
theorem jkx  (h:PA X es t):PE X (.List es pos) (tLst t):=by
 intro pins s σ H Q I hq;refine wpAny_List_spliced (thn (h pos pins s σ H _ I hq) λus s1 ⟨xs,H1,I1,r,z,q⟩=>⟨by rw[<- r.length];exact z,?_⟩)
 have hf:H1 s1.heap.objs.size=none:=I1.hok.fresh (Yae _);refine⟨.ref s1.heap.objs.size,upd H1 s1.heap.objs.size (.lst xs),I1.laid (t':=s1.toks) (λb u e=>Yad _ e) (Yae _) ?_,rfl,q _ hf⟩;exact⟨z,us,0,r,YaA _ rfl⟩
end

abbrev Sp:=List V->Hp->VK->XK->Prop
abbrev CXT:=List Env->Hp->Shared->XK->Value->Shared->Prop

structure Env0 (P:Program)(w:World)(K:Yab)(mg:Str->Option Value)(base:Heap)(A:Around)(outer:List Env)(s:Shared)(H:Hp):Prop where
 frames:A.frames=some outer
 mod:Mod K mg base
 bs:∀b o,base.get? b=some o->s.heap.get? b=some o/\H b=none
 bsz:base.objs.size<=s.heap.objs.size
 funs:s.heap.FunFrames base outer
 frf:∀b∈frs outer,H b=none
 hok:HOk P w H s.heap
 bare:AllBare s.gens
def CE  (outer:List Env)(P:Program)(w:World)(H:Hp)(s:Shared)(Q:VK)(u:Value)(s':Shared):Prop:=
 ∃v H',s'.os=s.os/\AllBare s'.gens/\Un (frs outer) [] H H' s.heap s'.heap/\HOk P w H' s'.heap/\RelV v u/\Q v H'
def CR  (CX:CXT)(outer:List Env)(P:Program)(w:World)(H:Hp)(s:Shared)(Q:VK)(E:XK)(r:Result)(s':Shared):Prop:=
 match r with
 |.ok (.ret u)=>CE outer P w H s Q u s'
 |.ok _=>False
 |.error e=>CX outer H s E e s'
structure FnOk (P:Program)(w:World)(K:Yab)(mg:Str->Option Value)(base:Heap)(CX:CXT)(k:Nat)(f:Addr)(fd:YeF)(ps:List Str)(sp:Sp):Prop where
 len:∀vs H Q E,sp vs H Q E->vs.length=ps.length
 run:∀(A:Around) (outer:List Env) (s:Shared) (H:Hp) (args:Args) (us:List Value) (vs:List V) (Q:VK) (E:XK),Room k A->Env0 P w K mg base A outer s H->BindsTo s fd args (ps.zip us)->Vals vs us->sp vs H Q E->
  codeAny (model P w) A (.call (.ref f) args) (CR CX outer P w H s Q E) s
theorem Env0.make    {K:Yab}(e:Env0 P w K mg base A outer s H) C us kw :
  Env0 P w K mg base (A.under (.builtin "type.__call__" ⟨.ref C::us,kw⟩)) outer s H:=⟨by first|exact e.frames|(simpa[YeH,Code.envs,YeU,pushEnvs]using e.frames),e.mod,e.bs,e.bsz,e.funs,e.frf,e.hok,e.bare⟩

theorem Inv.env0  {σ: St}(I:Inv X pins σ H s):Env0 X.prog X.w X.K X.mg X.base X.A X.stack s H:=
 ⟨I.ok.frames,I.ok.mod,I.bs,Yaf I.ok.bsz I.sz,I.stack,I.stkFree,I.hok,I.bare⟩
theorem Inv.after  {σ: St}(I:Inv X pins σ H s)(h:CE X.stack X.prog X.w H s Q u s'):EP X pins σ Q u s':=by
 obtain⟨v,H',os,bare,un,hok,r,q⟩:=h;obtain⟨hh,g,d,t,os'⟩:=s';obtain rfl:os'=s.os:=os;exact⟨v,H',I.call (h':=hh) (g':=g) (d':=d) (t':=t) (ch:=[]) un hok bare (λb z=>absurd z (by simp)),r,q⟩

def Binds  (K:Yab)(fd:YeF)(ps:List Str)(ds:List Value):Prop:=
 ∀(s:Shared) (us:List Value),K.In s.heap->(us++ds).length=ps.length->BindsTo s fd ⟨us,[]⟩ (ps.zip (us++ds))
theorem Binds.all  {K:Yab}(h:∀us ,us.length=ps.length->Yfo fd ⟨us,[]⟩=pure (ps.zip us)):Binds K fd ps []:=λs us _ hl=>by
 rw[Ybb]at hl ⊢;exact .of_eq (h us hl)





structure FnScope (N P:List Str)(sc:Scope):Prop where
 kind:sc.kind=.function
 co:sc.isCoroutine=false
 gen:sc.isGenerator=false
 nd:N.Nodup
 pre:N.take P.length=P
 par:∀x∈P,sc.names.lookup x=some .local\/sc.names.lookup x=some .cell
 nofree:∀y∈sc.names,y.2≠.free

theorem jfT  {kindOf:Str->Option Ybp}:∀{binds } {m },(∀v,(x,v)∉binds)->bindL kindOf binds m x=m x
 |[],_,_=>rfl
 |(n,v)::r,m,h=>by
  unfold bindL;rw[jfT λw hw=>h w (Yan _ hw)];split
  ·have:x≠n:=by rintro rfl;exact h v YaH
   simp[this]
  ·rfl
theorem jfV  {kindOf:Str->Option Ybp}:∀{binds } {m },(∀v,(x,v)∉binds)->bindC kindOf binds m x=m x
 |[],_,_=>rfl
 |(n,v)::r,m,h=>by
  unfold bindC;rw[jfV λw hw=>h w (Yan _ hw)];split
  ·rfl
  ·have:x≠n:=by rintro rfl;exact h v YaH
   simp[this]
theorem jfU  {kindOf:Str->Option Ybp}:∀{P:List Str} {vs } {i:Nat} {m },P.Nodup->P[i]?=some x->vs[i]?=some v->kindOf x=some .local->
  bindL kindOf (P.zip vs) m x=some v
 |[],_,_,_,_,h,_,_=>by simp at h
 |_::_,[],_,_,_,_,h,_=>by simp at h
 |p::P,w::vs,0,m,nd,h1,h2,hk=>by
  simp at h1 h2;subst h1;subst h2;show bindL kindOf ((p,w)::P.zip vs) m p=_;unfold bindL;rw[jfT λv hv=>(List.nodup_cons.mp nd).1 (Ycf hv).1,if_pos hk];simp
 |p::P,w::vs,i+1,m,nd,h1,h2,hk=>by
  show bindL kindOf ((p,w)::P.zip vs) m x=_;unfold bindL;exact jfU (i:=i) (List.nodup_cons.mp nd).2 (by simpa using h1) (by simpa using h2) hk
theorem jfW  {kindOf:Str->Option Ybp}:∀{P:List Str} {vs } {i:Nat} {m },P.Nodup->P[i]?=some x->vs[i]?=some v->kindOf x≠some .local->
  bindC kindOf (P.zip vs) m x=some v
 |[],_,_,_,_,h,_,_=>by simp at h
 |_::_,[],_,_,_,_,h,_=>by simp at h
 |p::P,w::vs,0,m,nd,h1,h2,hk=>by
  simp at h1 h2;subst h1;subst h2;show bindC kindOf ((p,w)::P.zip vs) m p=_;unfold bindC;rw[jfV λv hv=>(List.nodup_cons.mp nd).1 (Ycf hv).1,if_neg hk];simp
 |p::P,w::vs,i+1,m,nd,h1,h2,hk=>by
  show bindC kindOf ((p,w)::P.zip vs) m x=_;unfold bindC;exact jfW (i:=i) (List.nodup_cons.mp nd).2 (by simpa using h1) (by simpa using h2) hk

noncomputable def start  (N:List Str)(vs:List V):St:=vs.map some++Yaa (N.length-vs.length) none

noncomputable def cxOf  (CX:CXT)(P:Program)(w:World)(K:Yab)(mg:Str->Option Value)(base:Heap)(N:List Str)(qual:Str)(scope:Scope)(f:Addr)(cd:Value)(A:Around)(outer:List Env)(s:Shared)(H:Hp)(E:XK):Cx where
 prog:=P
 w:=w
 K:=K
 mg:=mg
 base:=base
 A:=A.deeper (envOfC qual scope s.heap.objs.size f cd)
 N:=N
 s₀:=s
 H₀:=H
 env:=envOfC qual scope s.heap.objs.size f cd
 outer:=outer
 stack:=envOfC qual scope s.heap.objs.size f cd::outer
 ex:=[]
 calm:=true
 fn:=λ_=>true
 pn:=[]
 xe:=λe s'=>wpAny (model P w) (A.deeper (envOfC qual scope s.heap.objs.size f cd)) (leaving (envOfC qual scope s.heap.objs.size f cd) e) (λ_ s''=>CX outer H s E e s'') (λe' s''=>CX outer H s E e' s'') s'

theorem jfd  {sc:Scope}(h:sc.names.lookup x=some .cell):∃c,(Ya7 n sc.names []).lookup x=some c:=by
 have q:=Yce sc.names n [] (.inl h);exact Option.isSome_iff_exists.mp q

theorem jd8     {K:Yab} 
  (S:FnScope N ps scope) (hd:A.handled=none) (e0:Env0 P w K mg base A outer s H) (hl:vs.length=ps.length) (r:Vals vs us)
  (x:InCallC s s.heap.objs.size (bindL (envOfC qual scope s.heap.objs.size f cd).kindOf (ps.zip us) λ_=>none) (Ya7 (s.heap.objs.size+1) scope.names []) (bindC (envOfC qual scope s.heap.objs.size f cd).kindOf (ps.zip us) λ_=>none) s1) :
  Inv (cxOf CX P w K mg base N qual scope f cd A outer s H E) [] (start N vs) H s1:=by
 have hpl:ps.length<=N.length:=by have:=congrArg List.length S.pre;rw[Ycv]at this;lia
 obtain⟨h1,tk,rfl,hk⟩:=x.done;have noA:∀b:Addr,b∉(cxOf CX P w K mg base N qual scope f cd A outer s H E).ex:=λb z=>absurd (show b∈([]:List Addr)from z) (by simp)
 refine⟨⟨e0.mod,S.kind,rfl,rfl,Yae _,λy z c h1 h2=>?_,λy hy=>?_,λy c _ h=>?_,λ_=>hd,YeP e0.frames,.inr ⟨rfl,rfl⟩,λb z=>absurd z (noA b),e0.bs,e0.bsz,λb _ _=>noA b,λb z=>absurd z (noA b),e0.funs,e0.frf⟩,
  rfl,e0.bare,Un.kept hk,⟨_,x.toInCall.ns,λi y v h1 h2 h3=>?_⟩,λy c h=>⟨_,x.cell y c h⟩,e0.hok.fresh (Yae _),λy c h=>?_,λp hp=>absurd (show p∈([]:List (Addr×Obj))from hp) (by simp),e0.hok.kept hk,?_⟩
 ·exact name_of_addr x.apart (Yaq h1) (Yaq h2)
 ·have hy:scope.names.lookup y=some .cell\/scope.names.lookup y=some .free:=hy;rcases hy with hy|hy
  ·exact jfd hy
  ·exact absurd rfl (S.nofree _ (Yaq hy))
 ·exact YbY (x.above y c (Yaq h))
 ·have hi:i<vs.length:=by
   unfold start at h2;by_cases hi:i<vs.length
   ·exact hi
   ·rw[Ybn (by simpa using hi)]at h2
    rw[Ycg]at h2;split at h2<;>cases h2
  have ha:vs[i]?=some v:=by
   unfold start at h2;rw[Ya1 (by simpa using hi),YaN]at h2
   cases e:vs[i]? with
   |none=>rw[e]at h2;cases h2
   |some a=>rw[e]at h2;cases h2;rfl
  obtain⟨u,hu,rv⟩:=r.get ha;have hp:ps[i]?=some y:=by
   rw[<- S.pre,Yez (by lia)];exact h1
  have ndP:ps.Nodup:=by rw[<- S.pre];exact S.nd.sublist (YdE _ _)
  refine⟨u,rv,?_⟩;rcases S.par y (Yay hp)with k|k
  ·exact .inl ⟨k,jfU ndP hp hu k⟩
  ·obtain⟨c,e⟩:=jfd (n:=s.heap.objs.size+1) k;refine .inr ⟨.inl k,c,e,?_⟩;have q:=x.cell y c e;rw[jfW ndP hp hu (by show scope.names.lookup y≠_;rw[k];decide)]at q
   exact q
 ·exact e0.hok.fresh (YbY (x.above y c (Yaq h)))
 ·unfold start;show _=N.length;rw[Yaz,Yaj,YeR]
  lia

theorem jpG     {K : Yab}{dV kV doc pm cdv ct oc : Value} 
       (lk : K.lookup f = some ⟨oc, od, .func (Ya2 name qual params body scope dV kV doc pm an cdv ct), osl⟩) (hcd : Ybo K cdv qual = true) (S : FnScope N ps scope)
    (len : ∀ vs H Q E, sp vs H Q E -> vs.length = ps.length)
    (hbody : ∀ (A : Around) outer (s : Shared) H (vs : List V) Q E , Room k (A.deeper (envOfC qual scope s.heap.objs.size f cdv)) -> sp vs H Q E ->
      ∃ t, PSs (cxOf CX P w K mg base N qual scope f cdv A outer s H E) body t /\ t { nx := λ_ H' => Q .non H', rt := Q } (start N vs) H) :
    FnOk P w K mg base CX (k + 1) f (Ya2 name qual params body scope dV kV doc pm an cdv ct) ps sp := by
  refine ⟨len, λA outer s H args us vs Q E hr e0 hb r hsp => ?_⟩
  have hl := len _ _ _ _ hsp
  have KX : K.In s.heap := e0.mod.kin.keeps λb o e => (e0.bs b o e).1
  have lim : s.heap.NoLimit := e0.mod.nolimit.keeps λb o e => (e0.bs b o e).1
  have hkind : ∀ y ∈ ps.zip us, scope.names.lookup y.1 = some .local \/ (scope.names.lookup y.1 = some .cell /\ ((Ya7 (s.heap.objs.size + 1) scope.names []).lookup y.1).isSome = true) := λ⟨n, v⟩ hy => by
    rcases S.par n (Ycf hy).1 with q | q
    · exact .inl q
    · exact .inr ⟨q, Yce _ _ _ (.inl q)⟩
  refine Ydt hr.depth (KX _ _ lk) rfl S.co S.gen rfl (Ydh KX hcd) (hb _ _ _ _ ?_)
  refine YcW S.kind hkind λenv he s1 x => ?_
  subst he
  refine ⟨lim.keeps x.toInCall.keep, YfO ?_⟩
  obtain ⟨t, ht, hq⟩ := hbody A outer s H vs Q E (hr.deeper _) hsp
  have I : Inv (cxOf CX P w K mg base N qual scope f cdv A outer s H E) [] (start N vs) H s1 := jd8 S hr.hd e0 hl r x
  refine YaL (ht [] s1 (start N vs) H _ I hq) (λfl s' hs => ?_) λe s' hs => hs
  have fin : ∀ {σ' : St} {H' : Hp} {v : V} {u : Value}, Inv (cxOf CX P w K mg base N qual scope f cdv A outer s H E) [] σ' H' s' -> RelV v u -> Q v H' -> CE outer P w H s Q u s' :=
    λ{σ' H' v u} J rv q => ⟨v, H', J.os, J.bare, J.base, J.hok, rv, q⟩
  cases fl with
  | ret u =>
    obtain ⟨v, σ', H', J, rv, q⟩ := hs
    exact fin J rv q
  | next =>
    obtain ⟨σ', H', J, q⟩ := hs
    exact fin (v := V.non) (u := Ybm) J rfl q
  | brk =>
    obtain ⟨_, _, _, q⟩ := hs
    exact Ybz q
  | cont =>
    obtain ⟨_, _, _, q⟩ := hs
    exact Ybz q
section
variable {X:Cx}{x:Str}{p pos:Pos}{e:Expr}{es:List Expr}{t:TA}{id T:String}{r:List V->Hp->VK->Prop}

def tCB  (r:List V->Hp->VK->Prop)(t:TA):TE:=λσ H Q=>t σ H λvs H1=>r vs H1 Q
theorem jdQ (hc:ja8 X (.builtin id) r)(hg:Gl X x)(hm:X.mg x=none)(hv:YbP x=some (.builtin id))(ha:PA X (e::es) t)(hn:x ≠ "__name__" := by decide)(hdb:(x==("__debug__" : Str))=false:=by decide)
  (he:Yat (e::es) X.env=(false,eval e X.env)::Yat es X.env:=by rfl) (hpl:(backTo pos (Yat es X.env)).any (·.1)=false:=by rfl):PE X (.Call (.Name x p) (e::es) [] pos) (tCB r t):=by
 intro pins s σ H Q I h;refine Ybw (jg3 I hg hm hv ?_ hn hdb);exact PyProof.Rows.callWith_builtin1 (thn (ha pos pins s σ H _ I h) λus s1 ⟨vs,H1,I1,r1,q1⟩=>hc pins s1 σ H1 vs us Q I1 r1 q1) he hpl
theorem jft (hc:ja8 X (.type T) r)(hg:Gl X x)(hm:X.mg x=none)(hv:YbP x=some (.type T))(ha:PA X (e::es) t)(hn:x ≠ "__name__" := by decide)(hdb:(x==("__debug__" : Str))=false:=by decide)
  (he:Yat (e::es) X.env=(false,eval e X.env)::Yat es X.env:=by rfl) (hpl:(backTo pos (Yat es X.env)).any (·.1)=false:=by rfl):PE X (.Call (.Name x p) (e::es) [] pos) (tCB r t):=by
 intro pins s σ H Q I h;refine Ybw (jg3 I hg hm hv ?_ hn hdb);exact Ydm (thn (ha pos pins s σ H _ I h) λus s1 ⟨vs,H1,I1,r1,q1⟩=>hc pins s1 σ H1 vs us Q I1 r1 q1) he hpl
end
end L2

namespace HT
open PySem PyProof.Rows

section
open PySem.SeqAt
open PySem.AutoSeq1 (wpAny_loadPart')
open PySem.MeetsSeq PySem.MeetsSeq2 PySem.MeetsSeq3

end

section
variable {prog:Program}{w:World}{A:Around}{E:Value->Shared->Prop}{s:Shared}

theorem cat_tup     (ht:IsTup s.heap t vs.toArray)(hb:IsTup s.heap b ws.toArray)(hv:vs≠[])
  (h1:ws=[]->Q (.ref t) s) (h2:ws≠[]->Q (.ref s.heap.objs.size) { s with heap:=s.heap.push { cls:=.type "tuple",data:=.seq (vs++ws).toArray } })
  (hsz:vs.length+ws.length<=Yag):wpAny (model prog w) A (Ya8 .Add (.ref t) (.ref b)) Q E s:=by
 obtain⟨⟨cls,dd,data,sl⟩,ho,hc,n,hd⟩:=id ht;obtain⟨⟨cls2,dd2,data2,sl2⟩,ho2,hc2,n2,hd2⟩:=id hb;simp only at hc hd hc2 hd2;subst hc hd hc2 hd2;have e:vs.toArray++ws.toArray=(vs++ws).toArray:=by simp
 by_cases hw:ws=[]
 ·exact YfN ⟨_,ho,rfl⟩ ⟨_,ho2,rfl⟩ Yeu Yfl YcY YcS (YcH _ _)
   (tuple_addW1 t b vs.toArray ws.toArray n n2 dd dd2 sl sl2 (by simpa using hv) (by simp[hw])) ⟨ho,ho2,h1 hw⟩
 ·refine YfN ⟨_,ho,rfl⟩ ⟨_,ho2,rfl⟩ Yeu Yfl YcY YcS (YcH _ _)
   (tuple_addW2 t b vs.toArray ws.toArray n n2 dd dd2 sl sl2 (by simpa using hv) (by simpa using hw) (by rw[Yak,Yak];exact hsz)) ⟨ho,ho2,?_⟩
  rw[e];exact h2 hw

noncomputable def sIx  (n d:Nat):Option Int->Nat
 |none=>d
 |some v=>if v<0 then (v+(n:Int)).toNat else min v.toNat n
theorem sIx_none   n d:sIx n d none=d:=rfl
theorem sIx_nat  (n d k:Nat):sIx n d (some (k:Int))=min k n:=by
 show(if (k:Int)<0 then ((k:Int)+(n:Int)).toNat else min (k:Int).toNat n)=min k n
 rw[if_neg (by lia),Yb3]
theorem jm1   n d (hd:d<=n) o:sIx n d o<=n:=by
 cases o with
 |none=>exact hd
 |some v=>
  show(if v<0 then (v+(n:Int)).toNat else min v.toNat n)<=n
  by_cases hv:v<0
  ·rw[if_pos hv];lia
  ·rw[if_neg hv];exact Nat.min_le_right _ _
theorem jjg   v (n d:Nat):(if v<0 then max (v+(n:Int)) 0 else min v (n:Int))=((sIx n d (some v):Nat):Int):=by
 show(if v<0 then max (v+(n:Int)) 0 else min v (n:Int))=(((if v<0 then (v+(n:Int)).toNat else min v.toNat n):Nat):Int)
 by_cases hv:v<0
 ·simp only[if_pos hv];lia
 ·simp only[if_neg hv];lia
theorem jhY   lo hi (n:Nat):Ybi lo hi 1 (n:Int)=(((sIx n 0 lo:Nat):Int),((sIx n n hi:Nat):Int)):=by
 have h1:¬((1:Int)<0):=by lia
 unfold Ybi;simp only[h1,if_false];refine Prod.ext ?_ ?_
 ·cases lo with
  |none=>rfl
  |some v=>exact jjg v n 0
 ·cases hi with
  |none=>rfl
  |some v=>exact jjg v n n
theorem jhw  (i j:Nat):YaO (i:Int) (j:Int) 1=j-i:=by
 unfold YaO;have h1:(1:Int)>0:=by lia
 simp only[h1,if_true,Ye7];split<;>lia
theorem jbb     (p:IsPart v o)(h:Q o s):wpAny (model prog w) A (Builtin.Slice.slicePartIndex v) Q E s:=by
 cases p with
 |none=>exact slicePart_none h
 |int i t=>exact slicePart_int h
theorem jbG    {lo hi:Option Int}{n:Nat}(hs:s.heap.IsSliceOf sl vl vu .none)(pl:IsPart vl lo)(pu:IsPart vu hi)
  (h:Q (((sIx n 0 lo:Nat):Int),1,sIx n n hi-sIx n 0 lo) s):wpAny (model prog w) A (YbM (.ref sl) (pure (n:Int))) Q E s:=by
 obtain⟨os,hos,hcs,hds⟩:=id hs;unfold YbM Ydw;refine Yac (Yac (YbR hos hds (x:=vl) rfl (Yac (YbR hos hds (x:=vu) rfl (Yac (YbR hos hds (x:=.none) rfl (Yal ?_)))))));refine Yac (slicePart_none ?_);show wpAny _ _ (if ((1:Int)==0)=true then _ else _) _ _ s
 rw[if_neg (by decide)]
 refine Yac (jbb pl (Yac (jbb pu (Yac (Yal ?_)))));show wpAny _ _ (match Ybi lo hi 1 (n:Int)with|(lo,hi)=>pure (lo,(1:Int),YaO lo hi 1)) _ _ s
 rw[jhY lo hi n];show wpAny _ _ (pure (((sIx n 0 lo:Nat):Int),(1:Int),YaO ((sIx n 0 lo:Nat):Int) ((sIx n n hi:Nat):Int) 1)) _ _ s;rw[jhw];exact Yal h
theorem jjN  (xs:Array Value)(i k:Nat):((Ya9 k).filterMap λ(m:Nat)=>xs[((i:Int)+(m:Int)*1).toNat]?).toArray=((xs.toList.drop i).take k).toArray:=by
 have e:(λ(m:Nat)=>xs[((i:Int)+(m:Int)*1).toNat]?)=λm=>xs[i+m]?:=by
  funext m;have:((i:Int)+(m:Int)*1).toNat=i+m:=by lia
  rw[this]
 rw[e];have:=pick_run xs i k;rw[Yfx]at this;have e2:((λx=>xs[x]?) ∘ λx=>i+x)=λm=>xs[i+m]?:=rfl;rw[e2]at this;rw[this]

theorem getItem_tuple_cut     {lo hi:Option Int}(ht:IsTup s.heap t items)(hs:s.heap.IsSliceOf sl vl vu .none)(pl:IsPart vl lo)(pu:IsPart vu hi)
  (hw:¬(sIx items.size 0 lo=0/\sIx items.size items.size hi=items.size))
  (h:Q (.ref s.heap.objs.size) { s with heap:=s.heap.push { cls:=.type "tuple",data:=.seq ((items.toList.drop (sIx items.size 0 lo)).take (sIx items.size items.size hi-sIx items.size 0 lo)).toArray } })
  (hsz:items.size<=Yag):wpAny (model prog w) A (getItem (.ref t) (.ref sl)) Q E s:=by
 have htake:sizeOk (.seq ((items.toList.drop (sIx items.size 0 lo)).take (sIx items.size items.size hi-sIx items.size 0 lo)).toArray):=by
  show((items.toList.drop (sIx items.size 0 lo)).take (sIx items.size items.size hi-sIx items.size 0 lo)).toArray.size<=Yag;rw[Yak,Ycv,YfS,Ydl]
  lia
 have hj:sIx items.size items.size hi<=items.size:=jm1 _ _ (Yae _) hi;obtain⟨os,hos,hcs,hds⟩:=id hs;have hTs:s.TypeIs (.ref sl) "slice" := ⟨os,hos,hcs⟩;unfold getItem
 try with_reducible refine Yb8 ?_
 first|refine Yac (Yal ?_)|skip
 refine Yac (Yed ht.typeIs (by decide) ?_)
 refine Yac (Yda (name:=Ycc "__getitem__") ht.typeIs YaS
  (Yet YaS ht.typeIs YdH ?_ (Yd1 _ _)))
 show wpAny _ _ (Ycq (.ref t) >>= _) _ _ s;refine Yac (Yfj ht ?_);refine Yac (Ydr hTs ?_);rw[if_pos (by decide)]
 refine Yac (jbG hs pl pu ?_);have hno:¬((((sIx items.size 0 lo:Nat):Int)==0&&(1:Int)==1&&(sIx items.size items.size hi-sIx items.size 0 lo)==items.size)=true):=by
  intro q;rw[Yah,Yah]at q;have q1:((sIx items.size 0 lo:Nat):Int)=0:=eq_of_beq q.1.1;have q2:sIx items.size items.size hi-sIx items.size 0 lo=items.size:=eq_of_beq q.2;exact hw ⟨by lia,by lia⟩
 show wpAny _ _ (if (((sIx items.size 0 lo:Nat):Int)==0&&(1:Int)==1&&(sIx items.size items.size hi-sIx items.size 0 lo)==items.size)=true then _ else _) _ _ s
 rw[if_neg hno,jjN]
 first
  |exact Yac (m:=YaQ _) (YaY (Yal ⟨_,rfl,Yal h⟩) htake)
  |exact Yac (m:=YaQ _) (YaY (Yac (Yal (Yal ⟨_,rfl,Yal h⟩))) htake)
  |exact Yac (Yac (m:=YaQ _) (YaY (Yal (Yal ⟨_,rfl,Yal h⟩)) htake))
  |exact Yac (Yac (m:=YaQ _) (YaY (Yal ⟨_,rfl,Yal h⟩) htake))
end
end HT

namespace L2
open PySem PySem.Spec PyProof.Rows

abbrev TO:=St->Hp->(Option Int->Hp->Prop)->Prop
def PO  (X:Cx)(e:Option Expr)(t:TO):Prop:=
 ∀(pins:List (Addr×Obj)) (s:Shared) (σ:St) (H:Hp) (Q:Option Int->Hp->Prop),Inv X pins σ H s->t σ H Q->
  wpAny (model X.prog X.w) X.A (evalPart e X.env) (λu s'=>∃o H',Inv X pins σ H' s'/\IsPart u o/\Q o H') X.xe s
def jlb  : TO:=λ_ H Q=>Q none H
def jo0  (t:TE):TO:=λσ H Q=>t σ H λx H1=>∃i,x=.int i/\Q (some i) H1


theorem jlv  : PO X none jlb:=by
 intro pins s σ H Q I h;rw[Yfn];exact Yal ⟨none,H,I,.none,h⟩
theorem jlu  (h:PE X e te):PO X (some e) (jo0 te):=by
 intro pins s σ H Q I hw;rw[evalPart_some];refine thn (h pins s σ H _ I hw) λu s1 ⟨x,H1,I1,r1,q1⟩=>?_;obtain⟨i,rfl,q⟩:=q1;obtain⟨t,rfl⟩:=r1;exact⟨some i,H1,I1,.int i t,q⟩

def SlR  (X:Cx)(r:V->Option Int->Option Int->Hp->VK->Prop):Prop:=
 ∀(pins:List (Addr×Obj)) (s:Shared) (σ:St) (H:Hp) (x:V) (v vl vu:Value) (lo hi:Option Int) (sl:Addr) (Q:VK),Inv X pins σ H s->RelV x v->s.heap.IsSliceOf sl vl vu .none->IsPart vl lo->IsPart vu hi->r x lo hi H Q->
  ∃T id,YaU (.type T) "__getitem__" = pure (some (.builtin id))/\s.TypeIs v T/\wpAny (model X.prog X.w) X.A (getItem v (.ref sl)) (EP X pins σ Q) X.xe s
theorem SlR.or   (h:SlR X r)(h':SlR X r'):SlR X (λx lo hi H Q=>r x lo hi H Q\/r' x lo hi H Q):=by
 intro pins s σ H x v vl vu lo hi sl Q I rx hs pl pu q;rcases q with q|q
 ·exact h pins s σ H x v vl vu lo hi sl Q I rx hs pl pu q
 ·exact h' pins s σ H x v vl vu lo hi sl Q I rx hs pl pu q
def tSl  (r:V->Option Int->Option Int->Hp->VK->Prop)(te:TE)(tl th:TO):TE:=λσ H Q=>te σ H λx H1=>tl σ H1 λl H2=>th σ H2 λu H3=>r x l u H3 Q
theorem jjP  {lo: Option Expr}(hr:SlR X r)(he:PE X e te)(hl:PO X lo tl)(hu:PO X hi th):PE X (.Subscript e (.Slice lo hi none p2) pos) (tSl r te tl th):=by
 intro pins s σ H Q I h;refine Subscript_ (thn (he pins s σ H _ I h) λv s1 ⟨x,H1,I1,r1,q1⟩=>?_);refine wpAny_Slice (thn (hl pins s1 σ H1 _ I1 q1) λvl s2 ⟨l,H2,I2,pl,q2⟩=>thn (hu pins s2 σ H2 _ I2 q2) λvu s3 ⟨u,H3,I3,pu,q3⟩=>?_);rw[Yfn];refine Yal ?_;have I4:Inv X pins σ H3 { s3 with heap:=s3.heap.push { cls:=.type "slice",data:=.fields #[vl,vu,.none] } }:=I3.kept (t':=s3.toks) λb ob q=>Yad _ q
 obtain⟨T,id,hT,ht,hg⟩:=hr pins { s3 with heap:=s3.heap.push { cls:=.type "slice",data:=.fields #[vl,vu,.none] } } σ H3 x v vl vu l u s3.heap.objs.size Q I4 r1 (Heap.IsSliceOf.new ..) pl pu q3;show wpAny (model X.prog X.w) X.A (YdV e (.Slice lo hi none p2) v (.ref s3.heap.objs.size)) (EP X pins σ Q) X.xe { s3 with heap:=s3.heap.push { cls:=.type "slice",data:=.fields #[vl,vu,.none] } }
 exact tail_any (ops:=[.ref s3.heap.objs.size,v]) ht hT hg (by with_unfolding_all rfl)

def cutV  (xs:List V)(lo hi:Option Int):List V:=(xs.drop (HT.sIx xs.length 0 lo)).take (HT.sIx xs.length xs.length hi-HT.sIx xs.length 0 lo)
theorem jel  (xs:List V) lo hi:(cutV xs lo hi).length<=xs.length:=by
 unfold cutV;rw[Ycv,YfS]
 lia
def rSlT  (K:Yab):V->Option Int->Option Int->Hp->VK->Prop:=λx lo hi H Q=>∃a xs,x=.ref a/\SqT K H a xs/\
 ¬(HT.sIx xs.length 0 lo=0/\HT.sIx xs.length xs.length hi=xs.length)/\∀p,H p=none->Q (.ref p) (upd H p (.tup (cutV xs lo hi)))
theorem jmU  : SlR X (rSlT X.K):=by
 intro pins s σ H x v vl vu lo hi sl Q I rx hs pl pu h;obtain⟨a,xs,rfl,hx,hw,q⟩:=h;cases rx;obtain⟨its,r,ht,hz⟩:=I.tuple hx;have hlen:its.toArray.size=xs.length:=by rw[Yak];exact r.length.symm
 refine⟨"tuple",_,YaS.lookup,ht.typeIs,?_⟩;refine HT.getItem_tuple_cut ht hs pl pu (by rw[hlen];exact hw) ?_ (by rw[hlen];exact hz)
 rw[hlen];refine⟨.ref s.heap.objs.size,_,I.laid (t':=s.toks) (o:=.tup (cutV xs lo hi)) (λb ob q=>Yad _ q) (Yae _) ?_,rfl,q _ (I.hok.fresh (Yae _))⟩;exact⟨Yaf (jel xs lo hi) hz,_,(r.drop (HT.sIx xs.length 0 lo)).take (HT.sIx xs.length xs.length hi-HT.sIx xs.length 0 lo),TupD.new _ _⟩

def jph  (K:Yab):R2:=λx y H Q=>∃a b xs ys,x=.ref a/\y=.ref b/\SqT K H a xs/\SqT K H b ys/\xs≠[]/\xs.length+ys.length<=Yag/\
 (ys=[]->Q (.ref a) H)/\(ys≠[]->∀p,H p=none->Q (.ref p) (upd H p (.tup (xs++ys))))
theorem Vals.nil_iff    (r:Vals xs us):us=[]↔xs=[]:=by
 cases r with
 |nil=>simp
 |cons _ _=>simp
theorem jlJ  : OpR X (Ya8 .Add) (jph X.K):=by
 intro pins s σ H x y v u Q I rx ry h;obtain⟨a,b,xs,ys,rfl,rfl,ha,hb,hx,hz,q1,q2⟩:=h;cases rx;cases ry;obtain⟨its,r1,p1,_⟩:=I.tuple ha;obtain⟨its2,r2,p2,_⟩:=I.tuple hb;refine HT.cat_tup p1 p2 (λz=>hx (r1.nil_iff.mp z)) (λz=>⟨.ref a,H,I,rfl,q1 (r2.nil_iff.mp z)⟩) (λz=>?_) (by rw[<- r1.length,<- r2.length];exact hz)
 refine⟨.ref s.heap.objs.size,_,I.laid (t':=s.toks) (o:=.tup (xs++ys)) (λb ob q=>Yad _ q) (Yae _) ?_,rfl,q2 (λw=>z (r2.nil_iff.mpr w)) _ (I.hok.fresh (Yae _))⟩;exact⟨by rw[Yaz];exact hz,_,r1.append r2,TupD.new _ _⟩

noncomputable def ixN  (n:Nat)(i:Int):Option Nat:=if 0<=i then (if i<n then some i.toNat else none) else if -(n:Int)<=i then some (i+n).toNat else none
def atI  {α:Type}(xs:List α)(i:Int):Option α:=(ixN xs.length i).bind λj=>xs[j]?
theorem jiT     (h:ixN n i=some j):YfK i n=some j/\j<n/\-(n:Int)<=i/\i<n:=by
 unfold ixN at h;by_cases h0:0<=i
 ·rw[if_pos h0]at h;by_cases h1:i<n
  ·rw[if_pos h1]at h;have e:i.toNat=j:=Yar h;exact⟨by rw[seqIndex_of h0 h1,e],by lia,by lia,h1⟩
  ·rw[if_neg h1]at h;cases h
 ·rw[if_neg h0]at h;by_cases h1:-(n:Int)<=i
  ·rw[if_pos h1]at h;have e:(i+n).toNat=j:=Yar h;exact⟨by rw[YfJ (by lia) h1,e],by lia,h1,by lia⟩
  ·rw[if_neg h1]at h;cases h
theorem jgF      (h:atI xs i=some v):∃j,YfK i xs.length=some j/\xs[j]?=some v/\j<xs.length/\-(xs.length:Int)<=i/\i<xs.length:=by
 unfold atI at h;cases e:ixN xs.length i with
 |none=>rw[e]at h;cases h
 |some j=>
  rw[e]at h;obtain⟨h1,h2,h3,h4⟩:=jiT e;exact⟨j,h1,h,h2,h3,h4⟩
theorem jcG    {j:Nat}{v:α}(h:xs[j]?=some v):atI xs (j:Int)=some v:=by
 have hj:j<xs.length:=(List.getElem?_eq_some_iff.mp h).1;have e:ixN xs.length (j:Int)=some j:=by
  unfold ixN;rw[if_pos (by lia),if_pos (by lia)];simp
 unfold atI;rw[e];exact h
def jgH  (b:Expr):Prop:=∀o i,subscripted b false o i=operate [o,i] (getItem o i)
def IxR  (X:Cx)(r:R2):Prop:=
 ∀(value slice:Expr) (pins:List (Addr×Obj)) (s:Shared) (σ:St) (H:Hp) (x y:V) (v u:Value) (Q:VK),Inv X pins σ H s->RelV x v->RelV y u->r x y H Q->
  subscripted slice false v u=operate [v,u] (getItem v u)->wpAny (model X.prog X.w) X.A (YdV value slice v u) (EP X pins σ Q) X.xe s
def MtR  (X:Cx)(id:String)(r:V->List V->Hp->VK->Prop):Prop:=
 ∀(pins:List (Addr×Obj)) (s:Shared) (σ:St) (H:Hp) (x:V) (xs:List V) (v:Value) (us:List Value) (Q:VK),Inv X pins σ H s->RelV x v->Vals xs us->r x xs H Q->
  wpAny (model X.prog X.w) X.A (call (.builtin id) (v::us)) (EP X pins σ Q) X.xe s

theorem IxR.or   (h:IxR X r)(h':IxR X r'):IxR X (λx y H Q=>r x y H Q\/r' x y H Q):=by
 intro value slice pins s σ H x y v u Q I rx ry q hs;rcases q with q|q
 ·exact h value slice pins s σ H x y v u Q I rx ry q hs
 ·exact h' value slice pins s σ H x y v u Q I rx ry q hs
theorem MtR.or  {id:String}(h:MtR X id r)(h':MtR X id r'):MtR X id (λx xs H Q=>r x xs H Q\/r' x xs H Q):=by
 intro pins s σ H x xs v us Q I rx rs q;rcases q with q|q
 ·exact h pins s σ H x xs v us Q I rx rs q
 ·exact h' pins s σ H x xs v us Q I rx rs q
theorem jpo   (hr:IxR X r)(ha:PE X a ta)(hb:PE X b tb)(hs:jgH b):PE X (.Subscript a b pos) (tOp r ta tb):=by
 intro pins s σ H Q I h;exact Subscript_ (binT ha hb I h λv u s2 x y H2 I2 rx ry q=>hr a b pins s2 σ H2 x y v u Q I2 rx ry q (hs _ _))

def rIxL  (K:Yab):R2:=λx y H Q=>∃p xs i v,x=.ref p/\y=.int i/\SqL K H p xs/\atI xs i=some v/\Q v H
def rIxT  (K:Yab):R2:=λx y H Q=>∃p xs i v,x=.ref p/\y=.int i/\SqT K H p xs/\atI xs i=some v/\Q v H
def rIxS  : R2:=λx y H Q=>∃z i c,x=.str z/\y=.int i/\z.length<=Yag/\atI z.cps.toList i=some c/\Q (.str ⟨#[c]⟩) H
theorem jl8  : IxR X (rIxL X.K):=by
 intro value slice pins s σ H x y v u Q I rx ry h hs;obtain⟨p,xs,i,z,rfl,rfl,hq,he,q⟩:=h;cases rx;obtain⟨t,rfl⟩:=ry;obtain⟨its,r,pl,hz⟩:=I.list hq;obtain⟨j,h1,h2,h3,h4,h5⟩:=jgF he;obtain⟨w,ew,rw'⟩:=r.get h2;have hl:=r.length;have hn:=jeC;have fin:EP X pins σ Q w s:=⟨z,H,I,rw',q⟩;by_cases h0:0<=i
 ·have hj:i.toNat=j:=by
   rw[seqIndex_of h0 h5]at h1;exact Yar h1
  exact item_listR pl.isList h0 (by lia) (by rw[hj];simpa using ew) fin hs
 ·have hj:(i+(its.toArray.size:Int)).toNat=j:=by
   rw[YfJ (by lia) h4]at h1
   rw[Yak,<- hl];exact Yar h1
  exact YfA (x:=w) pl.isList.typeIs slot_list_getitem.lookup
   (wpAny_getItem_list_neg (Q:=λr s'=>r=w/\EP X pins σ Q r s') pl.isList (by lia) (by rw[Yak]<;>lia) (by lia) (by rw[hj];simpa using ew) ⟨rfl,fin⟩) hs
theorem joa  : IxR X (rIxT X.K):=by
 intro value slice pins s σ H x y v u Q I rx ry h hs;obtain⟨p,xs,i,z,rfl,rfl,hq,he,q⟩:=h;cases rx;obtain⟨t,rfl⟩:=ry;obtain⟨its,r,pl,hz⟩:=I.tuple hq;obtain⟨j,h1,h2,h3,h4,h5⟩:=jgF he;obtain⟨w,ew,rw'⟩:=r.get h2;have hl:=r.length;have hn:=jeC;have fin:EP X pins σ Q w s:=⟨z,H,I,rw',q⟩;exact YfA (x:=w) pl.typeIs slot_tuple_getitem.lookup
  (getItem_tuple (j:=j) (Q:=λr s'=>r=w/\EP X pins σ Q r s') pl (by lia) (by lia) (by rw[Yak,<- hl];exact h1) (by simpa using ew) ⟨rfl,fin⟩) hs
theorem job  : IxR X rIxS:=by
 intro value slice pins s σ H x y v u Q I rx ry h hs;obtain⟨z,i,c,rfl,rfl,hz,he,q⟩:=h;obtain⟨t,rfl⟩:=rx;obtain⟨t',rfl⟩:=ry;obtain⟨j,h1,h2,h3,h4,h5⟩:=jgF he;have hl:z.cps.toList.length=z.length:=by simp[Str.length]
 rw[hl]at h1 h4 h5;have hn:=jeC;exact tail_any (Yc6 s z t) slot_str_getitem.lookup (getItem_str (c:=c) (by
  have e1:decide (i < -(2 ^ 63:Int))=false:=decide_eq_false (by lia)
  have e2:decide (i ≥ 2 ^ 63)=false:=decide_eq_false (by lia)
  rw[e1,e2,Bool.or_false]) (by rw[h1];simpa using h2) ⟨.str ⟨#[c]⟩,H,I.tok _,⟨_,rfl⟩,q⟩) hs
def rIx  (K:Yab):R2:=λx y H Q=>rIxL K x y H Q\/rIxT K x y H Q\/rIxS x y H Q
theorem joc  : IxR X (rIx X.K):=jl8.or (joa.or job)

theorem jhJ  (its:List Value)(n j:Nat) u:YdL (·.setIfInBounds j u) { cls:=.type "list",data:=.seq its.toArray n }={ cls:=.type "list",data:=.seq (its.set j u).toArray n }:=by
 simp[YdL]
theorem Inv.lst   {σ:St}(I:Inv X pins σ H s)(h:H p=some (.lst xs)) :
  ∃(its:List Value) (n:Nat),Vals xs its/\s.heap.get? p=some { cls:=.type "list",data:=.seq its.toArray n }/\xs.length<=Yag:=by
 obtain⟨z,its,n,r,e⟩:=I.hok p _ h;exact⟨its,n,r,e,z⟩
theorem Inv.lstUpd   {σ:St}{its its':List Value}(I:Inv X pins σ H s)(h:H p=some (.lst xs))
  (ho:s.heap.get? p=some { cls:=.type "list",data:=.seq its.toArray n }) (hf:f { cls:=.type "list",data:=.seq its.toArray n }={ cls:=.type "list",data:=.seq its'.toArray n' }) (r:Vals ys its') (hz:ys.length<=Yag) t :
  Inv X pins σ (upd H p (.lst ys)) { s with heap:=s.heap.update p f,toks:=t }:=by
 have e:(s.heap.update p f).get? p=some { cls:=.type "list",data:=.seq its'.toArray n' }:=by
  rw[Ycr f ho (by rw[hf]<;>rfl),hf]
 refine I.write (x:=p) (e:=p) (by rw[h];trivial) (.inl rfl) (λb u hb q=>(Yc4 _ _ (Ne.symm hb)).trans q) ⟨_,e⟩ ?_
 exact⟨hz,its',n',r,e⟩
def jm4  : V->V->V->Hp->(Hp->Prop)->Prop:=λo i v H Q=>∃p xs k j,o=.ref p/\i=.int k/\H p=some (.lst xs)/\ixN xs.length k=some j/\Q (upd H p (.lst (xs.set j v)))
theorem jjz  : PSet X jm4:=by
 intro pins s σ H o i v ov iv u Q I ro ri rv h;obtain⟨p,xs,k,j,rfl,rfl,hp,hj,q⟩:=h;cases ro;obtain⟨t,rfl⟩:=ri;obtain⟨its,n,r,ho,hz⟩:=I.lst hp;obtain⟨h1,h2,h3,h4⟩:=jiT hj;have hl:=r.length;have hn:=jeC;have I':Inv X pins σ (upd H p (.lst (xs.set j v))) { s with heap:=s.heap.update p (YdL (·.setIfInBounds j u)) }:=
  I.lstUpd hp ho (jhJ its n j u) (r.set rv j) (by rw[YcA];exact hz) s.toks
 by_cases h0:0<=k
 ·have hk:k.toNat=j:=by
   rw[seqIndex_of h0 h4]at h1;exact Yar h1
  exact PySem.W.ki_setAt ho h0 (by lia) (by rw[Yak,<- hl];exact h4) (by rw[hk];exact⟨_,I',q⟩)
 ·have hk:(k+(its.toArray.size:Int)).toNat=j:=by
   rw[YfJ (by lia) h3]at h1
   rw[Yak,<- hl];exact Yar h1
  exact PySem.W.ki_setBack ho (by lia) (by rw[Yak,<- hl];exact h3) (by lia) (by rw[hk];exact⟨_,I',q⟩)

theorem jfp   lo hi n:(Yci lo hi none n).1=((HT.sIx n 0 lo:Nat):Int)/\(Yci lo hi none n).2.1=((HT.sIx n n hi:Nat):Int)/\(Yci lo hi none n).2.2=1:=by
 refine⟨?_,?_,rfl⟩
 ·cases lo with
  |none=>simp[Yci,HT.sIx]
  |some i=>
   simp only[Yci,HT.sIx,Yfs,show(1:Int)>0 by decide,if_true]
   by_cases h:i<0
   ·simp only[h,if_true]<;>lia
   ·simp only[h,if_false]<;>lia
 ·cases hi with
  |none=>simp[Yci,HT.sIx]
  |some i=>
   simp only[Yci,HT.sIx,Yfs,show(1:Int)>0 by decide,if_true]
   by_cases h:i<0
   ·simp only[h,if_true]<;>lia
   ·simp only[h,if_false]<;>lia
theorem jeU  (its:List Value) lo hi:YdW its.toArray lo hi none=((its.drop (HT.sIx its.length 0 lo)).take (HT.sIx its.length its.length hi-HT.sIx its.length 0 lo)).toArray:=by
 obtain⟨h1,h2,h3⟩:=jfp lo hi its.toArray.size;unfold YdW;rw[h1,h2,h3];simp only[sliceRange_one,pick_run,Yak]<;>rfl
def rSlL  (K:Yab):V->Option Int->Option Int->Hp->VK->Prop:=λx lo hi H Q=>∃a xs,x=.ref a/\SqL K H a xs/\∀p,H p=none->Q (.ref p) (upd H p (.lst (cutV xs lo hi)))
theorem jlh  : SlR X (rSlL X.K):=by
 intro pins s σ H x v vl vu lo hi sl Q I rx hs pl pu h;obtain⟨a,xs,rfl,hx,q⟩:=h;cases rx;obtain⟨its,r,ht,hz⟩:=I.list hx;have hlen:=r.length;refine⟨"list",_,slot_list_getitem.lookup,ht.isList.typeIs,?_⟩;refine Yc5 ht.isList hs pl pu .none (by simp) ?_ (by rw[Yak]<;>lia)
 rw[jeU,<- hlen];refine⟨.ref s.heap.objs.size,_,I.laid (t':=s.toks) (o:=.lst (cutV xs lo hi)) (λb ob q=>Yad _ q) (Yae _) ?_,rfl,q _ (I.hok.fresh (Yae _))⟩;exact⟨Yaf (jel xs lo hi) hz,_,0,(r.drop (HT.sIx xs.length 0 lo)).take (HT.sIx xs.length xs.length hi-HT.sIx xs.length 0 lo),YaA _ rfl⟩

noncomputable def jdM  : V->Bool
 |.non=>true
 |.bl _=>true
 |.int _=>true
 |.str _=>true
 |_=>false
noncomputable def eqV  : V->V->Bool
 |.non,.non=>true
 |.bl a,.bl b=>a==b
 |.bl a,.int b=>(if a then 1 else 0)==b
 |.int a,.bl b=>a==(if b then 1 else 0)
 |.int a,.int b=>a==b
 |.str a,.str b=>a==b
 |_,_=>false
theorem jop      (ry:RelV y u)(rx:RelV x v)(fy:jdM y=true)(fx:jdM x=true):Yeo A s u v (eqV y x):=by
 cases y with
 |non=>
  cases ry;cases x with
  |non=>cases rx;exact Yeo.same _
  |bl b=>cases rx;exact Yeo.none_bool b
  |int b=>obtain⟨t,rfl⟩:=rx;exact Yeo.none_int b t
  |str b=>obtain⟨t,rfl⟩:=rx;exact Yeo.none_str b t
  |_=>exact absurd (show false=true from fx) Yai
 |bl a=>
  cases ry;cases x with
  |non=>cases rx;exact Yeo.bool_none a
  |bl b=>cases rx;exact Yeo.bool_bool a b
  |int b=>obtain⟨t,rfl⟩:=rx;exact Yeo.bool_int a b t
  |str b=>obtain⟨t,rfl⟩:=rx;exact Yeo.bool_str a b t
  |_=>exact absurd (show false=true from fx) Yai
 |int a=>
  obtain⟨t',rfl⟩:=ry;cases x with
  |non=>cases rx;exact Yeo.int_none a t'
  |bl b=>cases rx;exact Yeo.int_bool a t' b
  |int b=>obtain⟨t,rfl⟩:=rx;exact Yeo.int_int a t' b t
  |str b=>obtain⟨t,rfl⟩:=rx;exact Yex a t' b t
  |_=>exact absurd (show false=true from fx) Yai
 |str a=>
  obtain⟨t',rfl⟩:=ry;cases x with
  |non=>cases rx;exact Yeo.str_none a t'
  |bl b=>cases rx;exact Yeo.str_bool a t' b
  |int b=>obtain⟨t,rfl⟩:=rx;exact Yew a t' b t
  |str b=>obtain⟨t,rfl⟩:=rx;exact Yeo.str_str a t' b t
  |_=>exact absurd (show false=true from fx) Yai
 |_=>exact absurd (show false=true from fy) Yai
def eqU  (x:V)(u:Value):Bool:=match u with
 |.none=>eqV .non x
 |.bool b=>eqV (.bl b) x
 |.int i _=>eqV (.int i) x
 |.str z _=>eqV (.str z) x
 |_=>false
theorem jkO    (r:RelV y u)(f:jdM y=true):eqU x u=eqV y x:=by
 cases y with
 |non=>cases r;rfl
 |bl b=>cases r;rfl
 |int i=>obtain⟨t,rfl⟩:=r;rfl
 |str z=>obtain⟨t,rfl⟩:=r;rfl
 |_=>exact absurd (show false=true from f) Yai
theorem jep   : ∀{xs } {us },Vals xs us->xs.all jdM=true->us.any (eqU x)=xs.any λy=>eqV y x
 |_,_,.nil,_=>rfl
 |y::xs,u::us,.cons r t,f=>by
  rw[Yba,Yah]at f;rw[Ybr,Ybr,jkO r f.1,jep t f.2]
theorem jcW      (rx:RelV x v)(fx:jdM x=true):∀{xs } {us },Vals xs us->xs.all jdM=true->∀u∈us,Yeo A s u v (eqU x u)
 |_,_,.nil,_=>λu hu=>by cases hu
 |y::xs,u::us,.cons r t,f=>λu' hu=>by
  rw[Yba,Yah]at f;rcases YaM.mp hu with rfl|hu
  ·rw[jkO r f.1];exact jop r rx f.1 fx
  ·exact jcW rx fx t f.2 u' hu
def inV  (x:V)(xs:List V):Bool:=xs.any λy=>eqV y x
def rIn  (K:Yab)(neg:Bool):R2:=λx y H Q=>∃p xs,y=.ref p/\(SqL K H p xs\/SqT K H p xs)/\jdM x=true/\xs.all jdM=true/\Q (.bl (if neg then !inV x xs else inV x xs)) H
theorem jiy  : OpR X (YaF .In) (rIn X.K false):=by
 intro pins s σ H x y v u Q I rx ry h;obtain⟨p,xs,rfl,hq,fx,fs,q⟩:=h;cases ry;rcases hq with hq|hq
 ·obtain⟨its,r,pl,hz⟩:=I.list hq;refine YfP (eqU x) pl.isList (λw hw=>jcW rx fx r fs w (by simpa using hw)) ⟨.bl _,H,I,rfl,?_⟩
  rw[show its.toArray.any (eqU x)=its.any (eqU x) by simp,jep r fs]
  exact q
 ·obtain⟨its,r,pl,hz⟩:=I.tuple hq;refine YdI (eqU x) pl (λw hw=>jcW rx fx r fs w (by simpa using hw)) ⟨.bl _,H,I,rfl,?_⟩
  rw[show its.toArray.any (eqU x)=its.any (eqU x) by simp,jep r fs]
  exact q
theorem jfv  : OpR X (YaF .NotIn) (rIn X.K true):=by
 intro pins s σ H x y v u Q I rx ry h;obtain⟨p,xs,rfl,hq,fx,fs,q⟩:=h;cases ry;rcases hq with hq|hq
 ·obtain⟨its,r,pl,hz⟩:=I.list hq;refine Yfb (eqU x) pl.isList (λw hw=>jcW rx fx r fs w (by simpa using hw)) ⟨.bl _,H,I,rfl,?_⟩
  rw[show its.toArray.any (eqU x)=its.any (eqU x) by simp,jep r fs]
  exact q
 ·obtain⟨its,r,pl,hz⟩:=I.tuple hq;refine Ydg (eqU x) pl (λw hw=>jcW rx fx r fs w (by simpa using hw)) ⟨.bl _,H,I,rfl,?_⟩
  rw[show its.toArray.any (eqU x)=its.any (eqU x) by simp,jep r fs]
  exact q
theorem ja8.or    (h:ja8 X f r)(h':ja8 X f r'):ja8 X f (λxs H Q=>r xs H Q\/r' xs H Q):=by
 intro pins s σ H xs us Q I rs q;rcases q with q|q
 ·exact h pins s σ H xs us Q I rs q
 ·exact h' pins s σ H xs us Q I rs q
theorem jff  : ja8 X (.type "tuple") (λxs H Q=>∃p ys,xs=[.ref p]/\((SqL X.K H p ys/\∀l,H l=none->Q (.ref l) (upd H l (.tup ys)))\/(SqT X.K H p ys/\Q (.ref p) H))):=by
 intro pins s σ H xs us Q I r h;obtain⟨p,ys,rfl,h⟩:=h;obtain⟨u,rfl,rx⟩:=jeQ r;cases rx;rcases h with⟨hq,q⟩|⟨hq,q⟩
 ·obtain⟨its,r',pl,hz⟩:=I.list hq;have hlen:=r'.length;refine call_tuple_list pl.isList (λh' kp=>?_) (by simp only[Yak]<;>lia)
  have I1:Inv X pins σ H { s with heap:=h' }:=I.kept (t':=s.toks) kp
  have I2:Inv X pins σ (upd H h'.objs.size (.tup ys)) { s with heap:=h'.push { cls:=.type "tuple",data:=.seq its.toArray } }:=
   I1.laid (t':=s.toks) (λb o e=>Yad _ e) (Yae _) (show jaE X.prog X.w _ _ _ (.tup ys)from⟨hz,its,r',TupD.new _ _⟩)
  exact⟨.ref h'.objs.size,_,I2,rfl,q _ (I1.hok.fresh (Yae _))⟩
 ·obtain⟨its,r',pl,hz⟩:=I.tuple hq;exact call_tuple_same pl ⟨.ref p,H,I,rfl,q⟩

def tyV  (K:Yab)(T:String)(x:V)(H:Hp):Prop:=match x with
 |.str _=>T = "str"
 |.int _=>T = "int"
 |.ref p=>(T = "list" /\ ∃xs,SqL K H p xs)\/(T = "tuple" /\ ∃o,K.lookup p=some o/\o.cls=.type "tuple" /\ o.dict=none)\/
   (T = "dict" /\ ((∃kvs,H p=some (.dK kvs))\/∃kvs,H p=some (.dT kvs)))\/(T = "set" /\ ∃S n,H p=some (.set S n))\/(T = "tuple" /\ ∃xs,H p=some (.tup xs))
 |_=>False
theorem jkq   {σ:St}(I:Inv X pins σ H s)(r:RelV x v)(ty:tyV X.K T x H) :
  s.TypeIs v T/\∀a,v=.ref a->∃ob,s.heap.get? a=some ob/\ob.dict=none:=by
 cases x with
 |str z=>
  obtain⟨t,rfl⟩:=r;cases(show T = "str" from ty);exact⟨Yc6 s z t,λ_ e=>nomatch e⟩
 |int i=>
  obtain⟨t,rfl⟩:=r;cases(show T = "int" from ty);exact⟨Yef s i t,λ_ e=>nomatch e⟩
 |ref p=>
  cases r;rcases ty with⟨rfl,xs,hq⟩|⟨rfl,o,hk,hc,hd⟩|⟨rfl,hk⟩|⟨rfl,S,n,hk⟩|⟨rfl,xs,hk⟩
  ·obtain⟨its,_,pl,_⟩:=I.list hq;refine⟨pl.isList.typeIs,λa e=>?_⟩;cases e;obtain⟨o,n,e,c,hd,_⟩:=pl;exact⟨o,e,hd⟩
  ·refine⟨⟨o,I.kIn p o hk,hc⟩,λa e=>?_⟩;cases e;exact⟨o,I.kIn _ o hk,hd⟩
  ·have z:∃o,s.heap.get? p=some o/\o.ExactDict:=by
    rcases hk with⟨kvs,hk⟩|⟨kvs,hk⟩
    ·obtain⟨_,_,_,_,o,_,_,e,ex,_⟩:=I.hok p _ hk;exact⟨o,e,ex⟩
    ·obtain⟨_,_,_,_,o,_,_,e,ex,_⟩:=I.hok p _ hk;exact⟨o,e,ex⟩
   obtain⟨o,e,ex⟩:=z;refine⟨⟨o,e,ex.1⟩,λa e2=>?_⟩;cases e2;exact⟨o,e,ex.2.1⟩
  ·obtain⟨o,_,_,_,e,ex,_⟩:=I.hok p _ hk;refine⟨⟨o,e,ex.1⟩,λa e2=>?_⟩;cases e2;exact⟨o,e,ex.2.1⟩
  ·obtain⟨_,its,r,o,e,c,n,d,hd⟩:=(show jaE X.prog X.w H s.heap p (.tup xs)from I.hok p _ hk);refine⟨⟨o,e,c⟩,λa e2=>?_⟩;cases e2;exact⟨o,e,hd⟩
 |_=>exact Ybz ty


def MtM  (X:Cx)(id:String)(r:V->List V->Hp->VK->Prop):Prop:=
 ∀(pins:List (Addr×Obj)) (s:Shared) (σ:St) (H:Hp) (x:V) (xs:List V) (v:Value) (us:List Value) (Q:VK),Inv X pins σ H s->RelV x v->Vals xs us->r x xs H Q->
  wpAny (model X.prog X.w) X.A (call (.builtin id) (v::us)) (EP X pins σ Q) X.xe s

theorem Vals.one  : ∀{x } {us },Vals [x] us->∃u,us=[u]/\RelV x u
 |_,_,.cons r .nil=>⟨_,rfl,r⟩
theorem Vals.two  : ∀{x y } {us },Vals [x,y] us->∃u v,us=[u,v]/\RelV x u/\RelV y v
 |_,_,_,.cons r (.cons q .nil)=>⟨_,_,rfl,r,q⟩
theorem Vals.zero  : ∀{us },Vals [] us->us=[]
 |_,.nil=>rfl
theorem Vals.dropLast    (h:Vals xs us):Vals xs.dropLast us.dropLast:=by
 induction h with
 |nil=>exact .nil
 |cons r t ih=>
  cases t with
  |nil=>exact .nil
  |cons q t'=>exact .cons r ih
theorem Vals.eraseIdx  : ∀{xs } {us } i ,Vals xs us->Vals (xs.eraseIdx i) (us.eraseIdx i)
 |_,_,_,.nil=>.nil
 |_,_,0,.cons _ t=>t
 |_,_,i+1,.cons r t=>.cons r (Vals.eraseIdx i t)
theorem Vals.rep    (h:Vals xs us):∀k ,Vals (Yaa k xs).flatten (Yaa k us).flatten
 |0=>.nil
 |k+1=>by
  rw[Ya4,Ya4,Yb0,Yb0];exact Vals.append h (Vals.rep h k)
theorem jhQ  {α:Type}(l:List α):l.eraseIdx (l.length-1)=l.dropLast:=by
 induction l with
 |nil=>rfl
 |cons a r ih=>
  cases r with
  |nil=>rfl
  |cons b r=>
   have e:(a::b::r).length-1=((b::r).length-1)+1:=by
    have h1:(a::b::r).length=r.length+2:=rfl;have h2:(b::r).length=r.length+1:=rfl
    lia
   rw[e,List.eraseIdx_cons_succ,ih]
   all_goals rfl
theorem jfE  {α:Type}:∀(l:List α) i ,(l.eraseIdx i).length<=l.length
 |[],_=>Yae _
 |_::_,0=>Yft _
 |_::r,i+1=>Ycw (jfE r i)
theorem jed  (its:List Value):∀k (acc:List Value),
  YdF (λx1 x2=>x1++x2) acc.toArray (Yaa k its.toArray)=(acc++(Yaa k its).flatten).toArray
 |0,acc=>by simp
 |k+1,acc=>by
  have e:acc.toArray++its.toArray=(acc++its).toArray:=by simp
  have e2:(acc++its)++(Yaa k its).flatten=acc++(Yaa (k+1) its).flatten:=by
   rw[Ya4,Yb0,Yb1]
  rw[<- e2,<- jed its k (acc++its),<- e,Ya4,Yeb]

section
variable {X:Cx}{pins:List (Addr×Obj)}{σ:St}{H:Hp}{s:Shared}{l b:Addr}{xs ys zs:List V}

theorem Inv.lset  {its its':List Value}(I:Inv X pins σ H s)(hH:H l=some (.lst xs))
  (e:s.heap.get? l=some { cls:=.type "list",data:=.seq its.toArray n }) (hf:f its.toArray=its'.toArray) (hv:Vals ys its') (hz:ys.length<=Yag) :
  Inv X pins σ (upd H l (.lst ys)) { s with heap:=s.heap.update l (YdL f),toks:=t' }:=by
 have q:=PySem.IsL.update e f;rw[hf]at q;refine I.write (x:=l) (e:=l) (by rw[hH];exact trivial) (.inl rfl) (λb' u hb hu=>(Yc4 s.heap (YdL f) (Ne.symm hb)).trans hu) ⟨_,q⟩ ?_
 exact⟨hz,its',_,hv,q⟩
theorem Inv.lnew    (I:Inv X pins σ H s)(hv:Vals ys its)(hz:ys.length<=Yag) :
  Inv X pins σ (upd H s.heap.objs.size (.lst ys)) { s with heap:=s.heap.push { cls:=.type "list",data:=.seq its.toArray },toks:=t' }:=
 I.laid (λ_ _ q=>Yad _ q) (Yae _) ⟨hz,its,0,hv,YaA _ rfl⟩
theorem Inv.fresh  (I:Inv X pins σ H s):H s.heap.objs.size=none:=I.hok.fresh (Yae _)
theorem Inv.lstM  (I:Inv X pins σ H s)(hH:H l=some (.lst xs)):xs.length<=Yag/\∃(its:List Value) (n:Nat),Vals xs its/\xs.length=its.length/\s.heap.get? l=some { cls:=.type "list",data:=.seq its.toArray n }:=by
 obtain⟨z,its,n,r,e⟩:=I.hok l _ hH;exact⟨z,its,n,r,r.length,e⟩

theorem jgY   (h:n<=Yag):YbZ n=false:=by
 unfold YbZ;exact decide_eq_false (by lia)
end


def jln  : V->List V->Hp->VK->Prop:=λx vs H Q=>∃l xs y,x=.ref l/\vs=[y]/\H l=some (.lst xs)/\xs.length<Yag/\Q .non (upd H l (.lst (xs++[y])))
theorem jfC  : MtM X "list.append" jln:=by
 intro pins s σ H x vs v us Q I rx rv h;obtain⟨l,xs,y,rfl,rfl,hH,hz,q⟩:=h;cases rx;obtain⟨u,rfl,ru⟩:=rv.one;obtain⟨z,its,n,r,hl,e⟩:=I.lstM hH;refine Ybu F.slot_list_append ⟨_,e,rfl⟩ F.entry_list_append (F.args_list_append_2 _ _) (PySem.list_append l its.toArray n u (by rw[Yak];lia)) ⟨e,?_⟩
 refine⟨.non,_,I.lset (its':=its++[u]) hH e (by simp) (r.append (.cons ru .nil)) ?_,rfl,q⟩
 rw[Yaz,YeQ]
 lia

def jlm  : V->List V->Hp->VK->Prop:=λx vs H Q=>∃l b xs zs,x=.ref l/\vs=[.ref b]/\H l=some (.lst xs)/\H b=some (.lst zs)/\xs.length+zs.length<=Yag/\Q .non (upd H l (.lst (xs++zs)))
theorem jiL  : MtM X "list.extend" jlm:=by
 intro pins s σ H x vs v us Q I rx rv h;obtain⟨l,b,xs,zs,rfl,rfl,hH,hB,hz,q⟩:=h;cases rx;obtain⟨u,rfl,ru⟩:=rv.one;cases ru;obtain⟨z,its,n,r,hl,e⟩:=I.lstM hH;obtain⟨z2,its2,n2,r2,hl2,e2⟩:=I.lstM hB;have hsz:its.toArray.size+its2.toArray.size<=Yag:=by rw[Yak,Yak];lia
 have hlong:¬(!its.toArray.isEmpty&&YbZ (its.toArray.size+its2.toArray.size))=true:=by
  rw[jgY hsz,Yes];exact Yai
 refine Ybu F.slot_list_extend ⟨_,e,rfl⟩ F.entry_list_extend (F.args_list_extend_2 _ _)
  (AutoSeq1.list_extend_list_list_0 l its.toArray n b its2.toArray n2 hlong (by rw[Yak];lia) (by lia)) ⟨e,e2,?_⟩
 refine⟨.non,_,I.lset (its':=its++its2) hH e (by simp) (r.append r2) ?_,rfl,q⟩
 rw[Yaz]
 lia

def rPop  : V->List V->Hp->VK->Prop:=λx vs H Q=>∃l xs y,x=.ref l/\vs=[]/\H l=some (.lst xs)/\xs[xs.length-1]?=some y/\Q y (upd H l (.lst xs.dropLast))
theorem mt_pop  : MtM X "list.pop" rPop:=by
 intro pins s σ H x vs v us Q I rx rv h;obtain⟨l,xs,y,rfl,rfl,hH,hy,q⟩:=h;cases rx;have hus:=rv.zero;subst hus;obtain⟨z,its,n,r,hl,e⟩:=I.lstM hH;obtain⟨u,hu,ru⟩:=r.get hy;have hy':its.toArray[its.toArray.size-1]?=some u:=by
  show its.toArray[its.length-1]?=some u;rw[<- YeO,<- hl];exact hu
 refine Ybu F.slot_list_pop ⟨_,e,rfl⟩ F.entry_list_pop (F.args_list_pop_1 _) (MeetsSeq.list_pop_last l its.toArray n u hy' (by rw[Yak];lia)) ⟨e,?_⟩
 refine⟨y,_,I.lset (its':=its.dropLast) hH e ?_ r.dropLast ?_,ru,q⟩
 ·show its.toArray.eraseIdxIfInBounds (its.toArray.size-1)=its.dropLast.toArray;rw[Yak,YdG,jhQ]
 ·rw[List.length_dropLast]
  lia

def jm6  : V->List V->Hp->VK->Prop:=λx vs H Q=>∃l xs i k y,x=.ref l/\vs=[.int i]/\H l=some (.lst xs)/\-(2 ^ 63)<=i/\i<2 ^ 63/\YfK i xs.length=some k/\xs[k]?=some y/\Q y (upd H l (.lst (xs.eraseIdx k)))
theorem jj3  : MtM X "list.pop" jm6:=by
 intro pins s σ H x vs v us Q I rx rv h;obtain⟨l,xs,i,k,y,rfl,rfl,hH,h1,h2,hk,hy,q⟩:=h;cases rx;obtain⟨u,rfl,ru⟩:=rv.one;obtain⟨t,rfl⟩:=ru;obtain⟨z,its,n,r,hl,e⟩:=I.lstM hH;obtain⟨w,hw,rw'⟩:=r.get hy;refine Ybu F.slot_list_pop ⟨_,e,rfl⟩ F.entry_list_pop (F.args_list_pop_2 _ _)
  (MeetsSeq.list_pop_at l its.toArray n i t k w (fitsIndex_both h1 h2) (by rw[Yak,<- hl];exact hk) (by rw[<- YeO];exact hw) (by rw[Yak];lia)) ⟨e,?_⟩
 refine⟨y,_,I.lset (its':=its.eraseIdx k) hH e ?_ (r.eraseIdx k) ?_,rw',q⟩
 ·show its.toArray.eraseIdxIfInBounds k=(its.eraseIdx k).toArray;rw[YdG]
 ·have:=jfE xs k
  lia

def rCat  : R2:=λx y H Q=>∃l b xs zs,x=.ref l/\y=.ref b/\H l=some (.lst xs)/\H b=some (.lst zs)/\xs.length+zs.length<=Yag/\∀p,H p=none->Q (.ref p) (upd H p (.lst (xs++zs)))
theorem jnI  : OpR X (Ya8 .Add) rCat:=by
 intro pins s σ H x y v u Q I rx ry h;obtain⟨l,b,xs,zs,rfl,rfl,hH,hB,hz,q⟩:=h;cases rx;cases ry;obtain⟨z,its,n,r,hl,e⟩:=I.lstM hH;obtain⟨z2,its2,n2,r2,hl2,e2⟩:=I.lstM hB;refine PySem.P.add_list e e2 ?_ (by rw[Yak,Yak];lia)
 have ea:its.toArray++its2.toArray=(its++its2).toArray:=by simp
 rw[ea];exact⟨.ref _,_,I.lnew (t':=s.toks) (r.append r2) (by rw[Yaz];lia),rfl,q _ I.fresh⟩
def rRep  : R2:=λx y H Q=>∃l k xs,x=.ref l/\y=.int k/\H l=some (.lst xs)/\-(2 ^ 63)<=k/\k<2 ^ 63/\xs.length*k.toNat<=Yag/\
 ∀p,H p=none->Q (.ref p) (upd H p (.lst (Yaa k.toNat xs).flatten))
theorem jgh  {α:Type}(xs:List α) k:(Yaa k xs).flatten.length=k*xs.length:=by
 induction k with
 |zero=>simp
 |succ k ih=>rw[Ya4,Yb0,Yaz,ih,Nat.succ_mul,Nat.add_comm]
theorem jny  : OpR X (Ya8 .Mult) rRep:=by
 intro pins s σ H x y v u Q I rx ry h;obtain⟨l,k,xs,rfl,rfl,hH,h1,h2,hz,q⟩:=h;cases rx;obtain⟨t,rfl⟩:=ry;obtain⟨z,its,n,r,hl,e⟩:=I.lstM hH;have hlen:its.toArray.size*k.toNat<=Yag:=by rw[Yak,<- hl];exact hz
 have hcap:¬its.toArray.size*k.toNat>(2 ^ 63-1)/8:=by
  have:(Yag:Nat)<=(2 ^ 63-1)/8:=by decide
  lia
 have hfit:¬(!Builtin.List.listFitsIndex k)=true:=by
  rw[fitsIndex_both h1 h2];exact Yai
 have hlong:¬YbZ (its.toArray.size*k.toNat)=true:=by
  rw[jgY hlen];exact Yai
 have hnew:YdF (λx1 x2=>x1++x2) #[] (Yaa (if its.toArray.isEmpty=true then 0 else k.toNat) its.toArray)=(Yaa k.toNat its).flatten.toArray:=by
  have f0:∀m:Nat,YdF (λx1 x2=>x1++x2) #[] (Yaa m its.toArray)=(Yaa m its).flatten.toArray:=λm=>by
   have:=jed its m [];rw[YbA]at this;exact this
  rw[f0];cases its with
  |nil=>simp
  |cons a r'=>rw[if_neg (by simp)]
 refine YeW (T := "list") (U := "int") (by decide) ⟨_,e,rfl⟩ (λs'=>Yef s' k t) noFill_list_mul F.fills_int_mul Ydk repeat_list F.slot_int_index.lookup
  (Ybu Ydk (Yef s k t) F.entry_int_rmul (F.args_int_rmul_2 _ _) (int___rmul___int_list k t l its.toArray n)
   ⟨e,rfl,⟨_,e,rfl⟩,Ybu F.slot_list_mul ⟨_,e,rfl⟩ F.entry_list_mul (F.args_list_mul_2 _ _) (AutoListH.list___mul___list_int_3 l its.toArray n k t hfit hcap hlong) ⟨e,?_⟩⟩)
 rw[hnew];exact⟨.ref _,_,I.lnew (t':=s.toks) (r.rep k.toNat) (by rw[jgh,YdR];exact hz),rfl,q _ I.fresh⟩






section
variable {κ:Type}[DecidableEq κ]
noncomputable def valV (kvs:List (κ×V))(k:κ):Option V:=(kvs.find? λkv=>decide (kv.1=k)).map (·.2)
noncomputable def putK (kvs:List (κ×V))(k:κ)(v:V):List (κ×V):=
 if (kvs.any λkv=>decide (kv.1=k))=true then kvs.map (λkv=>if kv.1=k then (kv.1,v) else kv) else kvs++[(k,v)]
theorem jdN    {k:κ}(e:p.1=k):valV (p::r) k=some p.2:=by simp[valV,Ybj,e]
theorem jdO    {k:κ}(e:¬p.1=k):valV (p::r) k=valV r k:=by simp[valV,Ybj,e]
theorem jgI  (k:κ):∀kvs ,(kvs.any λkv=>decide (kv.1=k))=(valV kvs k).isSome
 |[]=>rfl
 |p::r=>by
  rw[Ybr];by_cases e:p.1=k
  ·simp only[jdN e,decide_eq_true e,Bool.true_or,Option.isSome_some]
  ·rw[jdO e,decide_eq_false e,YdC];exact jgI k r
theorem jcC  (kvs:List (κ×V)) k v:(putK kvs k v).length<=kvs.length+1:=by
 unfold putK;split
 ·rw[Yaj];lia
 ·rw[Yaz,YbL,YcB];lia
theorem RelO.isSome_eq    (r:RelO o u):o.isSome=u.isSome:=by
 cases o with
 |none=>cases u with
  |none=>rfl
  |some _=>exact(show False from r).elim
 |some _=>cases u with
  |none=>exact(show False from r).elim
  |some _=>rfl
theorem RelO.getD      (r:RelO o u)(rd:RelV d d'):RelV (o.getD d) (u.getD d'):=by
 cases o with
 |none=>cases u with
  |none=>exact rd
  |some _=>exact(show False from r).elim
 |some _=>cases u with
  |none=>exact(show False from r).elim
  |some _=>exact r

theorem KV.val    (r:KV kvs vs)(k:κ):RelO (valV kvs k) (valueAt vs k):=by
 unfold KV at r
 induction r with
 |nil=>exact YbN
 |@cons p q ps qs h t ih=>
  obtain⟨h1,h2⟩:=h;by_cases e:p.1=k
  ·have e':q.1=k:=h1.symm.trans e;have b:valueAt (q::qs) k=some q.2:=by simp[valueAt,Ybj,e']
   rw[jdN e,b];exact h2
  ·have e':¬q.1=k:=λz=>e (h1.trans z);have b:valueAt (q::qs) k=valueAt qs k:=by simp[valueAt,Ybj,e']
   rw[jdO e,b];exact ih
theorem KV.any    (r:KV kvs vs)(k:κ):(kvs.any λkv=>decide (kv.1=k))=vs.any λkv=>decide (kv.1=k):=by
 unfold KV at r
 induction r with
 |nil=>rfl
 |cons h t ih=>rw[Ybr,Ybr,ih,h.1]
theorem KV.repl    (r:KV kvs vs)(k:κ)(ry:RelV y u) :
  KV (kvs.map λkv=>if kv.1=k then (kv.1,y) else kv) (vs.map λkv=>if kv.1=k then (kv.1,u) else kv):=by
 unfold KV at r ⊢
 induction r with
 |nil=>exact .nil
 |@cons p q ps qs h t ih=>
  rw[YaC,YaC];refine .cons ?_ ih;obtain⟨h1,h2⟩:=h;by_cases e:p.1=k
  ·rw[if_pos e,if_pos (h1.symm.trans e)];exact⟨h1,ry⟩
  ·rw[if_neg e,if_neg (λz=>e (h1.trans z))];exact⟨h1,h2⟩
theorem KV.put    (r:KV kvs vs)(k:κ)(ry:RelV y u):KV (putK kvs k y) (stored vs k u):=by
 unfold putK stored;rw[r.any k];by_cases e:(vs.any λkv=>decide (kv.1=k))=true
 ·rw[if_pos e,if_pos e];exact r.repl k ry
 ·rw[if_neg e,if_neg e];exact Paired.snoc r ⟨rfl,ry⟩
theorem KV.length {kvs:List (κ×V)}{vs:List (κ×Value)}(r:KV kvs vs):kvs.length=vs.length:=Ydn r
end

theorem jgk      (r:RelV (kV k) u):(jar P w).is k u=true:=by
 cases k with
 |inl i=>obtain⟨t,e⟩:=(show ∃t,u=Yd2 i t from r);subst e;exact jgf P w i t
 |inr x=>obtain⟨t,e⟩:=(show ∃t,u=YeK x t from r);subst e;exact jge P w x t
theorem jfG    : ∀{ks } {us },Vals (ks.map kV) us->ItemsAre (jar P w) ks us
 |[],_,r=>by rw[YdM]at r;cases r;exact .nil
 |k::ks,_,r=>by
  rw[YaC]at r;cases r with
  |cons h t=>exact .cons (jgk h) (jfG t)

abbrev KT  (H:Hp):List (List Key×V)->List (List Key×Addr×Value)->Prop:=Paired λp q=>p.1=q.1/\H q.2.1=some (.tup (p.1.map kV))/\RelV p.2 q.2.2
theorem KT.val     (r:KT H kvs xs) k:RelO (valV kvs k) ((atKey xs k).map (·.2)):=by
 induction r with
 |nil=>exact YbN
 |@cons p q ps qs h t ih=>
  obtain⟨h1,_,h2⟩:=h;by_cases e:p.1=k
  ·have e':q.1=k:=h1.symm.trans e;have b:atKey (q::qs) k=some q.2:=by simp[atKey,Ybj,e']
   rw[jdN e,b];exact h2
  ·have e':¬q.1=k:=λz=>e (h1.trans z);have b:atKey (q::qs) k=atKey qs k:=by simp[atKey,Ybj,e']
   rw[jdO e,b];exact ih
theorem KT.repl     (r:KT H kvs xs) k (ry:RelV y u) :
  KT H (kvs.map λkv=>if kv.1=k then (kv.1,y) else kv) (xs.map (putAt k u)):=by
 induction r with
 |nil=>exact .nil
 |@cons p q ps qs h t ih=>
  rw[YaC,YaC];refine .cons ?_ ih;obtain⟨h1,h2,h3⟩:=h;unfold putAt;by_cases e:p.1=k
  ·rw[if_pos e,if_pos (h1.symm.trans e)];exact⟨h1,h2,ry⟩
  ·rw[if_neg e,if_neg (λz=>e (h1.trans z))];exact⟨h1,h2,h3⟩
theorem KT.put     (r:KT H kvs xs)(k:List Key)(hb:H b=some (.tup (k.map kV)))(ry:RelV y u) :
  KT H (putK kvs k y) (storedH xs k b u):=by
 have e:(kvs.any λkv=>decide (kv.1=k))=(atKey xs k).isSome:=by
  rw[jgI,(r.val k).isSome_eq,Ydz]
 unfold putK storedH;rw[e];by_cases q:(atKey xs k).isSome=true
 ·rw[if_pos q,if_pos q];exact r.repl k ry
 ·rw[if_neg q,if_neg q];exact Paired.snoc r ⟨rfl,hb,ry⟩
theorem KT.keeps     (r:KT H kvs xs)(ht:∀b ys,H b=some (.tup ys)->H' b=some (.tup ys)):KT H' kvs xs:=
 Paired.mapP r λ_ _ z=>⟨z.1,ht _ _ z.2.1,z.2.2⟩


theorem jm3   (ok:HOk P w H h)(e:Rd H a u):jaE P w H h a u:=e.ok ok
theorem jgx   (ok:HOk P w H h)(e:Rd H a (.dK kvs)):kvs.length<=Yag/\(a==Ya3)=false/\∃vs,KV kvs vs/\h.DictOf (jar P w) a vs:=
 show jaE P w H h a (.dK kvs)from jm3 ok e
theorem jos   (ok:HOk P w H h)(e:H a=some (.dK kvs)):kvs.length<=Yag/\(a==Ya3)=false/\∃vs,KV kvs vs/\h.DictOf (jar P w) a vs:=jgx ok (.inl e)
theorem jeF   (ok:HOk P w H h)(e:H a=some (.tup (ks.map kV))):(YdU (jar P w)).is h ks a:=by
 obtain⟨_,its,r,o,h1,h2,n,h3,_⟩:=(show jaE P w H h a (.tup (ks.map kV))from ok a _ e);exact⟨o,its.toArray,n,h1,h2,h3,by simpa using jfG r⟩
theorem jhU   (ok:HOk P w H h)(e:Rd H a (.dT kvs)):kvs.length<=Yag/\(a==Ya3)=false/\
  ∃xs,KT H kvs xs/\h.DictOfH (YdU (jar P w)) a xs:=by
 obtain⟨z,y,xs,r,o,es,ep,h1,h2,h3,h4,h5⟩:=(show jaE P w H h a (.dT kvs)from jm3 ok e);refine⟨z,y,xs,r,o,es,ep,h1,h2,h3,h4,λx hx=>?_,h5⟩;have all:∀{l:List (List Key×V)} {m:List (List Key×Addr×Value)},KT H l m->∀x∈m,(YdU (jar P w)).is h x.1 x.2.1:=by
  intro l m q
  induction q with
  |nil=>intro x hx;exact nomatch hx
  |@cons p q ps qs hq t ih=>
   intro x hx;rcases YaM.mp hx with e|hx
   ·subst e;exact jeF ok (by rw[<- hq.1];exact hq.2.1)
   ·exact ih x hx
 exact all r x hx
theorem jpJ   (ok:HOk P w H h)(e:H a=some (.dT kvs)):kvs.length<=Yag/\(a==Ya3)=false/\
  ∃xs,KT H kvs xs/\h.DictOfH (YdU (jar P w)) a xs:=jhU ok (.inl e)

def DGet  (H:Hp)(a:Addr)(y:V)(r:Option V):Prop:=
 (∃kvs k,Rd H a (.dK kvs)/\y=kV k/\r=valV kvs k)\/∃kvs k b,Rd H a (.dT kvs)/\y=.ref b/\H b=some (.tup (k.map kV))/\r=valV kvs k
def DPut  (H:Hp)(a:Addr)(y v:V)(H':Hp):Prop:=
 (∃kvs k,H a=some (.dK kvs)/\y=kV k/\kvs.length<Yag/\H'=upd H a (.dK (putK kvs k v)))\/
 ∃kvs k b,H a=some (.dT kvs)/\y=.ref b/\H b=some (.tup (k.map kV))/\kvs.length<Yag/\H'=upd H a (.dT (putK kvs k v))
theorem DGet.k     {k:Key}(e:H a=some (.dK kvs)):DGet H a (kV k) (valV kvs k):=.inl ⟨kvs,k,.inl e,rfl,rfl⟩
theorem DGet.t     {k:List Key}(e:H a=some (.dT kvs))(eb:H b=some (.tup (k.map kV))):DGet H a (.ref b) (valV kvs k):=.inr ⟨kvs,k,b,.inl e,rfl,eb,rfl⟩
theorem DPut.k     {k:Key}(e:H a=some (.dK kvs))(hl:kvs.length<Yag):DPut H a (kV k) v (upd H a (.dK (putK kvs k v))):=.inl ⟨kvs,k,e,rfl,hl,rfl⟩
theorem DPut.t     {k:List Key}(e:H a=some (.dT kvs))(eb:H b=some (.tup (k.map kV)))(hl:kvs.length<Yag) :
  DPut H a (.ref b) v (upd H a (.dT (putK kvs k v))):=.inr ⟨kvs,k,b,e,rfl,eb,hl,rfl⟩


theorem Inv.big  {σ: St}(I:Inv X pins σ H s):Ya3<s.heap.objs.size:=by
 have h:Yaw<s.heap.objs.size:=(I.mod.glob.keeps I.bk).lt;exact Ye3 (by decide) h

theorem jjc  {σ: St}(hu:A.units+1<cLine)(I:Inv X pins σ H s)(g:DGet H a y (some v))(ry:RelV y u)(h:∀w' s',Inv X pins σ H s'->RelV v w'->Q w' s') :
  wpAny (model X.prog X.w) A (getItem (.ref a) u) Q E s:=by
 rcases g with⟨kvs,k,e,ey,l⟩|⟨kvs,k,b,e,ey,eb,l⟩
 ·subst ey;obtain⟨z,hd,vs,rel,dd⟩:=jgx I.hok e;obtain⟨w',hw,rw'⟩:=RelO.some_of (v:=v) (o:=valueAt vs k) (by rw[l];exact rel.val k)
  exact wpAny_getItem_of (jgk ry) dd.mapOf hw (h w' _ (I.tok _) rw')
 ·subst ey;cases(show u=YaP b from ry);obtain⟨z,hd,xs,rel,dd⟩:=jhU I.hok e;obtain⟨w',hw,rw'⟩:=RelO.some_of (v:=v) (o:=(atKey xs k).map (·.2)) (by rw[l];exact rel.val k)
  obtain⟨p,hp,hp2⟩:=Option.map_eq_some_iff.mp hw;refine wpAny_getItem_heap (Yco hu) (jeF I.hok eb) dd hp ?_;rw[hp2];exact h w' _ (I.tok _) rw'
theorem d_in  {σ: St}(hu:A.units+1<cLine)(I:Inv X pins σ H s)(g:DGet H a y o)(ry:RelV y u)(h:∀s',Inv X pins σ H s'->Q (.bool o.isSome) s') :
  wpAny (model X.prog X.w) A (YaF .In u (.ref a)) Q E s:=by
 rcases g with⟨kvs,k,e,ey,l⟩|⟨kvs,k,b,e,ey,eb,l⟩
 ·subst ey;obtain⟨z,hd,vs,rel,dd⟩:=jgx I.hok e;refine wpAny_in_of (jgk ry) hd dd.mapOf ?_;rw[<- (rel.val k).isSome_eq,<- l];exact h _ (I.tok _)
 ·subst ey;cases(show u=YaP b from ry);obtain⟨z,hd,xs,rel,dd⟩:=jhU I.hok e;refine wpAny_in_heap (Yco hu) (jeF I.hok eb) hd dd ?_;have q:=(rel.val k).isSome_eq;rw[Ydz]at q;rw[<- q,<- l];exact h _ (I.tok _)
theorem jmq  {σ: St}(hu:A.units+1<cLine)(I:Inv X pins σ H s)(g:DGet H a y o)(ry:RelV y u)(h:∀s',Inv X pins σ H s'->Q (.bool (!o.isSome)) s') :
  wpAny (model X.prog X.w) A (YaF .NotIn u (.ref a)) Q E s:=by
 rcases g with⟨kvs,k,e,ey,l⟩|⟨kvs,k,b,e,ey,eb,l⟩
 ·subst ey;obtain⟨z,hd,vs,rel,dd⟩:=jgx I.hok e;refine wpAny_notIn_of (jgk ry) hd dd.mapOf ?_;rw[<- (rel.val k).isSome_eq,<- l];exact h _ (I.tok _)
 ·subst ey;cases(show u=YaP b from ry);obtain⟨z,hd,xs,rel,dd⟩:=jhU I.hok e;refine wpAny_notIn_heap (Yco hu) (jeF I.hok eb) hd dd ?_;have q:=(rel.val k).isSome_eq;rw[Ydz]at q;rw[<- q,<- l];exact h _ (I.tok _)
theorem jgz  {σ: St}(I:Inv X pins σ H s)(mu:Mut (H a))(hs:YdN a s.heap h')(he:∃q,h'.get? a=some q)(new:jaE X.prog X.w (upd H a ob) h' a ob) :
  Inv X pins σ (upd H a ob) { s with heap:=h',toks:=t' }:=
 I.write (x:=a) (e:=a) mu (.inl rfl) (λb q hb z=>(hs.2 b hb).trans z) he new
theorem jkQ        (z:kvs.length<=Yag)(hd:(a==Ya3)=false)(rel:KV kvs vs)(dd:h'.DictOf (jar P w) a vs) :
  jaE P w H' h' a (.dK kvs):=⟨z,hd,vs,rel,dd⟩
theorem jjb  {σ: St}(hu:A.units+1<cLine)(I:Inv X pins σ H s)(g:DPut H a y v H')(ry:RelV y u)(rv:RelV v r)(h:∀s',Inv X pins σ H' s'->Q () s') :
  wpAny (model X.prog X.w) A (setItem (.ref a) u r) Q E s:=by
 rcases g with⟨kvs,k,e,ey,l,eH⟩|⟨kvs,k,b,e,ey,eb,l,eH⟩
 ·subst ey eH;obtain⟨z,hd,vs,rel,dd⟩:=jos I.hok e;have hz:vs.length<=Yag:=by rw[<- rel.length];exact z
  have hl:(putK kvs k v).length<=Yag:=by have:=jcC kvs k v;lia
  refine wpAny_setItem_pairs (hsz:=hz) (jgk ry) dd λh' dd' hs=>h _ ?_;have he:∃q,h'.get? a=some q:=let ⟨q,_,_,hq,_⟩:=dd';⟨q,hq⟩
  exact jgz I (by rw[e];exact YbN) hs he (jkQ hl hd (rel.put k rv) dd')
 ·subst ey eH;cases(show u=YaP b from ry);obtain⟨z,hd,xs,rel,dd⟩:=jpJ I.hok e;have hz:xs.length<=Yag:=by rw[<- Ydn rel];exact z
  have hl:(putK kvs k v).length<=Yag:=by have:=jcC kvs k v;lia
  refine wpAny_setItem_heap (hsz:=hz) (Yco hu) (jeF I.hok eb) dd λh' dd' hs=>h _ ?_;obtain⟨q,es,ep,hq,h2,h3,h4,_,h5⟩:=dd';refine jgz I (by rw[e];exact YbN) hs ⟨q,hq⟩ ⟨hl,hd,_,(rel.put k eb rv).keeps λc ys ec=>?_,q,es,ep,hq,h2,h3,h4,h5⟩
  rw[jae (jpw ec e (λz=>nomatch z))];exact ec


theorem jpM  {σ: St}(I:Inv X pins σ H s)(e:Rd H a (.dK kvs))(h:∀t s',Inv X pins σ H s'->Q (.int kvs.length t) s'):wpAny (model X.prog X.w) A (call (.builtin "len") [.ref a]) Q E s:=by
 obtain⟨z,hd,vs,rel,dd⟩:=jgx I.hok e;refine call_len_dict hd dd (by rw[<- rel.length];rw[YbS]at z;lia) ?_
 rw[<- rel.length];exact h _ _ (I.tok _)

theorem jgy    {σ:St}(I:Inv X pins σ H s)(g:DGet H a y o):s.TypeIs (.ref a) "dict" := by
 rcases g with⟨kvs,k,e,_,_⟩|⟨kvs,k,b,e,_,_,_⟩
 ·obtain⟨_,_,vs,_,dd⟩:=jgx I.hok e;exact dd.typeIs
 ·obtain⟨_,_,xs,_,dd⟩:=jhU I.hok e;exact dd.typeIs


theorem jhh     (h:Heap)(hb:Ya3<h.objs.size):jaE P w H (h.push { cls:=.type "dict",data:=.dict #[] }) h.objs.size (.dK []):=
 ⟨YaK _,beq_eq_false_iff_ne.mpr (Ne.symm (YaR hb)),[],.nil,Heap.DictOf.new h⟩
def jmN  : TE:=λ_ H Q=>∀p,H p=none->Q (.ref p) (upd H p (.dK []))

theorem jjR  : PE X (.Dict [] [] pos) jmN:=λpins s σ H Q I h=>
 wpAny_Dict_empty ⟨.ref s.heap.objs.size,_,I.laid (a:=s.heap.objs.size) (o:=.dK []) (t':=s.toks) (λ_ _ q=>Yad _ q) (Yae _) (jhh s.heap I.big),rfl,h _ (I.hok.fresh (Yae _))⟩

def jgO  : List (TE×TE)->St->Hp->(List (V×V)->Hp->Prop)->Prop
 |[],_,H,Q=>Q [] H
 |(tk,tv)::r,σ,H,Q=>tk σ H λx H1=>tv σ H1 λy H2=>jgO r σ H2 λps H3=>Q ((x,y)::ps) H3
abbrev VV  : List (V×V)->List (Value×Value)->Prop:=Paired λp q=>RelV p.1 q.1/\RelV p.2 q.2
def PPs  (X:Cx)(pos:Pos)(keys:List (Option Expr))(values:List Expr)(trs:List (TE×TE)):Prop:=
 ∀(pins:List (Addr×Obj)) (s:Shared) (σ:St) (H:Hp) (Q:List (V×V)->Hp->Prop),Inv X pins σ H s->jgO trs σ H Q->
  wpAny (model X.prog X.w) X.A (evalPairs (pairTrees keys values X.env pos)) (λvs s'=>∃ps H',Inv X pins σ H' s'/\VV ps vs/\Q ps H') X.xe s
theorem jlt    : PPs X pos [] [] []:=λpins s σ H Q I h=>pairTrees_nil_walk ⟨[],H,I,.nil,h⟩
theorem jjK         (hk:PE X k tk)(hv:PE X v tv)(hr:PPs X pos ks vs trs) :
  PPs X pos (some k::ks) (v::vs) ((tk,tv)::trs):=λpins s σ H Q I h=>
 pairTrees_cons_walk (thn (hk pins s σ H _ I h) λu s1 ⟨x,H1,I1,rx,q1⟩=>thn (hv pins s1 σ H1 _ I1 q1) λw2 s2 ⟨y,H2,I2,ry,q2⟩=>
  thn (hr pins s2 σ H2 _ I2 q2) λws s3 ⟨ps,H3,I3,rel,q3⟩=>⟨(x,y)::ps,H3,I3,.cons ⟨rx,ry⟩ rel,q3⟩)

def jd4  (kvs more:List (Key×V)):List (Key×V):=more.foldl (λacc kv=>putK acc kv.1 kv.2) kvs
theorem KV.merge  : ∀{more } {rs } {kvs } {vs },KV more rs->KV kvs vs->KV (jd4 kvs more) (merged vs rs):=by
 intro more rs kvs vs r;unfold KV at r
 induction r generalizing kvs vs with
 |nil=>intro q;exact q
 |@cons p q ps qs h t ih=>
  intro r0;have e:KV (putK kvs p.1 p.2) (stored vs q.1 q.2):=by
   have:=r0.put p.1 h.2;rw[<- h.1];exact this
  exact ih e
theorem jcY  : ∀(more kvs:List (Key×V)),(jd4 kvs more).length<=kvs.length+more.length
 |[],kvs=>by show kvs.length<=kvs.length+0;lia
 |p::r,kvs=>by
  have h1:=jcY r (putK kvs p.1 p.2);have h2:=jcC kvs p.1 p.2;show(jd4 (putK kvs p.1 p.2) r).length<=_;rw[YbL];lia
theorem jeO    : ∀{kvs } {ws },VV (kvs.map λkv=>(kV kv.1,kv.2)) ws->∃rs,Carries (jar P w) ws rs/\KV kvs rs
 |[],_,r=>by rw[YdM]at r;cases r;exact⟨[],YbN,.nil⟩
 |p::kvs,_,r=>by
  rw[YaC]at r;cases r with
  |@cons a b as bs h t=>
   obtain⟨rs,c,q⟩:=jeO (P:=P) (w:=w) t;obtain⟨b1,b2⟩:=b;exact⟨(p.1,b2)::rs,⟨jgk h.1,rfl,c⟩,.cons ⟨rfl,h.2⟩ q⟩
def jo5  (trs:List (TE×TE)):TE:=λσ H Q=>∀p,H p=none->jgO trs σ (upd H p (.dK [])) λps H2=>H2 p=some (.dK [])/\∃kvs:List (Key×V),ps=kvs.map (λkv=>(kV kv.1,kv.2))/\kvs.length<=15/\Q (.ref p) (upd H2 p (.dK (jd4 [] kvs)))
theorem jlB       (h:PPs X pos keys values trs)(hall:keys.all (·.isSome)=true)(hl:keys.length=values.length)(h0:keys≠[])
  (h15:keys.length<=15):PE X (.Dict keys values pos) (jo5 trs):=by
 intro pins s σ H Q I q;have hn:=I.hok.fresh (Yae s.heap.objs.size);have I1:=I.laid (a:=s.heap.objs.size) (o:=.dK []) (h':=s.heap.push { cls:=.type "dict",data:=.dict #[] }) (t':=s.toks) (λ_ _ q=>Yad _ q) (Yae _) (jhh s.heap I.big);refine wpAny_Dict_walk (knd:=jar X.prog X.w) hall hl h0 h15 (thn (h pins _ σ _ _ I1 (q _ hn)) λws s2 ⟨ps,H2,I2,rel,e,kvs,ep,lk,q2⟩=>?_);subst ep;obtain⟨rs,c,rk⟩:=jeO (P:=X.prog) (w:=X.w) rel;obtain⟨z,hd,vs0,r0,dd⟩:=jos I2.hok e;cases r0;refine⟨rs,c,dd,λh' dd' hs=>⟨.ref s.heap.objs.size,_,?_,rfl,q2⟩⟩;have hz:(jd4 [] kvs).length<=Yag:=by
  have h1:=jcY kvs [];rw[YcB]at h1;rw[YbS];lia
 have he:∃q,h'.get? s.heap.objs.size=some q:=let ⟨q,_,_,hq,_⟩:=dd';⟨q,hq⟩
 exact jgz I2 (by rw[e];exact YbN) hs he (jkQ hz hd (rk.merge .nil) dd')

structure M1 (X:Cx)(o:Expr)(m:Str)(apos:Pos)(e:Expr)(cpos:Pos):Prop where
 base:Ycp o m X.env (eval o X.env)=eval o X.env
 few:((backTo cpos (Yat [e] X.env)).all (λx=>!x.1)&&(backToKw cpos (keywordEach [] X.env)).all (λx=>x.1.isSome)
  && decide (([e]:List Expr).length+([]:List Keyword).length+(if ([]:List Keyword).isEmpty then 0 else 1)<30))=true
 line:(apos.endLine==cpos.line)=true
 trees:backTo cpos (Yat [e] X.env)=[(false,eval e X.env)]

theorem jov  {σ: St}(hu:A.units+1<cLine)(I:Inv X pins σ H s)(g:DGet H a y o)(ry:RelV y u)(rd:RelV d r)(h:∀w' s',Inv X pins σ H s'->RelV (o.getD d) w'->Q w' s') :
  wpAny (model X.prog X.w) A (call (.builtin "dict.get") [.ref a,u,r]) Q E s:=by
 rcases g with⟨kvs,k,e,ey,l⟩|⟨kvs,k,b,e,ey,eb,l⟩
 ·subst ey;obtain⟨z,hd,vs,rel,dd⟩:=jgx I.hok e;refine call_meetsIn Ycl dd.typeIs Yep (Yeh _ _ _) (meets_dict_get_default (jar X.prog X.w) a (jgk ry) hd r) ⟨_,dd.mapOf,h _ _ (I.tok _) ?_⟩;rw[l];exact(rel.val k).getD rd
 ·subst ey;cases(show u=YaP b from ry);obtain⟨z,hd,xs,rel,dd⟩:=jhU I.hok e;refine call_meetsIn Ycl dd.typeIs Yep (Yeh _ _ _) (meetsH_dict_get_default (YdU (jar X.prog X.w)) a b hd r) ⟨Yco hu,k,xs,jeF I.hok eb,dd,h _ _ (I.tok _) ?_⟩;rw[l];exact(rel.val k).getD rd






end L2

namespace Att
open PySem PySem.W PySem.Calls PyProof.Rows

theorem jd9    : ∀(ns:List Int) vs ,WellAll P h vs (ns.map WData.int)->IntsAre vs ns:=by
 intro ns
 induction ns with
 |nil=>
  intro vs w;rw[YdM]at w;cases w;exact .nil
 |cons n ns ih=>
  intro vs w;rw[YaC]at w;cases w with
  |cons a b=>
   cases a;exact .cons _ _ (ih _ b)

theorem jif  {l:OpenLaw}(hn:l.most=some n) 
  (hpre:l.row.toRowW.claim.pre args=true) (hwl:WellAll P h vals args) :
  ∃a vs ns,vals=[YaP a]/\args=[WData.list (ns.map WData.int)]/\h.get? a=some { cls:=.type "list",data:=.seq vs.toArray }/\IntsAre vs ns/\ns.length<=n:=by
 have hsh:WShape.hasAll [] args [.list .int]=true:=(pre_splitW hpre).1;have hc:l.pre.holds [] { args:=args }=true:=(pre_splitW hpre).2;obtain⟨d,r,rfl,h1,h2⟩:=hasAllW_cons hsh;obtain rfl:=hasAllW_nil h2;obtain⟨xs,rfl,h3⟩:=hasW_list h1;obtain⟨ns,rfl⟩:=items_int h3;have hlen:ns.length<=n:=by
  unfold OpenLaw.pre at hc;have h4:(WTm.not (.lt (.lit (.int (n:Int))) (.len (.arg 0)))).holds [] { args:=[.list (ns.map .int)] }=true:=by
   have h4:=(holds_andW hc).1;rw[hn]at h4;exact h4
  have h5:=condW_of h4 (w_not (w_lt w_lit (w_len_list (w_arg rfl))));rw[Yaj]at h5;refine Nat.le_of_not_lt λq=>?_;have q':(n:Int)<((ns.length:Nat):Int):=by lia
  first
   |(rw[decide_eq_true q']at h5;exact absurd h5 (by decide))
   |(simp at h5;lia)
 cases hwl with
 |cons w1 w2=>
  cases w2;cases w1 with
  |list ho hall=>exact⟨_,_,ns,rfl,rfl,ho,jd9 ns _ hall,hlen⟩

theorem jim  (l:OpenLaw) args:l.row.toRowW.claim.post args (.bool true) args=true:=
 postW_of (r:=l.row.toRowW) (X:=(true==true))
  (show WShape.has [] (.bool true) .bool=true by first|rfl|decide|simp[WShape.has,WShape.arms,WShape.armsAll])
  (show(WTm.eq .res (.lit (.bool true))).value [] { args:=args,res:=some (.bool true),after:=args }=some (.bool (true==true))from w_eq_bool (w_res rfl) w_lit) rfl

theorem attach_call  {l:OpenLaw} 
  (hn:l.most=some n) (hdf:d.params.defaults=[])
  (call:∀(w:World) (s₀ s₁:Shared) mg mb fa (o:Obj) pm cd doc a (vs:List Value) (ns:List Int),
   Ground q loose [] XP w s₀ mg mb s₁.heap->YP w s₁.heap->
   s₁.heap.get? fa=some o->o.data=.func (docDef d.name d.params d.body d.scope pm cd doc)->s₁.heap.CodeRec cd d.name->mg d.name=some (.ref fa)->
   s₁.heap.get? a=some { cls:=.type "list",data:=.seq vs.toArray }->IntsAre vs ns->ns.length<=n->s₁.gens=#[]->
   codeAny (model l.prog w) callerA (.call (.ref fa) ⟨[.ref a],[]⟩) (λr s'=>r=.ok (.ret (.bool true))/\OldK s₁.heap s'.heap/\s'.os=s₁.os/\AllBare s'.gens) s₁) :
  WalkO q loose XP YP l.row.toRowW d [] (λf vs=>Yfq f vs):=by
 intro w s₀ s₁ mg mb G Y fa o pm cd doc dV kV ho hd hcd hD hmg hg args vals as hpre hlay hrd hwl hlo;obtain rfl:dV=.none:=Dflts.none hD hdf;obtain rfl:kV=.none:=Dflts.noKw hD;obtain⟨a,vs,ns,rfl,rfl,hobj,hints,hlen⟩:=jif hn hpre hwl;refine enter_call (YcZ (call w s₀ s₁ mg mb fa o pm cd doc a vs ns G Y ho (fd_plain hd) hcd hmg hobj hints hlen hg) λr s' hq=>?_);obtain⟨rfl,h2,h3,h4⟩:=hq;exact⟨.inl ⟨.bool true,.bool true,[],rfl,λ_=>rfl,.bool true,jim l _,λ_=>⟨Yek,λ_ hm=>(nomatch hm)⟩⟩,h2,h3,h4⟩


end Att

namespace L2
open PySem PySem.Spec PyProof.Rows

theorem jfj  : ∀{vs } {ns },IntsAre vs ns->Vals (ns.map V.int) vs
 |_,_,.nil=>.nil
 |_,_,.cons n t h=>.cons ⟨t,rfl⟩ (jfj h)



noncomputable def jaD  (s:Stmt)(j:Nat):Stmt:=match s with
 |.ClassDef _ _ _ body _ _ _ _ _ _ _=>body.getD j (.Pass ⟨0,0,0,0⟩)
 |_=>.Pass ⟨0,0,0,0⟩
def jax  (s:Stmt):YfW:=match s with
 |.FunctionDef _ a _ _ _ _ _ _ _ _=>a
 |_=>{ posonlyargs:=[],args:=[],vararg:=none,kwonlyargs:=[],kw_defaults:=[],kwarg:=none,defaults:=[] }
def jag  (s:Stmt):List Stmt:=match s with
 |.FunctionDef _ _ b _ _ _ _ _ _ _=>b
 |_=>[]
def jaa  (s:Stmt):Scope:=match s with
 |.FunctionDef _ _ _ _ _ _ sc _ _ _=>sc
 |_=>{ kind:=.function,names:=[],isGenerator:=false,isCoroutine:=false }

abbrev E0  : XK:=λ_ _ _=>False
structure Fun (K:Yab)(x qual:Str)(st:Stmt)(f:Addr)(fd:YeF):Prop where
 ex:∃(oc:Value) (od:Option Addr) (kV doc pm:Value) (an:Option Addr) (cdv ct:Value) (osl:Array (Option Value)),
  fd=Ya2 x qual (jax st) (jag st) (jaa st) .none kV doc pm an cdv ct/\K.lookup f=some ⟨oc,od,.func fd,osl⟩/\Ybo K cdv qual=true
 kp:Ybg K (.ref f)=true

theorem Fun.binds  {K: Yab}{st:Stmt}(F:Fun K x qual st f fd)
  (h:∀kV doc pm an cdv ct (us:List Value),us.length=ps.length->Yfo (Ya2 x qual (jax st) (jag st) (jaa st) .none kV doc pm an cdv ct) ⟨us,[]⟩=pure (ps.zip us)):Binds K fd ps []:=by
 obtain⟨oc,od,kV,doc,pm,an,cdv,ct,osl,rfl,lk,hcd⟩:=F.ex;exact .all (h kV doc pm an cdv ct)
theorem ji3  {K: Yab}{st:Stmt}{kV doc pm cdv ct:Value}(l:K.lookup f=some ⟨oc,od,.func (Ya2 x qual (jax st) (jag st) (jaa st) .none kV doc pm an cdv ct),osl⟩)
  (c:Ybo K cdv qual=true) (k:Ybg K (.ref f)=true):Fun K x qual st f (Ya2 x qual (jax st) (jag st) (jaa st) .none kV doc pm an cdv ct):=⟨⟨oc,od,kV,doc,pm,an,cdv,ct,osl,rfl,l,c⟩,k⟩
theorem jpD    (hr:Room k A):A.units+1<cLine:=Ya0 (YcD (by decide:1<=64) _) hr.units


theorem iteF  {A B:Prop}(h:B):if false=true then A else B:=by
 rw[if_neg Yai];exact h
theorem iteT  {A B:Prop}(h:A):if true=true then A else B:=by
 rw[if_pos rfl];exact h

theorem jjj  : ja8 X (.builtin "len") (λxs H Q=>∃a kvs,xs=[V.ref a]/\H a=some (.dK kvs)/\Q (.int kvs.length) H):=by
 intro pins s σ H xs us Q I r h;obtain⟨a,kvs,rfl,ha,q⟩:=h;obtain⟨u,rfl,ru⟩:=jeQ r;cases ru;exact jpM I (.inl ha) λt s' I'=>⟨.int kvs.length,H,I',⟨t,rfl⟩,q⟩
section
variable {κ:Type}[DecidableEq κ]
end
end L2

namespace L2
open PySem PySem.Spec PyProof.Rows


noncomputable def jf8  (env:Env)(ifs:List Expr):Sem Bool:=forIn ifs true λc r=>ite (r=true) (isTrue c env (eval c env) >>= λb=>pure (.yield b)) (pure (.yield r))
def jd0  (ip:Pos)(tg:Expr)(ifs:List Expr)(it:Value)(env:Env)(em:Sem Unit)(next:Code):Sem Fin:=
 standAt ip >>= λ_=>pyNext it >>= λr=>match r with
  |none=>pure (.done .next)
  |some v=>YcO tg it v >>= λ_=>assign tg env v >>= λ_=>jf8 env ifs >>= λok=>ite (ok=true) (em >>= λ_=>again next) (again next)
def jk9  (M:Model)(A:Around)(tg:Expr)(ifs:List Expr)(it:Value)(env:Env)(em:Sem Unit)(fin:Shared->Prop)(less:Shared->Prop):Option Value->Shared->Prop
 |none,s=>fin s
 |some v,s=>wpAny M A (YcO tg it v) (λ_ s=>wpAny M A (assign tg env v) (λ_ s=>wpAny M A (jf8 env ifs) (λok s=>if ok=true then wpAny M A em (λ_ s=>less s) (λ_ _=>False) s else less s) (λ_ _=>False) s) (λ_ _=>False) s) (λ_ _=>False) s
theorem jfQ             (I : Nat -> Shared -> Prop)
    (hct : YeA (.ListComp elt gens scope pos) dp it acc env = jd0 ip target ifs it env em (.compLoop (.ListComp elt gens scope pos) dp it acc env))
    (turn : ∀ k t, I k t -> wpAny (model prog w) A (pyNext it) (jk9 (model prog w) A target ifs it env em (R (.ok .next)) λt => ∃ m, m < k /\ I m t) (λ_ _ => False) t)
     n (h : I n s) : codeAny (model prog w) A (.compLoop (.ListComp elt gens scope pos) dp it acc env) R s := by
  have no : ∀ {Z : Value -> Shared -> Prop} (e : Value) (t : Shared), False -> Z e t := λ_ _ f => f.elim
  refine codeAny_loop rfl I (λk t hk => wpAny_noted (m := YeA (.ListComp elt gens scope pos) dp it acc env) (hct ▸ ?_)) n h
  refine Yac (Yb7 (Yac (YaL (turn k t hk) (λr t1 p => ?_) no)))
  match r, p with
  | none, p => exact Yal p
  | some v, p =>
    refine Yac (YaL p (λ_ t2 p => Yac (YaL p (λ_ t3 p => Yac (YaL p (λok t4 p => ?_) no)) no)) no)
    match ok, p with
    | false, p => exact Yal ⟨rfl, p⟩
    | true, p => exact Yac (YaL p (λ_ t5 p => Yal ⟨rfl, p⟩) no)

theorem jch  (env:Env):∀(names:List (Str×Ybp)) acc ,(∀y∈names,y.2=.free->∃c,env.cells.lookup y.1=some c)->
  ∃cl ,(forIn names acc (λ(y:Str×Ybp) cs=>(if (y.2==Yav)=true then (do let c <- cellOf env y.1;pure (ForInStep.yield ((y.1,c)::cs))) else pure (ForInStep.yield cs):Sem (ForInStep (List (Str×Addr))))):Sem (List (Str×Addr)))=pure cl/\
   (∀x c,(x,c)∈cl->(x,c)∈acc\/(env.cells.lookup x=some c/\(x,Yav)∈names))/\(∀p∈acc,p∈cl)/\(∀y∈names,y.2=.free->∃c,(y.1,c)∈cl)
 |[],acc,_=>⟨acc,rfl,λ_ _ h=>.inl h,λ_ h=>h,λ_ h=>nomatch h⟩
 |(n,k)::r,acc,h=>by
  by_cases hk:k=.free
  ·subst hk;obtain⟨c,hc⟩:=h (n,.free) YaH rfl;obtain⟨cl,e,h1,h2,h3⟩:=jch env r ((n,c)::acc) λy hy=>h y (Yan _ hy);refine⟨cl,?_,λx d hd=>?_,λp hp=>h2 p (Yan _ hp),λy hy hf=>?_⟩
   ·rw[Yea];have:(cellOf env n:Sem Addr)=pure c:=by unfold cellOf;rw[hc]
    simp_all
   ·grind
   grind
  ·obtain⟨cl,e,h1,h2,h3⟩:=jch env r acc λy hy=>h y (Yan _ hy);have hb:(k==Yav)=false:=by simpa using hk
   refine⟨cl,?_,λx d hd=>?_,h2,λy hy hf=>?_⟩
   ·rw[Yea];simp only[hb,YbT,if_false,pure_bind];exact e
   ·rcases h1 x d hd with z|⟨z,z'⟩
    ·exact .inl z
    ·exact .inr ⟨z,Yan _ z'⟩
   ·rcases YaM.mp hy with z|z
    ·subst z;exact absurd hf hk
    ·exact h3 y z hf
theorem jcX  {β:Type}:∀{l:List (Str×β)} {x } {c },(x,c)∈l->∃d,l.lookup x=some d/\(x,d)∈l
 |(n,k)::r,x,c,h=>by
  cases hx:x==n with
  |true=>
   simp_all
  |false=>
   rcases YaM.mp h with z|z
   ·lia
   ·obtain⟨d,e,m⟩:=jcX z
    grind
theorem jeN    (h:∀y∈scope.names,y.2=.free->∃c,env.cells.lookup y.1=some c) :
  ∃cl ,Yfa scope env=pure cl/\(∀x c,cl.lookup x=some c->env.cells.lookup x=some c)/\(∀y∈scope.names,y.2=.free->∃c,cl.lookup y.1=some c):=by
 obtain⟨cl,e,h1,_,h3⟩:=jch env scope.names [] h;refine⟨cl,?_,λx c hx=>?_,λy hy hf=>?_⟩
 ·unfold Yfa
  simp_all
 ·rcases h1 x c (Yaq hx)with z|⟨z,_⟩
  ·simp_all
  lia
 ·obtain⟨c,hc⟩:=h3 y hy hf;obtain⟨d,e,_⟩:=jcX hc
  simp_all

noncomputable def jap  (X:Cx)(N:List Str)(scope:Scope)(cl:List (Str×Addr))(C:Addr)(s₀:Shared)(H₀:Hp)(fp:List Addr):Cx where
 prog:=X.prog
 w:=X.w
 K:=X.K
 mg:=X.mg
 base:=X.base
 A:=X.A
 N:=N
 s₀:=s₀
 H₀:=H₀
 env:=compEnvC scope cl C X.env
 outer:=X.stack
 stack:=X.stack
 ex:=fp
 fn:=λx=>scope.names.lookup x==some .cell
 calm:=X.calm
 pn:=[]
 xe:=λ_ _=>False

noncomputable def cOk  (oN:List Str)(on:List (Str×Ybp))(N:List Str)(pick:List (Option Nat))(scope:Scope):Bool:=
 decide (scope.kind=.function)&&scope.names.all (λy=>y.2 != .cell||scope.names.lookup y.1==some .cell)&&scope.names.all (λy=>y.2 != .local||scope.names.lookup y.1==some .local)
  && scope.names.all (λy=>y.2 != .free||(scope.names.lookup y.1==some .free&&(on.lookup y.1==some .cell||on.lookup y.1==some .free)))
  && pick.length==N.length&&(N.zip pick).all (λp=>match p.2 with|none=>true|some j=>oN[j]?==some p.1&&scope.names.lookup p.1==some .free)

structure CScope (X:Cx)(N:List Str)(pick:List (Option Nat))(scope:Scope):Prop where
 kind:scope.kind=.function
 cells:∀y∈scope.names,y.2=.cell->scope.names.lookup y.1=some .cell
 names:∀y∈scope.names,y.2=.local->scope.names.lookup y.1=some .local
 fre:∀y∈scope.names,y.2=.free->scope.names.lookup y.1=some .free/\(X.env.kindOf y.1=some .cell\/X.env.kindOf y.1=some .free)
 len:pick.length=N.length
 caps:∀(i j:Nat) (x:Str),N[i]?=some x->pick[i]?=some (some j)->X.N[j]?=some x/\scope.names.lookup x=some .free
theorem jdB  (f:Str->Ybp->Ybp):∀(names:List (Str×Ybp)) x ,(names.map λy=>(y.1,f y.1 y.2)).lookup x=(names.lookup x).map (f x)
 |[],_=>rfl
 |(n,k)::r,x=>by
  rw[YaC,YaT,YaT,jdB f r x];by_cases e:x=n
  ·subst e;rw[beq_self_eq_true];rfl
  ·rw[beq_false_of_ne e]
noncomputable def jkG  (env:Env)(n:Str)(k:Ybp):Ybp:=if (k==Yav&&env.scope.kind == .function&&env.kindOf n==some .cell) then .cell else k
theorem jcP (env:Env)(names:List (Str×Ybp))(x:Str) :
  (names.map λ(n,k)=>if (k==Yav&&env.scope.kind == .function&&env.kindOf n==some .cell) then (n,YaI) else (n,k)).lookup x=(names.lookup x).map (jkG env x):=by
 rw[<- jdB (jkG env)];congr 2;funext y;show ite _ _ _=(y.1,ite _ _ _)
 lia
theorem ja4 {env:Env}{names:List (Str×Ybp)}{x:Str}(h:names.lookup x=some .free) :
  (names.map λ(n,k)=>if (k==Yav&&env.scope.kind == .function&&env.kindOf n==some .cell) then (n,YaI) else (n,k)).lookup x=some .cell\/
  (names.map λ(n,k)=>if (k==Yav&&env.scope.kind == .function&&env.kindOf n==some .cell) then (n,YaI) else (n,k)).lookup x=some .free:=by
 rw[jcP,h];show some (ite _ _ _)=_\/some (ite _ _ _)=_
 lia
theorem jaA {env:Env}{q:Ybp}(hq:q≠.free){names:List (Str×Ybp)}{x:Str}(h:names.lookup x=some q) :
  (names.map λ(n,k)=>if (k==Yav&&env.scope.kind == .function&&env.kindOf n==some .cell) then (n,YaI) else (n,k)).lookup x=some q:=by
 rw[jcP,h];show some (ite _ _ _)=_
 lia
theorem jb1 {env:Env}:∀{names:List (Str×Ybp)} {x:Str},
  ((names.map λ(n,k)=>if (k==Yav&&env.scope.kind == .function&&env.kindOf n==some .cell) then (n,YaI) else (n,k)).lookup x=some .cell\/
  (names.map λ(n,k)=>if (k==Yav&&env.scope.kind == .function&&env.kindOf n==some .cell) then (n,YaI) else (n,k)).lookup x=some .free)->(x,Yav)∈names\/(x,YaI)∈names
 |[],_,h=>by simp at h
 |(n,k)::r,x,h=>by
  have ih:_->_:=@jb1 env r x;have h':Ybs x ((if (k==Yav&&env.scope.kind == .function&&env.kindOf n==some .cell)=true then (n,YaI) else (n,k))::r.map λ(n,k)=>if (k==Yav&&env.scope.kind == .function&&env.kindOf n==some .cell) then (n,YaI) else (n,k))=some .cell\/Ybs x ((if (k==Yav&&env.scope.kind == .function&&env.kindOf n==some .cell)=true then (n,YaI) else (n,k))::r.map λ(n,k)=>if (k==Yav&&env.scope.kind == .function&&env.kindOf n==some .cell) then (n,YaI) else (n,k))=some .free:=h
  by_cases hk:k=.free
  ·cases hx:x==n with
   |true=>simp_all
   |false=>
    refine(ih ?_).imp (Yan _) (Yan _);by_cases hcc:(k==Yav&&env.scope.kind == .function&&env.kindOf n==some .cell)=true
    ·rw[if_pos hcc]at h';simpa only[YaT,hx]using h'
    ·rw[if_neg hcc]at h';simpa only[YaT,hx]using h'
  ·have hb:(k==Yav)=false:=by simpa using hk
   rw[if_neg (by simp[hb])]at h'
   cases hx:x==n with
   |true=>
    simp only[YaT,hx]at h';rcases h' with z|z
    ·rw[eq_of_beq hx,Yar z];exact .inr YaH
    ·exact absurd (Yar z) hk
   |false=>exact(ih (by simpa only[YaT,hx]using h')).imp (Yan _) (Yan _)

theorem jaI  : ∀names n acc ,Ya7 n names acc=Ya7 n names []++acc
 |[],_,_=>rfl
 |(x,k)::r,n,acc=>by
  unfold Ya7;split
  ·rw[jaI r (n+1) ((x,n)::acc),jaI r (n+1) [(x,n)],Yb1];rfl
  ·exact jaI r n acc
theorem jaZ  : ∀names n {x } {c },(x,c)∈Ya7 n names []->(x,YaI)∈names
 |[],_,_,_,h=>nomatch h
 |(y,k)::r,n,x,c,h=>by
  unfold Ya7 at h;split at h
  ·rename_i hk;rw[jaI]at h;rcases List.mem_append.mp h with h|h
   ·exact Yan _ (jaZ r _ h)
   simp_all
  ·exact Yan _ (jaZ r _ h)
theorem jhM  {β:Type}:∀(l m:List (Str×β)) x ,(l++m).lookup x=(l.lookup x).or (m.lookup x)
 |[],_,_=>by simp
 |(n,k)::r,m,x=>by
  grind
structure BCells (scope:Scope)(cl cs:List (Str×Addr))(lo:Nat)(h:Heap):Prop where
 lk:∀x c,cs.lookup x=some c->((x,YaI)∈scope.names/\lo<c/\h.IsCell c none)\/((x,YaI)∉scope.names/\cl.lookup x=some c)
 own:∀x,scope.names.lookup x=some .cell->∃c,cs.lookup x=some c/\lo<c
 old:∀x c,(x,YaI)∉scope.names->cl.lookup x=some c->cs.lookup x=some c
 inj:∀x y c,cs.lookup x=some c->cs.lookup y=some c->lo<c->x=y
theorem jjo   {cl:List (Str×Addr)}{lo:Nat}(hl:h.objs.size=lo+1)(S:∀y∈scope.names,y.2=.cell->scope.names.lookup y.1=some .cell)(hcl:∀x c,cl.lookup x=some c->c<=lo):BCells scope cl (Ya7 (lo+1) scope.names cl) lo (YeJ h scope.names):=by
 have ok:=cellsFrom_ok scope.names h (lo+1) [] ⟨λ_ _ hm=>(nomatch hm),Yek⟩ (by lia)
 rw[hl]at ok;have look:∀x,(Ya7 (lo+1) scope.names cl).lookup x=((Ya7 (lo+1) scope.names []).lookup x).or (cl.lookup x):=λx=>by rw[jaI,jhM]
 have own:∀x,(x,YaI)∈scope.names->∃c,(Ya7 (lo+1) scope.names []).lookup x=some c:=λx hx=>jfd (S _ hx rfl);refine⟨λx c e=>?_,λx hx=>?_,λx c hx hc=>?_,λx y c e1 e2 hc=>?_⟩
 ·rw[look]at e;by_cases hx:(x,YaI)∈scope.names
  ·obtain⟨c',e'⟩:=own x hx;rw[e',Option.some_or]at e;have e:c'=c:=Yar e;subst e;obtain⟨z1,z2⟩:=ok.empty x c' (Yaq e')
   lia
  ·cases q:(Ya7 (lo+1) scope.names []).lookup x with
   |some c'=>exact absurd (jaZ _ _ (Yaq q)) hx
   |none=>simp_all
 ·obtain⟨c,e⟩:=own x (Yaq hx);exact⟨c,by simp_all,(ok.empty x c (Yaq e)).2⟩
 ·rw[look];cases q:(Ya7 (lo+1) scope.names []).lookup x with
  |some c'=>exact absurd (jaZ _ _ (Yaq q)) hx
  |none=>simp_all
 ·rw[look]at e1 e2;have new:∀x,((Ya7 (lo+1) scope.names []).lookup x).or (cl.lookup x)=some c->(Ya7 (lo+1) scope.names []).lookup x=some c:=λx e=>by
   cases q:(Ya7 (lo+1) scope.names []).lookup x with
   |some c'=>simp_all
   |none=>
    grind
  exact name_of_addr ok.apart (Yaq (new x e1)) (Yaq (new y e2))
theorem jcH           
  (hQ:Q (newEnv scope s.heap.objs.size globals (Ya7 (s.heap.objs.size+1) scope.names cl) qual none .none (some env) Ydy) { s with heap:=YeJ (s.heap.push { cls:=.type "dict",data:=.dict #[] }) scope.names }) :
  wpAny M A (YeY scope globals cl [] qual none .none (some env)) Q E s:=by
 have sz:(s.heap.push { cls:=.type "dict",data:=.dict #[] }).objs.size=s.heap.objs.size+1:=Heap.size_push ..;unfold YeY;rw[if_pos (by rfl)]
 refine Yac (wpAny_alloc (Yac (wpAny_layCells _ (λx k c=>by lia) _ _ _ _ ?_)))
 rw[show Heap.objs (Shared.heap _)=(s.heap.push { cls:=.type "dict",data:=.dict #[] }).objs from rfl,sz];exact Yac (Yal (Yal hQ))


theorem glc   (h:scope.names.lookup x=some .globalImplicit):Gl (jap X N scope cl C s₀ H₀ fp) x:=jaA (by decide) h

def PIfs  (X:Cx)(ifs:List Expr)(t:TT):Prop:=
 ∀(pins:List (Addr×Obj)) (s:Shared) (σ:St) (H:Hp) (Q:Bool->Hp->Prop),Inv X pins σ H s->t σ H Q->
  wpAny (model X.prog X.w) X.A (jf8 X.env ifs) (TP X pins σ Q) X.xe s
def jo2  : TT:=λ_ H Q=>Q true H
theorem jlx   : PIfs X [] jo2:=λ_ _ _ H _ I h=>wpAny_tests_nil ⟨H,I,h⟩
theorem jlw     (h:PT X c t):PIfs X [c] t:=λpins s σ H Q I q=>wpAny_tests_one (h pins s σ H Q I q)

abbrev TEm:=St->List V->Hp->(St->List V->Hp->Prop)->Prop
def jjq  (J:It)(g:TG)(tt:TT)(tem:TEm)(QQ:St->List V->Hp->Prop)(τ0:St)(ys0:List V)(H1:Hp):Prop:=∃W:Nat->Nat->St->List V->Hp->Prop,
 (∃m,W 0 m τ0 ys0 H1)/\∀i m τ ys H,W i m τ ys H->
  (J.stop i H/\QQ τ ys H)\/(J.go i H/\∀x H',J.yld i H x H'->g x τ H' λτ2 H2=>tt τ2 H2 λb H3=>if b=true then tem τ2 ys H3 λτ3 ys' H4=>∃m',m'<m/\W (i+1) m' τ3 ys' H4
   else ∃m',m'<m/\W (i+1) m' τ2 ys H3)
def emA  (te:TE)(D:Addr):TEm:=λτ ys H Q=>te τ H λv H4=>H4 D=some (.lst ys)/\ys.length<Yag/\Q τ (ys++[v]) (upd H4 D (.lst (ys++[v])))
def LcGG  (J:It)(g:TG)(tt:TT)(tem:Addr->TEm)(D:Addr)(τ0:St)(Q:VK)(H1:Hp):Prop:=jjq J g tt (tem D) (λ_ _ H=>Q (.ref D) H) τ0 [] (upd H1 D (.lst []))
def PEm  (Y:Cx)(em:Sem Unit)(tem:TEm):Prop:=∀(pins:List (Addr×Obj)) (s:Shared) (τ:St) (ys:List V) (H:Hp) (Q:St->List V->Hp->Prop),Inv Y pins τ H s->tem τ ys H Q->
 wpAny (model Y.prog Y.w) Y.A em (λ_ s'=>∃τ' ys' H',Inv Y pins τ' H' s'/\Q τ' ys' H') Y.xe s
def tLcG  (pick:List (Option Nat))(wi:TI)(g:TG)(tt:TT)(tem:Addr->TEm):TE:=λσ H Q=>wi σ H λJ H1=>∀D,H1 D=none->LcGG J g tt tem D (pick.map λo=>o.bind λj=>(σ[j]?).join) Q H1
abbrev tLc  (pick:List (Option Nat))(wi:TI)(g:TG)(tt:TT)(te:TE):TE:=tLcG pick wi g tt (emA te)
section
variable {X:Cx}{N:List Str}{pick:List (Option Nat)}{scope:Scope}{pins:List (Addr×Obj)}{σ:St}{s s3:Shared}{H H3:Hp}

theorem jhV  {cl cs:List (Str×Addr)}{fp:List Addr}(S:CScope X N pick scope)(I3:Inv X pins σ H3 s3)(hf:∀b∈fp,FpOk X pins H3 b)(hlt:∀b∈fp,b<s3.heap.objs.size)
  (c1:∀x c,cl.lookup x=some c->X.env.cells.lookup x=some c) (c2:∀y∈scope.names,y.2=.free->∃c,cl.lookup y.1=some c) (B:BCells scope cl cs s3.heap.objs.size h₁)
  (hns:h₁.Ns s3.heap.objs.size mB) (hk:∀b o,s3.heap.get? b=some o->h₁.get? b=some o) :
  Inv (jap X N scope cs s3.heap.objs.size s3 H3 fp) [] (pick.map λo=>o.bind λj=>(σ[j]?).join) H3 { s3 with heap:=h₁,toks:=tk }:=by
 have fsub:∀b∈frs X.stack,b∈X.env.locals::X.fs:=I3.stkSub;have oc:∀x c,cs.lookup x=some c->X.env.cells.lookup x=some c\/s3.heap.objs.size<c:=λx c e=>by
  rcases B.lk x c e with⟨_,z,_⟩|⟨_,z⟩
  ·lia
  simp_all
 have has:∀x,((x,Yav)∈scope.names\/(x,YaI)∈scope.names)->∃c,cs.lookup x=some c:=λx hx=>by
  by_cases hc:(x,YaI)∈scope.names
  ·obtain⟨c,e,_⟩:=B.own x (S.cells _ hc rfl)
   simp_all
  ·rcases hx with hx|hx
   ·obtain⟨c,e⟩:=c2 _ hx rfl;exact⟨c,B.old x c hc e⟩
   lia
 refine⟨⟨I3.ok.mod,S.kind,I3.ok.glob,I3.ok.blt,Yae _,λx y c e1 e2=>?_,λx hx=>has x (jb1 hx),λx c z e=>?_,I3.ok.hd,I3.ok.frames,.inl rfl,λb hb=>⟨YaR (hlt b hb),λx c e=>?_⟩,
   I3.bs,Yaf I3.ok.bsz I3.sz,λb o e hb=>?_,λb hb hm=>?_,I3.stack,I3.stkFree⟩,
  rfl,I3.bare,Un.kept hk,⟨_,hns,λi x v e1 e2 e3=>?_⟩,λx c e=>?_,I3.hok.fresh (Yae _),λx c e=>?_,λp hp=>absurd (show p∈([]:List (Addr×Obj))from hp) (by simp),I3.hok.kept hk,?_⟩
 ·by_cases hc:s3.heap.objs.size<c
  ·exact B.inj x y c e1 e2 hc
  ·exact I3.ok.inj x y c ((oc x c e1).resolve_right hc) ((oc y c e2).resolve_right hc)
 ·have z':scope.names.lookup x=some .cell:=eq_of_beq z;rcases B.lk x c e with⟨_,y,_⟩|⟨y,_⟩
  ·exact YbY y
  ·exact absurd (Yaq z') y
 ·rcases oc x c e with z|z
  ·exact(hf b hb).2.2.2.2.1 x c z
  ·intro q;rw[q]at z;exact absurd (Ye3 z (hlt b hb)) (Ybh _)
 ·rcases(hf b hb).2.2.2.1 with z|z
  ·exact I3.ok.noex b o e z
  ·exact absurd (Yap (Yam e) (Yaf I3.ok.bsz z)) (Ybh _)
 ·rcases YaM.mp (fsub b hm)with z|z
  ·exact(hf b hb).2.1 z
  ·exact(hf b hb).2.2.1 z
 ·-- a captured name
  have e2':∃j,pick[i]?=some (some j)/\σ[j]?=some (some v):=by
   rw[YaN]at e2;cases q:pick[i]? with
   |none=>simp_all
   |some o=>
    rw[q]at e2;cases o with
    |none=>simp at e2
    |some j=>
     grind
  obtain⟨j,ej,ev⟩:=e2';obtain⟨hN,hfr⟩:=S.caps i j x e1 ej;have hmem:(x,Yav)∈scope.names:=Yaq hfr;have hnc:(x,YaI)∉scope.names:=λz=>by
   have:=S.cells _ z rfl
   lia
  obtain⟨_,hkind⟩:=S.fre _ hmem rfl;obtain⟨m,hn,hl⟩:=I3.loc;obtain⟨u,r,l⟩:=hl j x v hN ev (hkind.elim (λz=>.inr (.inl z)) λz=>.inr (.inr z));refine⟨u,r,.inr ⟨?_,?_⟩⟩
  ·exact ja4 (env:=X.env) hfr
  ·obtain⟨c,hc⟩:=c2 _ hmem rfl;have hc':=c1 _ _ hc;rcases l with⟨z,_⟩|⟨_,c',e,o,ho,hd⟩
   ·lia
   ·have:c'=c:=by lia
    subst this;exact⟨c',B.old x c' hnc hc,o,hk _ _ ho,hd⟩
 ·rcases B.lk x c e with⟨_,_,z⟩|⟨_,z⟩
  ·grind
  ·obtain⟨v,o,ho,hd⟩:=I3.cell x c (c1 x c z);exact⟨v,o,hk _ _ ho,hd⟩
 ·rcases oc x c e with z|z
  ·exact I3.freeC x c z
  ·exact I3.hok.fresh (YbY z)
 ·rw[Yaj];exact S.len

theorem jkd     {τ:St}(I3:Inv X pins σ H3 s3)(hf:∀b∈fp,FpOk X pins H3 b)(J:Inv (jap X N scope cl C s3 H3 fp) pins' τ H' s') :
  Inv X pins σ H' s':=I3.call' J.os J.base J.hok J.bare λb hb=>⟨(hf b hb).2.2.2.1,(hf b hb).2.1,(hf b hb).2.2.2.2.1,(hf b hb).2.2.2.2.2⟩

theorem jl2                  {τ0:St} 
  (yc:Y.calm=true) (yxe:Y.xe=λ_ _=>False)
  (hct:YeA (.ListComp elt gens scope pos) dp (.ref it) acc Y.env=jd0 ip tg ifs (.ref it) Y.env em (.compLoop (.ListComp elt gens scope pos) dp (.ref it) acc Y.env))
  (yg:PG Y tg g) (yi:PIfs Y ifs tt) (ym:PEm Y em tem) (J0:Inv Y pins τ0 H s) (T:Turn Y.prog Y.w Y.K tg J fp it tn) (t0:tn 0 s.heap) (f0:∀b∈fp,FpOk Y pins H b) (hW:jjq J g tt tem QQ τ0 ys0 H) :
  codeAny (model Y.prog Y.w) Y.A (.compLoop (.ListComp elt gens scope pos) dp (.ref it) acc Y.env) (λr s'=>r=.ok .next/\∃τ' ys' H',Inv Y pins τ' H' s'/\QQ τ' ys' H') s:=by
 obtain⟨W,⟨m0,w0⟩,turn⟩:=hW;have stat:∀{H':Hp},(∀b∈fp,H' b=none)->∀b∈fp,FpOk Y pins H' b:=λhn b hb=>⟨hn b hb,(f0 b hb).2⟩;refine jfQ (λn s'=>∃i τ ys H',Inv Y pins τ H' s'/\tn i s'.heap/\(∀b∈fp,H' b=none)/\W i n τ ys H') hct ?_ m0 ⟨0,_,ys0,_,J0,t0,λb hb=>(f0 b hb).1,w0⟩;rintro n s4 ⟨i,τ,ys,H4,J4,t4,fr4,w4⟩;rcases turn i n τ ys H4 w4 with⟨stop,q⟩|⟨go,step⟩
 ·refine YaL (T.done Y rfl rfl rfl yc i pins s4 τ H4 (λ_ _=>False) J4 (stat fr4) t4 stop) (λr s5 ⟨hr,J5⟩=>?_) λ_ _ f=>f;subst hr;exact⟨rfl,τ,ys,H4,J5,q⟩
 ·refine YaL (T.item Y rfl rfl rfl yc i pins s4 τ H4 (λ_ _=>False) J4 (stat fr4) t4 go) (λr s5 ⟨u,hr,h5⟩=>?_) λ_ _ f=>f;subst hr;refine YaL h5 (λ_ s6 ⟨x,H6,J6,r6,y6,t6,fr6⟩=>?_) λ_ _ f=>f;have J6':=J6.pinned (stat fr6) (T.obj _ _ t6);have ag:=yg _ s6 τ H6 x u _ J6' r6 (step x H6 y6);rw[yxe]at ag;refine YaL ag (λ_ s7 ⟨τ7,H7,J7,q7⟩=>?_) λ_ _ f=>f;have ai:=yi _ s7 τ7 H7 _ J7 q7;rw[yxe]at ai;refine YaL ai (λok s8 ⟨H8,J8,q8⟩=>?_) λ_ _ f=>f;have again:∀{τ9:St} {H9:Hp} {s9:Shared} {zs:List V},Inv Y (pins++jfs fp s6.heap) τ9 H9 s9->(∃m',m'<n/\W (i+1) m' τ9 zs H9)->∃m,m<n/\∃i τ ys H',Inv Y pins τ H' s9/\tn i s9.heap/\(∀b∈fp,H' b=none)/\W i m τ ys H':=λ{τ9 H9 s9 zs} J9 ⟨m',hm,w9⟩=>by
   refine⟨m',hm,i+1,τ9,zs,H9,J9.unpinned,T.keep _ _ _ t6 λb hb o e=>(J9.pin (b,o) (Yas _ (Yas _ (jck hb e)))).1,λb hb=>?_,w9⟩;obtain⟨o,e,d⟩:=T.obj _ _ t6 b hb;exact(J9.pin (b,o) (Yas _ (Yas _ (jck hb e)))).2.1
  cases ok with
  |false=>exact again J8 q8
  |true=>
   have am:=ym _ s8 τ7 ys H8 _ J8 q8;rw[yxe]at am;exact YaL am (λ_ s9 ⟨τ9,zs,H9,J9,q9⟩=>again J9 q9) λ_ _ f=>f
theorem jkP      (yxe:Y.xe=λ_ _=>False)(he:PE Y elt te):PEm Y (do let _ <- call (.builtin "list.append") [.ref D,<- eval elt Y.env]) (emA te D):=by
 intro pins s τ ys H Q J q;have ae:=he _ s τ H _ J q;refine Yac (YaL ae (λv s9 ⟨z,H9,J9,r9,hD9,hz9,q9⟩=>?_) λ_ _ f=>f);have aa:=jfC (X:=Y) _ s9 τ H9 (.ref D) [z] (.ref D) [v] (λx H'=>H'=upd H9 D (.lst (ys++[z]))) J9 rfl (.cons r9 .nil) ⟨_,ys,z,rfl,rfl,hD9,hz9,rfl⟩;refine Yac (YaL aa (λ_ s10 ⟨_,H10,J10,_,e10⟩=>?_) λ_ _ f=>f);subst e10;exact Yal ⟨τ,_,_,J10,q9⟩
section
variable {tg iter elt:Expr}{ifs:List Expr}
theorem jg4 {rest:List Yd7}{pos:Pos}{g:TG}{tt:TT}{tem:Addr->TEm}{em:Addr->Env->Sem Unit}{J:It}{fp:List Addr}{it:Addr}{tn:Nat->Heap->Prop}{cl:List (Str×Addr)}{Q:VK}{E:Value->Shared->Prop}{RR:Value->Addr->Result->Shared->Prop}
  (hc:X.calm=true) (S:CScope X N pick scope) (c1:∀x c,cl.lookup x=some c->X.env.cells.lookup x=some c) (c2:∀y∈scope.names,y.2=.free->∃c,cl.lookup y.1=some c)
  (hg:∀cl C s₀ H₀ fp,PG (jap X N scope cl C s₀ H₀ fp) tg g) (hi:∀cl C s₀ H₀ fp,PIfs (jap X N scope cl C s₀ H₀ fp) ifs tt) (he:∀D cl C s₀ H₀ fp,PEm (jap X N scope cl C s₀ H₀ fp) (em D (jap X N scope cl C s₀ H₀ fp).env) (tem D))
  (hct:∀(it:Value) (D:Addr) (env:Env),YeA (.ListComp elt (⟨tg,iter,ifs,0⟩::rest) scope pos) 0 it (.ref D) env=jd0 iter.pos tg ifs it env (em D env) (.compLoop (.ListComp elt (⟨tg,iter,ifs,0⟩::rest) scope pos) 0 it (.ref D) env))
  (I2:Inv X pins σ H s) (T:Turn X.prog X.w X.K tg J fp it tn) (st:tn 0 s.heap) (hf:∀b∈fp,FpOk X pins H b)
  (hW:∀D,H D=none->LcGG J g tt tem D (pick.map λo=>o.bind λj=>(σ[j]?).join) Q H)
  (hRR:∀D C H' s',Inv X pins σ H' s'->(∃m,s'.heap.Ns C m)->FpOk X pins H' C->Q (.ref D) H'->RR (.ref D) C (.ok .next) s') :
  wpAny (model X.prog X.w) X.A (newList []) (λacc s₃=>wpAny (model X.prog X.w) X.A (YeY scope X.env.globals cl [] X.env.qual none .none (some X.env)) (λcenv s₄=>
   codeAny (model X.prog X.w) X.A (.compStart (.ListComp elt (⟨tg,iter,ifs,0⟩::rest) scope pos) 0 (.ref it) acc { cenv with scope:=relabel scope X.env }) (RR acc cenv.locals) s₄) E s₃) E s:=by
 have hD:H s.heap.objs.size=none:=I2.hok.fresh (Yae _);have hlt:∀b∈fp,b<s.heap.objs.size:=λb hb=>let ⟨o,e,_⟩:=T.obj _ _ st b hb;Yam e
 refine YaY (jcH ?_);have I3:Inv X pins σ (upd H s.heap.objs.size (.lst [])) { s with heap:=s.heap.push { cls:=.type "list",dict:=none,data:=.seq ([]:List Value).toArray } }:=
  I2.laid (t':=s.toks) (λb u e=>Yad _ e) (Yae _) ⟨YaK _,[],0,.nil,YaA _ rfl⟩
 generalize hs3:({ s with heap:=s.heap.push { cls:=.type "list",dict:=none,data:=.seq ([]:List Value).toArray } }:Shared)=s3 at I3 ⊢
 have hsz:s3.heap.objs.size=s.heap.objs.size+1:=by rw[<- hs3];simp_all
 have hf3:∀b∈fp,FpOk X pins (upd H s.heap.objs.size (.lst [])) b:=λb hb=>⟨by rw[jae (YaR (hlt b hb))];exact(hf b hb).1,(hf b hb).2⟩
 have hsz':(s3.heap.push { cls:=.type "dict",data:=.dict #[] }).objs.size=s3.heap.objs.size+1:=Heap.size_push ..;have hk:∀b o,s3.heap.get? b=some o->(YeJ (s3.heap.push { cls:=.type "dict",data:=.dict #[] }) scope.names).get? b=some o:=λb o e=>pushCells_keeps _ _ b o (Yad _ e);have hns₁:(YeJ (s3.heap.push { cls:=.type "dict",data:=.dict #[] }) scope.names).Ns s3.heap.objs.size λ_=>none:=(Heap.Ns.new s3.heap (.type "dict")).keeps (pushCells_keeps _ _);have B:=jjo (cl:=cl) hsz' S.cells λx c e=>by
  obtain⟨v,z⟩:=I3.cell x c (c1 x c e);exact YbY z.lt
 generalize YeJ (s3.heap.push { cls:=.type "dict",data:=.dict #[] }) scope.names=h₁ at hk hns₁ B ⊢;generalize Ya7 (s3.heap.objs.size+1) scope.names cl=cs at B ⊢;have c1':∀x c,cs.lookup x=some c->X.env.cells.lookup x=some c\/s3.heap.objs.size<c:=λx c e=>by
  rcases B.lk x c e with⟨_,z,_⟩|⟨_,z⟩
  ·lia
  simp_all
 have st1:tn 0 h₁:=T.keep _ _ _ st λb _ o e=>hk b o (by rw[<- hs3];exact Yad _ e)
 have IY:Inv (jap X N scope cs s3.heap.objs.size s3 (upd H s.heap.objs.size (.lst [])) fp) [] (pick.map λo=>o.bind λj=>(σ[j]?).join) (upd H s.heap.objs.size (.lst [])) { s3 with heap:=h₁ }:=
  jhV (tk:=s3.toks) S I3 hf3 (λb hb=>Yap (hlt b hb) (by lia)) c1 c2 B hns₁ hk
 generalize hY:jap X N scope cs s3.heap.objs.size s3 (upd H s.heap.objs.size (.lst [])) fp=Y at IY;have yg:PG Y tg g:=hY ▸ hg _ _ _ _ _;have yi:PIfs Y ifs tt:=hY ▸ hi _ _ _ _ _;have ye:PEm Y (em s.heap.objs.size Y.env) (tem s.heap.objs.size):=hY ▸ he _ _ _ _ _ _;have yprog:Y.prog=X.prog:=by rw[<- hY];rfl
 have yw:Y.w=X.w:=by rw[<- hY];rfl
 have yK:Y.K=X.K:=by rw[<- hY];rfl
 have yA:Y.A=X.A:=by rw[<- hY];rfl
 have yc:Y.calm=true:=by rw[<- hY];exact hc
 have yenv:Y.env=compEnvC scope cs s3.heap.objs.size X.env:=by rw[<- hY];rfl
 have yex:∀b,b∈Y.ex↔b∈fp:=λb=>by rw[<- hY];rfl
 have yxe:Y.xe=λ_ _=>False:=by rw[<- hY];rfl
 have ypn:Y.pn=[]:=by rw[<- hY];rfl
 have yfs:∀b,b∈Y.fs->b∈X.env.locals::X.fs:=λb hb=>I3.stkSub b (by rw[<- hY]at hb;exact hb)
 have stat:∀{H':Hp},(∀b∈fp,H' b=none)->∀b∈fp,FpOk Y [] H' b:=λhn b hb=>by
  refine⟨hn b hb,?_,λhm=>?_,.inl ((yex b).mpr hb),λx c e=>?_,λp hp=>?_⟩
  ·rw[yenv];show b≠s3.heap.objs.size
   grind
  ·rcases YaM.mp (yfs b hm)with z|z
   ·exact(hf b hb).2.1 z
   ·exact(hf b hb).2.2.1 z
  ·rw[yenv]at e;rcases c1' x c e with z|z
   ·exact(hf b hb).2.2.2.2.1 x c z
   grind
  simp_all
 have fin:∀{τ:St} {H':Hp} {s':Shared},Inv Y [] τ H' s'->Q (.ref s.heap.objs.size) H'->RR (.ref s.heap.objs.size) s3.heap.objs.size (.ok .next) s':=λ{τ H' s'} J q=>by
  have fr:H' s3.heap.objs.size=none:=by have:=J.free;rw[yenv]at this;exact this
  obtain⟨m,hn,_⟩:=J.loc;rw[yenv]at hn;exact hRR _ _ H' s' (jkd I3 hf3 (hY ▸ J)) ⟨m,hn⟩ (I3.fpOk (Yae _) fr) q
 have hn:∀b∈fp,upd H s.heap.objs.size (.lst []) b=none:=λb hb=>(hf3 b hb).1;have lp:=jl2 (pins:=[]) (s:={ s3 with heap:=h₁ }) (acc:=.ref s.heap.objs.size) (ifs:=ifs) (em:=em s.heap.objs.size Y.env) yc yxe (hct (.ref it) s.heap.objs.size Y.env) yg yi ye IY (by lia) st1 (stat hn) (hW _ hD)
 rw[yprog,yw,yA,yenv]at lp;have lp:=YcZ lp (R':=RR (.ref s.heap.objs.size) s3.heap.objs.size) λr s' ⟨hr,τ',ys',H',I',q'⟩=>by grind
 show codeAny (model X.prog X.w) X.A (.compStart (.ListComp elt (⟨tg,iter,ifs,0⟩::rest) scope pos) 0 (.ref it) (.ref s.heap.objs.size) (compEnvC scope cs s3.heap.objs.size X.env)) (RR (.ref s.heap.objs.size) s3.heap.objs.size) _;exact codeAny_compStart_list lp (T.self _ 0 _ _ _ st1 lp)

theorem jnm {pos:Pos}{wi:TI}{g:TG}{tt:TT}{rest:List Yd7}{tem:Addr->TEm}{em:Addr->Env->Sem Unit}(hc:X.calm=true)(S:CScope X N pick scope)(hw:PI X tg iter wi)
  (hg:∀cl C s₀ H₀ fp,PG (jap X N scope cl C s₀ H₀ fp) tg g) (hi:∀cl C s₀ H₀ fp,PIfs (jap X N scope cl C s₀ H₀ fp) ifs tt) (he:∀D cl C s₀ H₀ fp,PEm (jap X N scope cl C s₀ H₀ fp) (em D (jap X N scope cl C s₀ H₀ fp).env) (tem D))
  (hct:∀(it:Value) (D:Addr) (env:Env),YeA (.ListComp elt (⟨tg,iter,ifs,0⟩::rest) scope pos) 0 it (.ref D) env=jd0 iter.pos tg ifs it env (em D env) (.compLoop (.ListComp elt (⟨tg,iter,ifs,0⟩::rest) scope pos) 0 it (.ref D) env))
  (hs:∀x,YaZ iter X.env x=pure x:=by intro _;rfl):PE X (.ListComp elt (⟨tg,iter,ifs,0⟩::rest) scope pos) (tLcG pick wi g tt tem):=by
 intro pins s σ H Q I h;obtain⟨cl,hclos,c1,c2⟩:=jeN (scope:=scope) (env:=X.env) λy hy hf=>I.ok.has _ (S.fre y hy hf).2;rw[eval_ListComp];refine Ye8 (use:=none) rfl hs hclos S.kind S.names (thn (hw pins s σ H _ I h) λv s1 h1=>thn h1 λitv s2 h2=>?_);obtain⟨it,fp,tn,J,H2,e,I2,T,st2,f2,hW⟩:=h2;subst e;refine jg4 (RR:=λacc C=>compPost (model X.prog X.w) X.A X.xe none (EP X pins σ Q) acc C) hc S c1 c2 hg hi he hct I2 T st2 f2 hW λD C H' s' J' ⟨m,hn⟩ fC q=>?_;refine⟨m,hn,λh' hs'=>⟨.ref D,H',?_,rfl,q⟩⟩;exact J'.turned (t':=s'.toks) (it:=C) (λb o hb e=>hs'.extBut b o hb e) fC.1 fC.2.1 fC.2.2.2.1 fC.2.2.2.2.1 fC.2.2.2.2.2

theorem jnb {pos py spos:Pos}{wi:TI}{g:TG}{tt:TT}{rest:List Yd7}{tem:Addr->TEm}{em:Addr->Env->Sem Unit}{i:Nat}{y:Str}(hN:X.N.Nodup)(hi':X.N[i]?=some y)(hy:X.env.scope.names.lookup y=some .local)(hc:X.calm=true)(S:CScope X N pick scope)(hw:PI X tg iter wi)
  (hg:∀cl C s₀ H₀ fp,PG (jap X N scope cl C s₀ H₀ fp) tg g) (hi:∀cl C s₀ H₀ fp,PIfs (jap X N scope cl C s₀ H₀ fp) ifs tt) (he:∀D cl C s₀ H₀ fp,PEm (jap X N scope cl C s₀ H₀ fp) (em D (jap X N scope cl C s₀ H₀ fp).env) (tem D))
  (hct:∀(it:Value) (D:Addr) (env:Env),YeA (.ListComp elt (⟨tg,iter,ifs,0⟩::rest) scope pos) 0 it (.ref D) env=jd0 iter.pos tg ifs it env (em D env) (.compLoop (.ListComp elt (⟨tg,iter,ifs,0⟩::rest) scope pos) 0 it (.ref D) env))
  (hsw:Ycd (.ListComp elt (⟨tg,iter,ifs,0⟩::rest) scope pos) (some (.Name y py)) spos.line X.env=pure true) (hs:∀x,YaZ iter X.env x=pure x:=by intro _;rfl) :
  PS X (.Assign [.Name y py] (.ListComp elt (⟨tg,iter,ifs,0⟩::rest) scope pos) spos) (tAsg (tLcG pick wi g tt tem) (ji2 i)):=by
 intro pins s σ H D0 I h;obtain⟨cl,hclos,c1,c2⟩:=jeN (scope:=scope) (env:=X.env) λy hy hf=>I.ok.has _ (S.fre y hy hf).2;rw[exec_Assign_Name_used _ _ _ _ hsw];refine Yac (Yb7 (Yac ?_));show wpAny _ _ (do let _ <- comprehension (.ListComp elt (⟨tg,iter,ifs,0⟩::rest) scope pos) scope X.env _ (newList []) false (eval iter X.env) (some (assign (.Name y py) X.env))) _ _ s
 refine Yac (thn (Ye8 (use:=some (assign (.Name y py) X.env)) (Q:=λ_ s'=>SP X pins D0 .next s') rfl hs hclos S.kind S.names
  (thn (hw pins s σ H _ I h) λv s1 h1=>thn h1 λitv s2 h2=>?_)) λ_ s' hq=>Yal (Yal hq))
 obtain⟨it,fp,tn,J,H2,e,I2,T,st2,f2,hW⟩:=h2;subst e;refine jg4 (Q:=λx H1=>ji2 i x σ H1 D0.nx) (RR:=λacc C=>compPost (model X.prog X.w) X.A X.xe (some (assign (.Name y py) X.env)) (λ_ s'=>SP X pins D0 .next s') acc C) hc S c1 c2 hg hi he hct I2 T st2 f2 hW λD C H' s' J' ⟨m,hn⟩ fC q=>?_
 show wpAny _ _ (assign (.Name y py) X.env (.ref D)) _ _ _;refine wpAny_assign_Name (jfn (v:=.ref D) J' hN hi' (.inl hy) rfl (λs'' J'' ⟨a,sb,ha⟩=>?_) (.inr hy));have hne:C≠a:=by
  rcases ha with z|z
  ·rw[z];exact fC.2.1
  ·exact λe=>fC.2.2.2.2.1 y a z e.symm
 refine⟨m,hn.sameBut sb hne,λh' hs'=>?_⟩;refine⟨_,H',J''.turned (t':=s''.toks) (it:=C) (λb o hb e=>hs'.extBut b o hb e) fC.1 fC.2.1 fC.2.2.2.1 fC.2.2.2.2.1 fC.2.2.2.2.2,q⟩
theorem jpn {pos:Pos}{wi:TI}{g:TG}{tt:TT}{te:TE}(hc:X.calm=true)(S:CScope X N pick scope)(hw:PI X tg iter wi)
  (hg:∀cl C s₀ H₀ fp,PG (jap X N scope cl C s₀ H₀ fp) tg g) (hi:∀cl C s₀ H₀ fp,PIfs (jap X N scope cl C s₀ H₀ fp) ifs tt) (he:∀cl C s₀ H₀ fp,PE (jap X N scope cl C s₀ H₀ fp) elt te)
  (hs:∀x,YaZ iter X.env x=pure x:=by intro _;rfl):PE X (.ListComp elt [⟨tg,iter,ifs,0⟩] scope pos) (tLc pick wi g tt te):=
 jnm (em:=λD env=>do let _ <- call (.builtin "list.append") [.ref D,<- eval elt env]) (rest:=[]) hc S hw hg hi (λD cl C s₀ H₀ fp=>jkP rfl (he cl C s₀ H₀ fp)) (λ_ _ _=>rfl) hs
theorem jpj {pos:Pos}{wi:TI}{g:TG}{tt:TT}{te:TE}{py spos:Pos}{i:Nat}{y:Str}(hN:X.N.Nodup)(hi':X.N[i]?=some y)(hy:X.env.scope.names.lookup y=some .local)(hc:X.calm=true)(S:CScope X N pick scope)(hw:PI X tg iter wi)
  (hg:∀cl C s₀ H₀ fp,PG (jap X N scope cl C s₀ H₀ fp) tg g) (hi:∀cl C s₀ H₀ fp,PIfs (jap X N scope cl C s₀ H₀ fp) ifs tt) (he:∀cl C s₀ H₀ fp,PE (jap X N scope cl C s₀ H₀ fp) elt te)
  (hsw:Ycd (.ListComp elt [⟨tg,iter,ifs,0⟩] scope pos) (some (.Name y py)) spos.line X.env=pure true) (hs:∀x,YaZ iter X.env x=pure x:=by intro _;rfl):PS X (.Assign [.Name y py] (.ListComp elt [⟨tg,iter,ifs,0⟩] scope pos) spos) (tAsg (tLc pick wi g tt te) (ji2 i)):=
 jnb (em:=λD env=>do let _ <- call (.builtin "list.append") [.ref D,<- eval elt env]) (rest:=[]) hN hi' hy hc S hw hg hi (λD cl C s₀ H₀ fp=>jkP rfl (he cl C s₀ H₀ fp)) (λ_ _ _=>rfl) hsw hs
end
end

mutual
inductive DV (K:Yab)(H:Hp):V->PyData->Prop
 |non:DV K H .non .none
 |bl (b:Bool):DV K H (.bl b) (.bool b)
 |int (i:Int):DV K H (.int i) (.int i)
 |str (x:Str):DV K H (.str x) (.str x)
 |tup {a:Addr} {xs:List V} {ds:List PyData}:SqT K H a xs->DVs K H xs ds->DV K H (.ref a) (.tuple ds)
 |lst {a:Addr} {xs:List V} {ds:List PyData}:Rd H a (.lst xs)->DVs K H xs ds->DV K H (.ref a) (.list ds)
 |dic {a:Addr}:H a=some (.dK [])->DV K H (.ref a) (.dict [])
inductive DVs (K:Yab)(H:Hp):List V->List PyData->Prop
 |nil:DVs K H [] []
 |cons {x:V} {d:PyData} {xs:List V} {ds:List PyData}:DV K H x d->DVs K H xs ds->DVs K H (x::xs) (d::ds)
end

mutual
noncomputable def noL:PyData->Bool
 |.list _=>false
 |.tuple xs=>noLs xs
 |.dict _=>false
 |.none|.bool _|.int _|.str _=>true
noncomputable def noLs:List PyData->Bool
 |[]=>true
 |x::r=>noL x&&noLs r
end


theorem Inv.noSys    {σ:St}(I:Inv X pins σ H s)(h:s.heap.get? a=some o)(c:o.cls=.type "list"):Ya3≠a:=λe=>by
 obtain⟨o',l,c'⟩:=I.mod.sys;have:=I.kIn _ _ l
 lia
mutual
theorem DV.reads2 {X:Cx}{pins:List (Addr×Obj)}{σ:St}{H:Hp}{s:Shared}(I:Inv X pins σ H s):∀{x:V} {d:PyData} {u:Value},DV X.K H x d->RelV x u->∃as,Reads s.heap u d as/\Ya3∉as
 |_,_,_,.non,r=>by cases r;exact⟨_,.none,by simp⟩
 |_,_,_,.bl b,r=>by cases r;exact⟨_,.bool b,by simp⟩
 |_,_,_,.int i,r=>by obtain⟨t,rfl⟩:=r;exact⟨_,.int i t,by simp⟩
 |_,_,_,.str x,r=>by obtain⟨t,rfl⟩:=r;exact⟨_,.str x t,by simp⟩
 |_,_,_,.tup e h,r=>by
  cases r
  obtain⟨its,rv,⟨o,ho,hc,n,hd⟩,_⟩:=I.tuple e
  obtain⟨as,q,z⟩:=DVs.reads2 I h rv
  exact⟨_,.tuple ho hc hd q,z⟩
 |_,_,_,@DV.lst _ _ a _ _ e h,r=>by
  cases r
  obtain⟨its,rv,⟨o,n,ho,hc,_,hd⟩,_⟩:=I.list (.inl e)
  obtain⟨as,q,z⟩:=DVs.reads2 I h rv
  refine⟨_,.list ho hc hd q,λhm=>?_⟩
  rcases YaM.mp hm with hm|hm
  ·exact I.noSys ho hc hm
  lia
 |_,_,_,@DV.dic _ _ a e,r=>by
  cases r
  obtain⟨_,hS,vs,kv,o,es,ep,ho,hx,hd,_,hp,_⟩:([]:List (Key×V)).length<=Yag/\(a==Ya3)=false/\∃vs,KV [] vs/\s.heap.DictOf (jar X.prog X.w) a vs:=I.hok a _ e
  have e0:es.toList=[]:=by
   cases kv
   revert hp
   cases es.toList with
   |nil=>lia
   |cons x r=>exact λhp=>(nomatch hp)
  refine⟨_,.dict (kvs:=[]) (as:=[]) (bs:=[]) ho hx.1 hd (by rw[e0];exact .nil) (by rw[e0];exact .nil),λhm=>?_⟩
  simp_all
theorem DVs.reads2 {X:Cx}{pins:List (Addr×Obj)}{σ:St}{H:Hp}{s:Shared}(I:Inv X pins σ H s):∀{xs:List V} {ds:List PyData} {us:List Value},DVs X.K H xs ds->Vals xs us->∃as,ReadsAll s.heap us ds as/\Ya3∉as
 |_,_,_,.nil,r=>by cases r;exact⟨_,.nil,by simp⟩
 |_,_,_,.cons a b,r=>by
  cases r with
  |cons r rr=>
   obtain⟨as,q,z⟩:=DV.reads2 I a r
   obtain⟨bs,q',z'⟩:=DVs.reads2 I b rr
   exact⟨_,.cons q q',by simp_all⟩
end
theorem DV.reads {X:Cx}{pins:List (Addr×Obj)}{σ:St}{H:Hp}{s:Shared}(I:Inv X pins σ H s){x:V}{d:PyData}{u:Value}(h:DV X.K H x d)(r:RelV x u):∃as,Reads s.heap u d as:=let ⟨as,q,_⟩:=DV.reads2 I h r;⟨as,q⟩
theorem DVs.reads    {σ:St}(I:Inv X pins σ H s)(h:DVs X.K H xs ds)(r:Vals xs us):∃as,ReadsAll s.heap us ds as:=let ⟨as,q,_⟩:=DVs.reads2 I h r;⟨as,q⟩

structure Fits (n k:Nat)(d:PyData):Prop where
 sh:d.showable=true
 ln:d.shown.length<=n
 dp:d.depth<=k
theorem Fits.mono    (h:Fits n k d)(h1:n<=n')(h2:k<=k'):Fits n' k' d:=⟨h.sh,Yaf h.ln h1,Yaf h.dp h2⟩
theorem Fits.non  : Fits 4 0 .none:=⟨rfl,by decide +kernel,Yae _⟩
theorem Fits.bl   b:Fits 5 0 (.bool b):=⟨rfl,by cases b<;>decide +kernel,Yae _⟩
theorem Fits.dic  : Fits 2 1 (.dict []):=⟨rfl,by decide +kernel,by decide +kernel⟩
theorem Fits.str    (h:x.length<=m)(hc:∀c∈x.cps.toList,c<16 ^ 8):Fits (10*m+2) 0 (.str x):=by
 refine⟨rfl,?_,Yae _⟩;simp only[Yb9];exact Yaf (StrLaws.reprText_len x hc) (by lia)
theorem jl7   ts:(Str.join ", " ts).length<=piled ts:=by
 rcases Classical.em (ts=[])with rfl|hz
 ·exact YaK _
 ·exact Nat.le_of_add_right_le (YdS (join_length_add ts hz))
theorem jdU  : ∀ts k (acc:Str),(textFrom k acc ts).length<=acc.length+piled ts
 |[],_,_=>Yae _
 |t::r,k,acc=>by
  have two:(((if k>0 then ", " else "" : String):Str)).length<=2:=by split<;>decide
  have ih:=jdU r (k+1) (acc++(if k>0 then ", " else "" : String)++t)
  simp only[Yfk]at ih;rw[piled_cons];exact Yaf ih (by lia)
def jpe  (K:Yab):List V->Hp->VK->Prop:=λxs H Q=>∃x d,xs=[x]/\DV K H x d/\Fits 16000000 60 d/\Q (.str d.shown) H
theorem jhW    (hr:Room k X.A):ja8 X (.builtin "repr") (jpe X.K):=by
 intro pins s σ H xs us Q I r h;obtain⟨x,d,rfl,dv,ft,q⟩:=h;obtain⟨u,rfl,ru⟩:=jeQ r;have hu:=hr.un;have done:∀(h':Heap) (u':Tok) (tk:Nat),(∀b o,s.heap.get? b=some o->h'.get? b=some o)->EP X pins σ Q (.str d.shown u') { s with heap:=h',toks:=tk }:=λh' u' tk hk=>
  ⟨.str d.shown,H,I.kept (t':=tk) hk,⟨u',rfl⟩,q⟩
 have hz:d.shown.length<=Yag:=Yaf ft.ln (by decide)
 cases dv with
 |non=>cases ru;exact P.repr_of_none (done _ _ _ λ_ _ e=>e)
 |bl b=>cases ru;exact P.repr_of_bool (by have:=done s.heap s.toks (s.toks+1) λ_ _ e=>e;simp only[Yb9]at this;lia)
 |int i=>
  obtain⟨t,rfl⟩:=ru;refine P.repr_of_int (by simpa[Yc2]using ft.sh) ?_
  have:=done s.heap s.toks (s.toks+1) λ_ _ e=>e;simp only[Yb9]at this
  lia
 |str x=>
  obtain⟨t,rfl⟩:=ru;simp only[Yb9]at hz;refine P.repr_of_str ?_ hz;have:=done s.heap s.toks (s.toks+1) λ_ _ e=>e;simp only[Yb9]at this
  lia
 |@tup a xs ds e hd=>
  obtain⟨as,rd,hsy⟩:=DV.reads2 I (DV.tup e hd) ru;cases ru;exact YeX rd ft.sh (λ_=>hsy) hr.gd (by have:=ft.dp;lia) (λ_ _ e=>e) (λh' u' tk hk=>done h' u' tk hk) hz
 |@lst a xs ds e hd=>
  obtain⟨as,rd,hsy⟩:=DV.reads2 I (DV.lst e hd) ru;cases ru;exact YeX rd ft.sh (λ_=>hsy) hr.gd (by have:=ft.dp;lia) (λ_ _ e=>e) (λh' u' tk hk=>done h' u' tk hk) hz
 |@dic a e=>
  obtain⟨as,rd,hsy⟩:=DV.reads2 I (DV.dic e) ru;cases ru;exact YeX rd ft.sh (λ_=>hsy) hr.gd (by have:=ft.dp;lia) (λ_ _ e=>e) (λh' u' tk hk=>done h' u' tk hk) hz

def Sm  (f:Addr)(H H':Hp):Prop:=∀b o,b≠f->H b=some o->H' b=some o




theorem jcI  : ∀{ns } {us },Vals (ns.map V.int) us->∃ys:List (Int×Tok),us=(ys.map λp=>Yd2 p.1 p.2)/\ys.map (·.1)=ns
 |[],us,r=>by cases r;simp_all
 |n::ns,us,r=>by
  cases r with
  |cons h r=>
   obtain⟨t,rfl⟩:=h;obtain⟨ys,rfl,e⟩:=jcI r;exact⟨(n,t)::ys,rfl,by simp[e]⟩

theorem jkf  (hc:X.calm=true):ja8 X (.builtin "sum") (λxs H Q=>∃(p:Addr) (ns:List Int),xs=[.ref p]/\SqL X.K H p (ns.map V.int)/\Q (.int ns.sum) H):=by
 intro pins s σ H xs us Q I r h;obtain⟨p,ns,rfl,hq,q⟩:=h;obtain⟨u,rfl,rx⟩:=jeQ r;cases rx;obtain⟨its,r',pl,hz⟩:=I.list hq;obtain⟨ys,rfl,e⟩:=jcI r';have hl:s.heap.IsList p (intItems ys.toArray):=by
  have:=pl.isList;simpa[intItems]using this
 refine sum_intListG (I.ok.hd hc) hl λh' tk t' k=>⟨.int ns.sum,H,I.kept k,⟨t',?_⟩,q⟩;rw[preSum_eq,YeM (by simp),<- e]

theorem fm_rev  (xs:List Value):∀n,n<=xs.length->(Ya9 n).filterMap (λk=>xs[xs.length-1-k]?)=(xs.drop (xs.length-n)).reverse
 |0,_=>by simp
 |n+1,h=>by
  rw[Yd9,List.filterMap_append,fm_rev xs n (by lia)]
  have hk:xs.length-1-n<xs.length:=by lia
  have:xs.drop (xs.length-(n+1))=xs[xs.length-1-n]::xs.drop (xs.length-n):=by
   rw[show xs.length-(n+1)=xs.length-1-n by lia,YcL hk,show xs.length-1-n+1=xs.length-n by lia]
  simp_all
theorem jjD  (xs:List Value):YdW xs.toArray none none (some (-1))=xs.reverse.toArray:=by
 have e:sliceRange ((xs.length:Int)-1) (-1) (-1)=(Ya9 xs.length).map λk=>xs.length-1-k:=by
  unfold sliceRange;have hc:(if (-1:Int)>0 then (if (xs.length:Int)-1 < -1 then (-1-((xs.length:Int)-1) + -1-1) / -1 else 0) else (if (xs.length:Int)-1 > -1 then ((xs.length:Int)-1 - -1 - -1-1)/(- -1) else 0)).toNat=xs.length:=by
   rw[if_neg (by lia),show(- -1:Int)=1 from rfl,Ye7]
   split<;>lia
  simp only[hc];refine Ydo λk hk=>?_;have:=List.mem_range.mp hk
  lia
 have b:Yci none none (some (-1)) xs.toArray.size=((xs.length:Int)-1,-1,-1):=by
  simp[Yci]
 unfold YdW;rw[b];simp only;rw[e,Yfx];have:=fm_rev xs xs.length (Yae _);rw[Nat.sub_self,Yeq]at this;rw[<- this];congr 1;refine congrArg (λf=>List.filterMap f (Ya9 xs.length)) (funext λk=>?_);simp
theorem jkl  (xs:List Value):YdW xs.toArray none none (some 1)=xs.toArray:=by
 have:=slicePick_all xs.toArray;unfold YdW at this ⊢;exact this
theorem Vals.rev    (r:Vals xs us):Vals xs.reverse us.reverse:=by
 induction r with
 |nil=>exact .nil
 |cons h r ih=>rw[YcU,YcU];exact ih.append (.cons h .nil)

end L2
namespace HT
open PySem PySem.Spec PyProof.Rows

theorem getItem_tuple_all     {lo hi:Option Int}(ht:IsTup s.heap t items)(hs:s.heap.IsSliceOf sl vl vu .none)(pl:IsPart vl lo)(pu:IsPart vu hi)
  (hw:sIx items.size 0 lo=0/\sIx items.size items.size hi=items.size) (h:Q (.ref t) s):wpAny (model prog w) A (getItem (.ref t) (.ref sl)) Q E s:=by
 obtain⟨os,hos,hcs,hds⟩:=id hs;have hTs:s.TypeIs (.ref sl) "slice" := ⟨os,hos,hcs⟩;unfold getItem
 try with_reducible refine Yb8 ?_
 first|refine Yac (Yal ?_)|skip
 refine Yac (Yed ht.typeIs (by decide) ?_)
 refine Yac (Yda (name:=Ycc "__getitem__") ht.typeIs YaS
  (Yet YaS ht.typeIs YdH ?_ (Yd1 _ _)))
 show wpAny _ _ (Ycq (.ref t) >>= _) _ _ s;refine Yac (Yfj ht ?_);refine Yac (Ydr hTs ?_);rw[if_pos (by decide)]
 refine Yac (jbG hs pl pu ?_);have hyes:((((sIx items.size 0 lo:Nat):Int)==0&&(1:Int)==1&&(sIx items.size items.size hi-sIx items.size 0 lo)==items.size)=true):=by
  simp_all
 show wpAny _ _ (if (((sIx items.size 0 lo:Nat):Int)==0&&(1:Int)==1&&(sIx items.size items.size hi-sIx items.size 0 lo)==items.size)=true then _ else _) _ _ s
 rw[if_pos hyes];refine Yac (m:=Ydq (.ref t)) ?_;unfold Ydq;refine Yac (Ydr ht.typeIs (Yal ?_));rw[if_pos (by decide)]
 exact Yac (wpAny_rule (Yal ⟨_,rfl,Yal h⟩))
end HT
namespace L2
open PySem PySem.Spec PyProof.Rows

def rSlW  (K:Yab):V->Option Int->Option Int->Hp->VK->Prop:=λx lo hi H Q=>∃a xs,x=.ref a/\SqT K H a xs/\
 (HT.sIx xs.length 0 lo=0/\HT.sIx xs.length xs.length hi=xs.length)/\Q (.ref a) H
theorem jlf  : SlR X (rSlW X.K):=by
 intro pins s σ H x v vl vu lo hi sl Q I rx hs pl pu h;obtain⟨a,xs,rfl,hx,hw,q⟩:=h;cases rx;obtain⟨its,r,ht,hz⟩:=I.tuple hx;have hlen:its.toArray.size=xs.length:=by rw[Yak];exact r.length.symm
 refine⟨"tuple",_,YaS.lookup,ht.typeIs,?_⟩;exact HT.getItem_tuple_all ht hs pl pu (by lia) ⟨.ref a,H,I,rfl,q⟩
theorem jlg  : SlR X (λx lo hi H Q=>rSlT X.K x lo hi H Q\/rSlW X.K x lo hi H Q):=SlR.or jmU jlf

end L2
namespace HT
open PySem PySem.Spec PyProof.Rows

theorem jdK    {n:Nat}(hs:s.heap.IsSliceOf sl .none .none (.int (-1) t))(h:Q ((n:Int)-1,-1,n) s):wpAny (model prog w) A (YbM (.ref sl) (pure (n:Int))) Q E s:=by
 obtain⟨os,hos,hcs,hds⟩:=id hs;unfold YbM Ydw;refine Yac (Yac (YbR hos hds (x:=.none) rfl (Yac (YbR hos hds (x:=.none) rfl (Yac (YbR hos hds (x:=.int (-1) t) rfl (Yal ?_)))))));refine Yac (jbb (.int (-1) t) ?_);show wpAny _ _ (if ((-1:Int)==0)=true then _ else _) _ _ s
 rw[if_neg (by decide)]
 refine Yac (jbb .none (Yac (jbb .none (Yac (Yal ?_)))));have e1:Ybi none none (-1) (n:Int)=((n:Int)-1,-1):=rfl;have e2:YaO ((n:Int)-1) (-1) (-1)=n:=by
  unfold YaO;rw[if_neg (by lia),show(- -1:Int)=1 from rfl,Ye7]
  split<;>lia
 show wpAny _ _ (match Ybi none none (-1) (n:Int)with|(lo,hi)=>pure (lo,(-1:Int),YaO lo hi (-1))) _ _ s
 rw[e1];show wpAny _ _ (pure ((n:Int)-1,(-1:Int),YaO ((n:Int)-1) (-1) (-1))) _ _ s;rw[e2];exact Yal h
theorem jjM  (xs:List Value):((Ya9 xs.length).filterMap λ(k:Nat)=>xs.toArray[((xs.length:Int)-1+(k:Int)*(-1)).toNat]?).toArray=xs.reverse.toArray:=by
 have:=L2.fm_rev xs xs.length (Yae _);rw[Nat.sub_self,Yeq]at this;rw[<- this];congr 1;refine congrArg (λf=>List.filterMap f (Ya9 xs.length)) (funext λk=>?_);rw[show((xs.length:Int)-1+(k:Int)*(-1)).toNat=xs.length-1-k by lia]
 simp
theorem getItem_tuple_rev   {its:List Value}(ht:IsTup s.heap t its.toArray)(hs:s.heap.IsSliceOf sl .none .none (.int (-1) tk))
  (h:Q (.ref s.heap.objs.size) { s with heap:=s.heap.push { cls:=.type "tuple",data:=.seq its.reverse.toArray } }) (hsz:its.length<=Yag):wpAny (model prog w) A (getItem (.ref t) (.ref sl)) Q E s:=by
 have htake:sizeOk (.seq its.reverse.toArray):=by
  show its.reverse.toArray.size<=Yag
  simp_all
 obtain⟨os,hos,hcs,hds⟩:=id hs;have hTs:s.TypeIs (.ref sl) "slice" := ⟨os,hos,hcs⟩;unfold getItem
 try with_reducible refine Yb8 ?_
 first|refine Yac (Yal ?_)|skip
 refine Yac (Yed ht.typeIs (by decide) ?_)
 refine Yac (Yda (name:=Ycc "__getitem__") ht.typeIs YaS
  (Yet YaS ht.typeIs YdH ?_ (Yd1 _ _)))
 show wpAny _ _ (Ycq (.ref t) >>= _) _ _ s;refine Yac (Yfj ht ?_);refine Yac (Ydr hTs ?_);rw[if_pos (by decide)]
 refine Yac (jdK (n:=its.length) hs ?_);have hno:¬((((its.length:Int)-1)==0&&(-1:Int)==1&&its.length==its.toArray.size)=true):=by simp
 show wpAny _ _ (if (((its.length:Int)-1)==0&&(-1:Int)==1&&its.length==its.toArray.size)=true then _ else _) _ _ s
 rw[if_neg hno,jjM]
 first
  |exact Yac (m:=YaQ _) (YaY (Yal ⟨_,rfl,Yal h⟩) htake)
  |exact Yac (m:=YaQ _) (YaY (Yac (Yal (Yal ⟨_,rfl,Yal h⟩))) htake)
  |exact Yac (Yac (m:=YaQ _) (YaY (Yal (Yal ⟨_,rfl,Yal h⟩)) htake))
  |exact Yac (Yac (m:=YaQ _) (YaY (Yal ⟨_,rfl,Yal h⟩) htake))
end HT
namespace L2
open PySem PySem.Spec PyProof.Rows


end L2

namespace L2
open PySem PySem.Spec PyProof.Rows

def jpi  (K:Yab):R2:=λx y H Q=>∃a b xs ys,x=.ref a/\y=.ref b/\SqT K H a xs/\SqT K H b ys/\xs.length+ys.length<=Yag/\
 (xs=[]->Q (.ref b) H)/\(xs≠[]->ys=[]->Q (.ref a) H)/\(xs≠[]->ys≠[]->∀p,H p=none->Q (.ref p) (upd H p (.tup (xs++ys))))
theorem jlK  : OpR X (Ya8 .Add) (jpi X.K):=by
 intro pins s σ H x y v u Q I rx ry h;obtain⟨a,b,xs,ys,rfl,rfl,ha,hb,hz,q0,q1,q2⟩:=h;by_cases hx:xs=[]
 ·cases rx;cases ry;obtain⟨its,r1,p1,_⟩:=I.tuple ha;obtain⟨its2,r2,p2,_⟩:=I.tuple hb;have hv:its=[]:=r1.nil_iff.mpr hx;subst hv;obtain⟨⟨cls,dd,data,sl⟩,ho,hc,n,hd⟩:=id p1;obtain⟨⟨cls2,dd2,data2,sl2⟩,ho2,hc2,n2,hd2⟩:=id p2;simp only at hc hd hc2 hd2;subst hc hd hc2 hd2;exact YfN ⟨_,ho,rfl⟩ ⟨_,ho2,rfl⟩ Yeu Yfl YcY YcS (YcH _ _)
   (tuple_addW0 a b _ its2.toArray n n2 dd dd2 sl sl2 rfl) ⟨ho,ho2,⟨.ref b,H,I,rfl,q0 hx⟩⟩
 ·exact jlJ pins s σ H _ _ _ _ Q I rx ry ⟨a,b,xs,ys,rfl,rfl,ha,hb,hx,hz,q1 hx,q2 hx⟩
theorem jhz   (hr:Room k X.A):OpR X (YaF .Eq) (λx y H Q=>∃a b xs,x=.ref a/\y=.ref b/\SqT X.K H a xs/\SqT X.K H b []/\Q (.bl xs.isEmpty) H):=by
 intro pins s σ H x y v u Q I rx ry h;obtain⟨a,b,xs,rfl,rfl,ha,hb,q⟩:=h;cases rx;cases ry;obtain⟨its,rv,pa,_⟩:=I.tuple ha;obtain⟨its2,rv2,pb,_⟩:=I.tuple hb;cases rv2;have hu:X.A.units<cLine:=hr.units0;have e:((Ya9 (min its.toArray.size ([]:List Value).toArray.size)).all (λ_=>true)&&its.toArray.size==([]:List Value).toArray.size)=xs.isEmpty:=by
  cases rv<;>simp
 refine EqBoolInt.of_rc (SeqAt.RcAt.tuples (e:=λ_=>true) (show s.heap.IsTuple a its.toArray from pa) (show s.heap.IsTuple b ([]:List Value).toArray from pb) hu λj _ h2=>?_) ?_
 ·simp at h2
 ·rw[e];exact⟨.bl xs.isEmpty,H,I,rfl,q⟩
theorem jhx   (hr:Room k X.A):OpR X (YaF .NotEq) (λx y H Q=>∃a b xs,x=.ref a/\y=.ref b/\SqT X.K H a xs/\SqT X.K H b []/\Q (.bl (!xs.isEmpty)) H):=by
 intro pins s σ H x y v u Q I rx ry h;obtain⟨a,b,xs,rfl,rfl,ha,hb,q⟩:=h;cases rx;cases ry;obtain⟨its,rv,pa,_⟩:=I.tuple ha;obtain⟨its2,rv2,pb,_⟩:=I.tuple hb;cases rv2;have hu:X.A.units<cLine:=hr.units0;have pa':s.heap.IsTuple a its.toArray:=pa;have pb':s.heap.IsTuple b ([]:List Value).toArray:=pb;cases rv with
 |nil=>
  refine YcE (Yd8 (e:=λ_=>true) pa' pb' hu λj h1 _=>?_) ⟨.bl false,H,I,rfl,q⟩;simp at h1
 |cons r rr=>
  refine YcE (Yd8 (e:=λ_=>true) pa' pb' hu λj _ h2=>?_) ⟨.bl true,H,I,rfl,q⟩;simp at h2




def jm7  (K:Yab)(neg:Bool):R2:=λx y H Q=>∃d e,DV K H x d/\DV K H y e/\d.canLay0=true/\e.canLay0=true/\d.depth<=100/\Q (.bl (if neg then !PyData.eqv d e else YaG d e)) H
theorem jnA   (hr:Room k X.A):OpR X (YaF .NotEq) (jm7 X.K true):=by
 intro pins s σ H x y v u Q I rx ry h;obtain⟨d,e,hd,he,c1,c2,hk,q⟩:=h;obtain⟨as,ra⟩:=hd.reads I rx;obtain⟨bs,rb⟩:=he.reads I ry;exact SeqAt.compareNe_reads ra rb c1 c2 (by have:=hr.un;lia) ⟨.bl _,H,I,rfl,q⟩
theorem jnG   (hr:Room k X.A):OpR X (YaF .Eq) (jm7 X.K false):=by
 intro pins s σ H x y v u Q I rx ry h;obtain⟨d,e,hd,he,c1,c2,hk,q⟩:=h;obtain⟨as,ra⟩:=hd.reads I rx;obtain⟨bs,rb⟩:=he.reads I ry;exact SeqAt.compareEq_reads ra rb c1 c2 (by have:=hr.un;lia) ⟨.bl _,H,I,rfl,q⟩

mutual
noncomputable def noB:PyData->Bool
 |.none=>true
 |.bool _=>false
 |.int _=>true
 |.str _=>true
 |.list ds=>noBs ds
 |.tuple ds=>noBs ds
 |.dict _=>false
noncomputable def noBs:List PyData->Bool
 |[]=>true
 |d::r=>noB d&&noBs r
end
mutual
theorem jkM:∀{d e:PyData},noB d=true->noB e=true->YaG d e=true->d=e
 |.none,.none,_,_,_=>rfl
 |.int i,.int j,_,_,h=>by rw[YaG]at h;rw[eq_of_beq h]
 |.str i,.str j,_,_,h=>by rw[YaG]at h;rw[eq_of_beq h]
 |.list xs,.list ys,h1,h2,h=>by rw[YaG]at h;rw[noB]at h1 h2;rw[jgu h1 h2 h]
 |.tuple xs,.tuple ys,h1,h2,h=>by rw[YaG]at h;rw[noB]at h1 h2;rw[jgu h1 h2 h]
 |.bool _,_,h,_,_=>by rw[noB]at h;cases h
 |.dict _,_,h,_,_=>by rw[noB]at h;cases h
 |.none,.bool _,_,h,_|.int _,.bool _,_,h,_|.str _,.bool _,_,h,_|.list _,.bool _,_,h,_|.tuple _,.bool _,_,h,_=>by rw[noB]at h;cases h
 |.none,.dict _,_,h,_|.int _,.dict _,_,h,_|.str _,.dict _,_,h,_|.list _,.dict _,_,h,_|.tuple _,.dict _,_,h,_=>by rw[noB]at h;cases h
 |.none,.int _,_,_,h|.none,.str _,_,_,h|.none,.list _,_,_,h|.none,.tuple _,_,_,h=>by rw[YaG]at h;cases h
 |.int _,.none,_,_,h|.int _,.str _,_,_,h|.int _,.list _,_,_,h|.int _,.tuple _,_,_,h=>by rw[YaG]at h;cases h
 |.str _,.none,_,_,h|.str _,.int _,_,_,h|.str _,.list _,_,_,h|.str _,.tuple _,_,_,h=>by rw[YaG]at h;cases h
 |.list _,.none,_,_,h|.list _,.int _,_,_,h|.list _,.str _,_,_,h|.list _,.tuple _,_,_,h=>by rw[YaG]at h;cases h
 |.tuple _,.none,_,_,h|.tuple _,.int _,_,_,h|.tuple _,.str _,_,_,h|.tuple _,.list _,_,_,h=>by rw[YaG]at h;cases h
theorem jgu:∀{ds es:List PyData},noBs ds=true->noBs es=true->Yct ds es=true->ds=es
 |[],[],_,_,_=>rfl
 |d::r,e::q,h1,h2,h=>by
  rw[noBs,Yah]at h1 h2
  rw[Yct,Yah]at h
  rw[jkM h1.1 h2.1 h.1,jgu h1.2 h2.2 h.2]
 |[],_::_,_,_,h=>by rw[Yct]at h;cases h
 |_::_,[],_,_,h=>by rw[Yct]at h;cases h
end


theorem jhR  (ds:List PyData):Yct ds []=ds.isEmpty:=by
 cases ds<;>rfl
theorem jdL  : fillsNumberSlot (.type "tuple") "mul" = pure false:=
 PySem.fillsNumberSlot_seq (id := "tuple.__mul__") (r:=some (.builtin "tuple.__rmul__")) Yem.lookup (by decide +kernel) F.slot_tuple_rmul.lookup (by decide +kernel)
theorem jfq  : seqRepeat? (.type "tuple")=pure (some (.builtin "tuple.__mul__")):=by
 unfold seqRepeat?;rw[YfB (T := "tuple") (name := "__mul__") (id := "tuple.__mul__") Yem.lookup (by decide +kernel),YfB (T := "tuple") (name := "__rmul__") (id := "tuple.__rmul__") F.slot_tuple_rmul.lookup (by decide +kernel)]
 rfl
theorem jer   a (t:Tok) l items (n:Nat) dd sl :
  Meets (Builtin.«int.__rmul__» ⟨[.int a t,.ref l],[]⟩) (λ_ R s=>s.heap.get? l=some { cls:=.type "tuple",dict:=dd,data:=.seq items n,slots:=sl }/\R (.ok (.ret Value.notImplemented)) s):=
 .of_wp λprog w A R s h=>by obtain⟨hp,g,d,tk,os⟩:=s;obtain⟨hl,h⟩:=h;wp_walk;exact⟨_,rfl,h⟩
theorem jhq   l (items:Array Value)(n:Nat) dd sl (x:Int)(t:Tok)(hx:2<=x)(hx2:x<2 ^ 62)(h0:items.isEmpty=false)(hsz:items.size*x.toNat<=Yag) :
  Meets (Builtin.«tuple.__mul__» ⟨[.ref l,.int x t],[]⟩)
   (λA R s=>s.heap.get? l=some { cls:=.type "tuple",dict:=dd,data:=.seq items n,slots:=sl }/\R (.ok (.ret (.ref s.heap.objs.size))) { s with heap:=s.heap.push { cls:=.type "tuple",data:=.seq ((Yaa x.toNat items).foldl (·++·) #[]) } }):=
 .of_wp λprog w A R s h=>by
  obtain⟨hp,g,d,tk,os⟩:=s;obtain⟨hl,h⟩:=h;have c1:(decide (x < -2 ^ 63)||decide (x ≥ 2 ^ 63))=false:=by simp;lia
  have c2:(items.isEmpty||x==1)=false:=by rw[h0];simp;lia
  have c3:(decide (x<=0)||items.isEmpty)=false:=by rw[h0];simp;lia
  have hz:(items.size:Int)*x=((items.size*x.toNat:Nat):Int):=by rw[Int.natCast_mul,Int.toNat_of_nonneg (by lia)]
  have h63:(Yag:Nat)<=(2 ^ 63-1)/8:=by decide
  wp_walk using wpAny_loadPart' hl
  simp only[c1,YbT,if_false]
  wp_walk using wpAny_loadPart' hl
  simp only[c2,c3,YbT,if_false];rw[if_neg (by rw[hz];lia)]
  have c4:Ydp ((items.size:Int)*x)=false:=by
   rw[hz];unfold Ydp;exact decide_eq_false (by lia)
  simp only[c4,YbT,if_false];have hs:(YdF (λx1 x2=>x1++x2) #[] (Yaa x.toNat items)).size<=Yag:=by
   rw[AutoListH.size_joined];simp only[Yak,YcB,YdQ];rw[YdR];exact hsz
  revert hs h;generalize YdF (λx1 x2=>x1++x2) #[] (Yaa x.toNat items)=G;intro h hs
  wp_walk
  exact⟨_,rfl,h⟩
theorem jhs   l (items:Array Value)(n:Nat) dd sl t (h0:items.isEmpty=false) :
  Meets (Builtin.«tuple.__mul__» ⟨[.ref l,.int 0 t],[]⟩)
   (λA R s=>s.heap.get? l=some { cls:=.type "tuple",dict:=dd,data:=.seq items n,slots:=sl }/\R (.ok (.ret (.ref s.heap.objs.size))) { s with heap:=s.heap.push { cls:=.type "tuple",data:=.seq #[] } }):=
 .of_wp λprog w A R s h=>by
  obtain⟨hp,g,d,tk,os⟩:=s;obtain⟨hl,h⟩:=h;have c2:(items.isEmpty||(0:Int)==1)=false:=by rw[h0];rfl
  wp_walk using wpAny_loadPart' hl
  exact⟨_,rfl,h⟩
theorem jhr   l items (n:Nat) dd sl t :
  Meets (Builtin.«tuple.__mul__» ⟨[.ref l,.int 1 t],[]⟩)
   (λA R s=>s.heap.get? l=some { cls:=.type "tuple",dict:=dd,data:=.seq items n,slots:=sl }/\R (.ok (.ret (.ref l))) s):=
 .of_wp λprog w A R s h=>by
  obtain⟨hp,g,d,tk,os⟩:=s;obtain⟨hl,h⟩:=h;have c1:(decide ((1:Int) < -2 ^ 63)||decide ((1:Int) ≥ 2 ^ 63))=false:=by decide
  have c2:(items.isEmpty||(1:Int)==1)=true:=by simp
  wp_walk using wpAny_loadPart' hl
  exact⟨_,rfl,h⟩

def jpf  (K:Yab):R2:=λx y H Q=>∃l k xs,x=.ref l/\y=.int k/\SqT K H l xs/\xs≠[]/\0<=k/\k<2 ^ 62/\xs.length*k.toNat<=Yag/\(k=1->Q (.ref l) H)/\(k≠1->∀p,H p=none->Q (.ref p) (upd H p (.tup (Yaa k.toNat xs).flatten)))
theorem jlG  : OpR X (Ya8 .Mult) (jpf X.K):=by
 intro pins s σ H x y v u Q I rx ry h;obtain⟨l,k,xs,rfl,rfl,hH,h0,h1,h2,hz,q1,q2⟩:=h;cases rx;obtain⟨t,rfl⟩:=ry;obtain⟨its,r,pl,_⟩:=I.tuple hH;have hl:=r.length;obtain⟨⟨cls,dd,data,sl⟩,e,hc,n,hd⟩:=id pl;simp only at hc hd;subst hc hd;have hne:its≠[]:=λz=>h0 (r.nil_iff.mp z);refine YeW (T := "tuple") (U := "int") (by decide) ⟨_,e,rfl⟩ (λs'=>Yef s' k t) jdL F.fills_int_mul Ydk jfq F.slot_int_index.lookup
  (Ybu Ydk (Yef s k t) F.entry_int_rmul (F.args_int_rmul_2 _ _) (jer k t l its.toArray n dd sl) ⟨e,rfl,⟨_,e,rfl⟩,?_⟩)
 by_cases hk:k=1
 ·subst hk;exact Ybu Yem ⟨_,e,rfl⟩ Yd6 (YdO _ _) (jhr l its.toArray n dd sl t) ⟨e,⟨.ref l,H,I,rfl,q1 rfl⟩⟩
 ·by_cases hk0:k=0
  ·subst hk0;refine Ybu Yem ⟨_,e,rfl⟩ Yd6 (YdO _ _) (jhs l its.toArray n dd sl t (by simpa using hne)) ⟨e,?_⟩
   refine⟨.ref s.heap.objs.size,_,I.laid (t':=s.toks) (o:=.tup []) (λb ob q=>Yad _ q) (Yae _) ?_,rfl,q2 hk _ (I.hok.fresh (Yae _))⟩;exact⟨YaK _,[],.nil,TupD.new _ _⟩
  refine Ybu Yem ⟨_,e,rfl⟩ Yd6 (YdO _ _) (jhq l its.toArray n dd sl k t (by lia) h2 (by simpa using hne) (by rw[Yak,<- hl];exact hz)) ⟨e,?_⟩
  have f0:=jed its k.toNat [];rw[YbA]at f0;rw[f0];refine⟨.ref s.heap.objs.size,_,I.laid (t':=s.toks) (o:=.tup (Yaa k.toNat xs).flatten) (λb ob q=>Yad _ q) (Yae _) ?_,rfl,q2 hk _ (I.hok.fresh (Yae _))⟩;exact⟨by rw[jgh,YdR];exact hz,_,r.rep k.toNat,TupD.new _ _⟩
noncomputable def repS  (x:Str)(k:Nat):Str:=⟨(Yaa k x.cps.toList).flatten.toArray⟩
def jpg  : R2:=λx y H Q=>∃z k,x=.str z/\y=.int k/\0<=k/\k<1000/\z.length<=1000/\Q (.str (repS z k.toNat)) H
theorem jhc  (x:Array Nat):∀k (a:List Nat),((Yaa k x).foldl (·++·) a.toArray)=(a++(Yaa k x.toList).flatten).toArray
 |0,a=>by simp
 |k+1,a=>by
  rw[Ya4,Yeb,show a.toArray++x=(a++x.toList).toArray by simp,jhc x k]
  simp[Ya4]
theorem jlH  : OpR X (Ya8 .Mult) jpg:=by
 intro pins s σ H x y v u Q I rx ry h;obtain⟨z,k,rfl,rfl,h0,h1,hz,q⟩:=h;obtain⟨t,rfl⟩:=rx;obtain⟨t',rfl⟩:=ry;have hl:z.length*k.toNat<=1000000:=Yaf (Nat.mul_le_mul hz (show k.toNat<=1000 by lia)) (by decide)
 refine P.mul_str (by simp;lia) (λh2 _=>?_) (λh2 _=>?_) ?_
 ·have:((2:Int) ^ 63-1)/k ≥ 1000:=by
   refine(Int.le_ediv_iff_mul_le (by lia)).mpr ?_
   lia
  lia
 ·exact decide_eq_false (by
   have:(1000000:Nat)<=Yag:=by decide
   lia)
 ·split
  ·have e:repS z k.toNat=Str.empty:=by rw[show k.toNat=0 by lia];rfl
   rw[e]at q;exact⟨by decide,.str _,H,I.tok _,⟨_,rfl⟩,q⟩
  ·split
   ·rename_i h2 h3;have e:repS z k.toNat=z:=by
     rw[YbB,beq_iff_eq,beq_iff_eq]at h3;unfold repS;rcases h3 with h3|h3
     ·subst h3;simp
     ·have:z.cps.toList=[]:=by
       have:z.cps.size=0:=h3;simpa using this
      obtain⟨c⟩:=z;simp only at this ⊢;have hc:c=#[]:=by simpa using this
      subst hc;simp
    rw[e]at q;exact⟨.str _,H,I,⟨_,rfl⟩,q⟩
   ·have e:(Yaa k.toNat z.cps).foldl (·++·) #[]=(Yaa k.toNat z.cps.toList).flatten.toArray:=by
     have:=jhc z.cps k.toNat [];simpa using this
    refine⟨?_,.str _,H,I.tok _,⟨_,rfl⟩,?_⟩
    ·rw[e];show(Yaa k.toNat z.cps.toList).flatten.toArray.size<=Yag;rw[Yak,jgh,YdR];exact Yaf hl (by decide)
    ·rw[e];exact q
theorem jet  : ∀{bs:List Bool} {us } {i:Nat} {v },Vals (bs.map V.bl) us->us[i]?=some v->∃b,bs[i]?=some b/\v=.bool b
 |b::r,_,0,v,.cons e q,h=>by
  cases e;exact⟨b,rfl,(Yar h).symm⟩
 |b::r,_,i+1,v,.cons e q,h=>jet (bs:=r) (i:=i) q (by simpa using h)
 |[],_,i,v,.nil,h=>by simp at h
theorem jhX    {σ:St}{bs:List Bool}(hc:X.calm=true)(I:Inv X pins σ H s)(hq:SqL X.K H p (bs.map V.bl)) d :
  ∃its fp wr P S,s.heap.IsList p its/\Walks X.prog X.w X.A.in1 s.heap.objs.size fp wr bs.length P S/\S 0 (s.heap.push ⟨.type "list_iterator",none,.fields #[.ref p,.int 0 0],#[]⟩)/\TruthOf X.prog X.w X.A.in1 P (λi=>(bs[i]?).getD d)/\
   ∀h':Heap,(∀b o,b∉wr->(s.heap.push ⟨.type "list_iterator",none,.fields #[.ref p,.int 0 0],#[]⟩).get? b=some o->h'.get? b=some o)->∀b o,s.heap.get? b=some o->h'.get? b=some o:=by
 obtain⟨its,r',pl,-⟩:=I.list hq;have n:its.toArray.size=bs.length:=by simpa using r'.length.symm
 obtain⟨o,ho,-⟩:=id pl.isList;have W:=Walks.list (prog:=X.prog) (w:=X.w) (A:=X.A.in1) (I.ok.hd hc) s.heap.objs.size p (YaR (Yam ho)) its.toArray;rw[n]at W;refine⟨its.toArray,_,_,_,_,pl.isList,W,⟨⟨_,YaA _ rfl,rfl,rfl⟩,pl.isList.push _⟩,λi v t Q E hP hQ=>?_,λh' hk b o e=>hk b o (λm=>?_) (Yad _ e)⟩
 ·obtain⟨b,e,rfl⟩:=jet (i:=i) (v:=v) r' (by simpa using hP)
  exact YaX (by simpa only[e,Option.getD]using hQ)
 ·exact absurd (Yam e) (by rw[List.mem_singleton.mp m];exact Ybh _)

end L2

namespace L2
open PySem PySem.Spec PyProof.Rows
open Sem (wp)
open AutoSeq1 (wpAny_loadPart')



end L2

namespace L2
open PySem PySem.Spec PyProof.Rows

theorem jgA  : ja8 X (.builtin "isinstance") (λxs H Q=>∃(x:V) (c:String) (t:Value) (b:Bool),xs=[x,.ty c]/\TyOf X.K H x t/\Yc9 X.K t (.type c)=some b/\Q (.bl b) H):=by
 intro pins s σ H xs us Q I r h;obtain⟨x,c,t,b,rfl,ty,e,q⟩:=h;obtain⟨u,v,rfl,ru,rv⟩:=Vals.two r;cases rv;exact jiU I ru ty e λtk=>⟨.bl b,H,I.tok tk,rfl,q⟩




end L2

namespace L2
open PySem PySem.Spec PyProof.Rows PySem.W

end L2

namespace L2
open PySem PySem.Spec PyProof.Rows PySem.W
open PySem.AutoSeq1 (wpAny_loadPart')
open PySem.MeetsSeq PySem.MeetsSeq2 PySem.MeetsSeq3
end L2

namespace L2
open PySem PySem.Spec PyProof.Rows PySem.W



section
variable {X:Cx}
theorem jdh  : ∀r:List Int,YcK (r.map .int)=true/\Ybv (r.map .int)=0/\noBs (r.map .int)=true
 |[]=>⟨rfl,rfl,rfl⟩
 |i::r=>by
  obtain⟨h1,h2,h3⟩:=jdh r;refine⟨?_,?_,?_⟩
  ·show((Yei i).canLay0&&YcK (r.map .int))=true;rw[h1];rfl
  ·show max (Yei i).depth (Ybv (r.map .int))=0;rw[h2];rfl
  ·show(noB (.int i)&&noBs (r.map .int))=true;rw[h3];rfl
theorem jhb  : ∀{l l':List Int},l.map Yei=l'.map Yei->l=l'
 |[],[],_=>rfl
 |[],_::_,h=>by cases h
 |_::_,[],h=>by cases h
 |a::l,b::l',h=>by
  have h:=Yfy h;rw[Yei.inj h.1,jhb h.2]
theorem jmk  (k k':List Int):YaG (.list (k.map .int)) (.list (k'.map .int))=decide (k=k'):=by
 by_cases h:k=k'
 ·rw[h,PySem.SeqAt.eqv_refl (.list (k'.map .int)) (jdh k').1];simp
 ·cases e:YaG (.list (k.map .int)) (.list (k'.map .int))with
  |false=>simp[h]
  |true=>
   have e:=PyData.list.inj (jkM (d:=.list (k.map .int)) (e:=.list (k'.map .int)) (jdh k).2.2 (jdh k').2.2 e);exact absurd (jhb e) h

def rInD  (X:Cx)(neg:Bool):R2:=λx y H Q=>∃(p:Addr) (vs:List V) (d:PyData) (ds:List PyData),y=.ref p/\(SqL X.K H p vs\/SqT X.K H p vs)/\DV X.K H x d/\DVs X.K H vs ds/\d.canLay0=true/\d.depth<=100/\(∀e∈ds,e.canLay0=true)/\Q (.bl (if neg then !(ds.any λe=>YaG e d) else ds.any λe=>YaG e d)) H
open Classical in
noncomputable def eD (h:Heap)(d:PyData)(w:Value):Bool:=decide (∃e as,e.canLay0=true/\Reads h w e as/\YaG e d=true)
open Classical in
theorem joq {h:Heap}{d e:PyData}{w:Value}{as:List Addr}(r:Reads h w e as)(c:e.canLay0=true):eD h d w=YaG e d:=by
 unfold eD;cases q:YaG e d with
 |true=>grind
 |false=>
  refine decide_eq_false λ⟨e',as',c',r',q'⟩=>?_;rw[SeqAt.Reads.unique e' e w as' as c' r' r,q]at q';cases q'
theorem jiW {h:Heap}{d:PyData}:∀{us:List Value} {ds:List PyData} {as:List Addr},ReadsAll h us ds as->(∀e∈ds,e.canLay0=true)->us.any (eD h d)=(ds.any λe=>YaG e d)/\∀w∈us,∃e as,e.canLay0=true/\Reads h w e as
 |_,_,_,.nil,_=>⟨rfl,λw hw=>by simp at hw⟩
 |_,_,_,.cons r rs,c=>by
  obtain⟨h1,h2⟩:=jiW (d:=d) rs λe he=>c e (Yan _ he);refine⟨by rw[Ybr,Ybr,h1,joq r (c _ YaH)],λw hw=>?_⟩
  rcases YaM.mp hw with rfl|hw
  ·exact⟨_,_,c _ YaH,r⟩
  ·exact h2 w hw
theorem jha   {σ:St}(hu:A.units+100<cLine)(I:Inv X pins σ H s)(rx:RelV x u)(hd:DV X.K H x d)(c:d.canLay0=true)(hp:d.depth<=100)(r:Vals vs its)(hv:DVs X.K H vs ds)(cs:∀e∈ds,e.canLay0=true) :
  (∀w,w∈its->Yeo A s w u (eD s.heap d w))/\its.any (eD s.heap d)=ds.any λe=>YaG e d:=by
 obtain⟨as,ra⟩:=DVs.reads I hv r;obtain⟨bs,rb⟩:=DV.reads I hd rx;obtain⟨h1,h2⟩:=jiW (d:=d) ra cs;refine⟨λw hw=>?_,h1⟩;obtain⟨e,as',ce,re⟩:=h2 w hw;rw[joq re ce];exact SeqAt.eqAt_reads _ _ A s _ _ _ _ re rb ce c (Ya0 (YcD (Yaf (Nat.min_le_right _ _) hp) _) hu)
theorem jnF   (hr:Room k X.A):OpR X (YaF .In) (rInD X false):=by
 intro pins s σ H x y v u Q I rx ry h;obtain⟨p,vs,d,ds,rfl,hq,hd,hv,c,hp,cs,q⟩:=h;cases ry;rcases hq with hq|hq
 ·obtain⟨its,r,pl,hz⟩:=I.list hq;obtain⟨h1,h2⟩:=jha (A:=X.A.in1) (by have:=hr.un;lia) I rx hd c hp r hv cs
  refine YfP (eD s.heap d) pl.isList (λw hw=>h1 w (by simp_all)) ⟨.bl _,H,I,rfl,?_⟩
  rw[show its.toArray.any (eD s.heap d)=its.any (eD s.heap d) by simp,h2]
  exact q
 ·obtain⟨its,r,pl,hz⟩:=I.tuple hq;obtain⟨h1,h2⟩:=jha (A:=X.A.in1) (by have:=hr.un;lia) I rx hd c hp r hv cs
  refine YdI (eD s.heap d) pl (λw hw=>h1 w (by simp_all)) ⟨.bl _,H,I,rfl,?_⟩
  rw[show its.toArray.any (eD s.heap d)=its.any (eD s.heap d) by simp,h2]
  exact q
theorem jiu   (hr:Room k X.A):OpR X (YaF .NotIn) (rInD X true):=by
 intro pins s σ H x y v u Q I rx ry h;obtain⟨p,vs,d,ds,rfl,hq,hd,hv,c,hp,cs,q⟩:=h;cases ry;rcases hq with hq|hq
 ·obtain⟨its,r,pl,hz⟩:=I.list hq;obtain⟨h1,h2⟩:=jha (A:=X.A.in1) (by have:=hr.un;lia) I rx hd c hp r hv cs
  refine Yfb (eD s.heap d) pl.isList (λw hw=>h1 w (by simp_all)) ⟨.bl _,H,I,rfl,?_⟩
  rw[show its.toArray.any (eD s.heap d)=its.any (eD s.heap d) by simp,h2]
  exact q
 ·obtain⟨its,r,pl,hz⟩:=I.tuple hq;obtain⟨h1,h2⟩:=jha (A:=X.A.in1) (by have:=hr.un;lia) I rx hd c hp r hv cs
  refine Ydg (eD s.heap d) pl (λw hw=>h1 w (by simp_all)) ⟨.bl _,H,I,rfl,?_⟩
  rw[show its.toArray.any (eD s.heap d)=its.any (eD s.heap d) by simp,h2]
  exact q
end

end L2

namespace L2
open PySem PySem.Spec PyProof.Rows




end L2

namespace L2
open PySem PySem.Spec PyProof.Rows PySem.SeqAt PySem.MeetsSeq
theorem jaY   l es (n:Nat) dd sl b u :
  Meets (Builtin.«dict.__eq__» ⟨[.ref l,.str b u],[]⟩) (λ_ R s=>s.heap.get? l=some { cls:=.type "dict",dict:=dd,data:=.dict es n,slots:=sl }/\R (.ok (.ret .notImplemented)) s):=
 .of_wp λprog w A R s h=>by obtain⟨hp,g,d,tk,os⟩:=s;obtain⟨hl,h⟩:=h;have f1:=F.sub_str_dict;wp_walk using wpAny_loadPart' hl;exact⟨_,rfl,h⟩
theorem jaX   b u l es (n:Nat) dd sl :
  Meets (Builtin.«str.__eq__» ⟨[.str b u,.ref l],[]⟩) (λ_ R s=>s.heap.get? l=some { cls:=.type "dict",dict:=dd,data:=.dict es n,slots:=sl }/\R (.ok (.ret .notImplemented)) s):=
 .of_wp λprog w A R s h=>by obtain⟨hp,g,d,tk,os⟩:=s;obtain⟨hl,h⟩:=h;wp_walk using wpAny_loadPart' hl,wpAny_load hl;exact⟨_,rfl,h⟩

theorem jf4         b u (ho:s.heap.get? l=some o)(hc:o.cls=.type "dict")(hd:o.data=.dict es n)(hu:A.units<cLine):RcAt A s (.ref l) (.str b u) false:=λprog w E Q h=>by
 obtain⟨cls,dd,data,sl⟩:=o;simp only at hc hd;subst hc hd;exact rc_eq_decline_or (k:=false) ⟨_,ho,rfl⟩ (Yc6 s b u) (by decide) F.sub_str_dict F.slot_dict_eq F.slot_str_eq_refl
  (λ_ hq=>Ybu F.slot_dict_eq ⟨_,ho,rfl⟩ F.entry_dict_eq (F.args_dict_eq_2 _ _) (jaY l es n dd sl b u) ⟨ho,hq⟩)
  (λ_ hq=>Ybu F.slot_str_eq_refl (Yc6 s b u) F.entry_str_eq (F.args_str_eq_2 _ _) (jaX b u l es n dd sl) ⟨ho,hq⟩)
  (λ_ hq=>wpAny_of_eq (rfl:isSame (.ref l) (.str b u)=pure false) hq) (.inr hu) h
def jjF  : R2:=λx y H Q=>∃a z kvs,x=.ref a/\y=.str z/\H a=some (.dK kvs)/\Q (.bl false) H
theorem jeZ   (hr:Room k X.A):OpR X (YaF .Eq) jjF:=by
 intro pins s σ H x y v u Q I rx ry h;obtain⟨a,z,kvs,rfl,rfl,ha,q⟩:=h;cases rx;obtain⟨t,rfl⟩:=ry;obtain⟨_,_,vs,_,o,es,ep,ho,hx,hd,_⟩:kvs.length<=Yag/\(a==Ya3)=false/\∃vs,KV kvs vs/\s.heap.DictOf (jar X.prog X.w) a vs:=I.hok a _ ha;exact jf4 z t ho hx.1 hd (by have:=hr.un;lia) X.prog X.w X.xe _ ⟨.bl false,H,I,rfl,q⟩
def rSlS  : V->Option Int->Option Int->Hp->VK->Prop:=λx lo hi H Q=>∃z,x=.str z/\z.length<=Yag/\Q (.str (YeZ z lo hi)) H

theorem jmV  : SlR X rSlS:=by
 intro pins s σ H x v vl vu lo hi sl Q I rx hs pl pu h;obtain⟨z,rfl,hz,q⟩:=h;obtain⟨t,rfl⟩:=rx;refine⟨"str",_,F.slot_str_getitem.lookup,Yc6 _ _ _,?_⟩;obtain⟨o,ho,hc,hd⟩:=hs;have fin:∀t' k,EP X pins σ Q (.str (YeZ z lo hi) t') { s with toks:=k }:=λt' k=>⟨.str _,H,I.tok _,⟨_,rfl⟩,q⟩
 cases pl with
 |none=>
  cases pu with
  |none=>exact Ycm (l:=none) (u:=none) (st:=none) ⟨o,ho,hc,hd⟩ rfl (Yds ⟨Yaf (YdP z _ _) hz,fin⟩)
  |int j uj=>exact Ycm (l:=none) (u:=some (j,uj)) (st:=none) ⟨o,ho,hc,hd⟩ rfl (Yds ⟨Yaf (YdP z _ _) hz,fin⟩)
 |int i ui=>
  cases pu with
  |none=>exact Ycm (l:=some (i,ui)) (u:=none) (st:=none) ⟨o,ho,hc,hd⟩ rfl (Yds ⟨Yaf (YdP z _ _) hz,fin⟩)
  |int j uj=>exact Ycm (l:=some (i,ui)) (u:=some (j,uj)) (st:=none) ⟨o,ho,hc,hd⟩ rfl (Yds ⟨Yaf (YdP z _ _) hz,fin⟩)
theorem jlL  : OpR X (Ya8 .Add) (λx y H Q=>∃b j,x=.bl b/\y=.int j/\Q (.int ((if b=true then (1:Int) else 0)+j)) H):=by
 intro pins s σ H x y v u Q I rx ry h;obtain⟨b,j,rfl,rfl,q⟩:=h;cases rx;obtain⟨t,rfl⟩:=ry;exact PySem.IntBool.add_bool_int ⟨.int _,H,I.tok _,⟨_,rfl⟩,q⟩
theorem jlF  : OpR X (Ya8 .Sub) (λx y H Q=>(∃b j,x=.bl b/\y=.int j/\Q (.int ((if b=true then (1:Int) else 0)-j)) H)\/∃i b,x=.int i/\y=.bl b/\Q (.int (i-if b=true then (1:Int) else 0)) H):=by
 intro pins s σ H x y v u Q I rx ry h;rcases h with⟨b,j,rfl,rfl,q⟩|⟨i,b,rfl,rfl,q⟩
 ·cases rx;obtain⟨t,rfl⟩:=ry;exact PySem.IntBool.sub_bool_int ⟨.int _,H,I.tok _,⟨_,rfl⟩,q⟩
 ·cases ry;obtain⟨t,rfl⟩:=rx;exact PySem.IntBool.sub_int_bool ⟨.int _,H,I.tok _,⟨_,rfl⟩,q⟩
def jll  (K:Yab):R2:=λx y H Q=>∃a z xs,x=.ref a/\y=.str z/\(SqT K H a xs\/SqL K H a xs)/\Q (.bl false) H
theorem jfw   (hr:Room k X.A):OpR X (YaF .Eq) (jll X.K):=by
 intro pins s σ H x y v u Q I rx ry h;obtain⟨a,z,xs,rfl,rfl,ha,q⟩:=h;cases rx;obtain⟨t,rfl⟩:=ry;have hu:X.A.units<cLine:=hr.units0;rcases ha with ha|ha
 ·obtain⟨its,rv,pa,_⟩:=I.tuple ha;exact SeqAt.RcAt.tuple_str z t (show s.heap.IsTuple a its.toArray from pa) hu X.prog X.w X.xe _ ⟨.bl false,H,I,rfl,q⟩
 ·obtain⟨its,rv,pa,_⟩:=I.list ha;exact SeqAt.RcAt.list_str z t pa.isList hu X.prog X.w X.xe _ ⟨.bl false,H,I,rfl,q⟩
end L2

namespace L2
open PySem PySem.Spec PyProof.Rows
open AutoSeq1 (wpAny_loadPart')


end L2

namespace L2
open PySem PySem.Spec PyProof.Rows PySem.W
structure Lies (lo:Nat)(pn:List (Addr×Obj))(H:Hp)(h:Heap)(e:Addr)(cls:Value)(dx:Option Addr):Prop where
 ob:∃oe vs,h.get? e=some oe/\oe.cls=cls/\oe.dict=dx/\oe.data=.fields vs/\
  (vs[1]?=some .none\/∃T oT ts,vs[1]?=some (.ref T)/\T≠e/\h.get? T=some oT/\oT.data=.fields ts/\ts[3]?=some .none/\H T=none/\lo<=T/\∀p∈pn,p.1≠T)
 hn:H e=none
 le:lo<=e
 pn:∀p∈pn,p.1≠e

theorem jcQ  {h:Heap} i x (ho:h.get? a=some o)(hd:o.data=.fields vs) :
  (∃o',(h.update a (Ycj (·.setIfInBounds i x))).get? a=some o'/\o'.cls=o.cls/\o'.dict=o.dict/\o'.data=.fields (vs.setIfInBounds i x))/\∀b,b≠a->(h.update a (Ycj (·.setIfInBounds i x))).get? b=h.get? b:=by
 have z:=YfG hd (·.setIfInBounds i x);refine⟨⟨_,Ycr _ ho (Ydb z),Obj.cls_mapFields _ _,?_,z⟩,λb hb=>Yc4 _ _ (Ne.symm hb)⟩;unfold Ycj
 lia
theorem jhg  {s: Shared} 
  (hfr:A.frames=some (env::outer)) (hl:s.heap.FunFrames base (env::outer)) (hf:env.frame=some L) (he:s.heap.get? e=some oe) (hd:oe.data=.fields vs) (hsz:1<vs.size)
  (h:∀(h':Heap) (T:Addr) (oe' oT:Obj) vs' ts ,(∀b o,b∉frs (env::outer)->b≠e->s.heap.get? b=some o->h'.get? b=some o)->(∀b o,b∈frs (env::outer)->b≠e->s.heap.get? b=some o->∃sl,h'.get? b=some { o with slots:=sl })->
   s.heap.objs.size<=T->h'.get? e=some oe'->oe'.cls=oe.cls->oe'.dict=oe.dict->oe'.data=.fields vs'->vs'[1]?=some (.ref T)->h'.get? T=some oT->oT.data=.fields ts->ts[3]?=some .none->Q () { s with heap:=h' }) :
  wpAny M A (do let a <- frameOf env;let pl <- entryPlaceOf L had;let b <- EntryCells.newEntry head a .none (rawInt L) .none pl;setField (.ref e) 1 b) (λ_ s'=>wpAny M A (YdX (.ref e) none) Q E s') E s:=by
 have out:e∉frs (env::outer):=λm=>by
  rcases hl.mem m with⟨-,o,ho,no⟩
  simp_all
 refine Yac (wpAny_frameOf_fun hfr hl hf λh1 fs=>Yac (wpAny_entryPlaceOf λpl hpl=>Yac (YaY ?_ (hpl.sizeOk5 _ _ _ _ _))));have n3:3<([head,.ref L,.none,rawInt L,.none]++(if pl.isEmpty then Yaa 6 Ybm else pl)).toArray.size:=by
  simp_all
 generalize eot:(⟨.type "traceback",none,.fields ([head,.ref L,.none,rawInt L,.none]++(if pl.isEmpty then Yaa 6 Ybm else pl)).toArray,#[]⟩:Obj)=ot
 have dt:ot.data=.fields ([head,.ref L,.none,rawInt L,.none]++(if pl.isEmpty then Yaa 6 Ybm else pl)).toArray:=by lia
 have g1:h1.get? e=some oe:=by rw[fs.2.1 e out,he]
 have new:=YaA h1 (Ydb dt);have ne:h1.objs.size≠e:=λz=>Ybh _ (z ▸ Yam g1);obtain⟨⟨o2,g2,c2,d2,v2⟩,r2⟩:=jcQ 1 (.ref h1.objs.size) (Yad ot g1) hd;have g2':=(r2 _ ne).trans new;obtain⟨⟨o3,g3,c3,d3,v3⟩,r3⟩:=jcQ 3 .none g2' dt;refine YeV (Yad ot g1) hd hsz (Yac (YbR g2 v2 (YbX hsz) ?_));rw[if_pos (by rfl)]
 refine YeV g2' dt n3 ?_;have keep:∀b o,b≠e->h1.get? b=some o->_:=λb o hb g=>(r3 b (YaR (Yam g))).trans ((r2 b hb).trans (Yad ot g));refine h _ h1.objs.size o2 o3 _ _ (λb o hb hbe g=>keep b o hbe (by rw[fs.2.1 b hb,g])) (λb o _ hbe g=>?_) (YdS fs.1.symm) ((r3 e (Ne.symm ne)).trans g2) c2 d2 v2 (YbX hsz) g3 v3 (YbX n3)
 rcases fs.2.2 b o g with⟨sl,q⟩
 simp_all

theorem Inv.left  {σ: St}{ch:List Addr}(I:Inv X pins σ H s)(hH:∀b∈ch,H b=none)(hlo:∀b∈ch,X.s₀.heap.objs.size<=b)(hd:∀b∈ch,∃o vs,s.heap.get? b=some o/\o.data=.fields vs)(hp:∀b∈ch,∀p∈X.pn++pins,p.1≠b)
  (k:∀b o,b∉frs X.stack->b∉ch->s.heap.get? b=some o->h'.get? b=some o) (sl:∀b o,b∈frs X.stack->b∉ch->s.heap.get? b=some o->∃t,h'.get? b=some { o with slots:=t }):Inv X pins σ H { s with heap:=h' }:=by
 have u:Un (frs X.stack) ch H H s.heap h':=by
  refine⟨λb o e _ hb hc=>k b o hb hc e,λb o e _ hb hc=>sl b o hb hc e,λ_ _ _ n _=>n,λb o e hc=>?_,λ_ _ e=>e,λ_ _ _ e=>e,λb ps e=>⟨#[],by rw[e];simp⟩⟩
  grind
 have tr:∀b u,H b=some u->b∉frs X.stack/\b∉ch:=λb u e=>⟨λz=>(by rw[I.stkFree b z]at e;cases e),λz=>(by simp_all)⟩
 have hok:HOk X.prog X.w H h':=λa o e=>(I.hok a o e).stay (λb v hb q=>by
  grind) (λ_ q=>q) λ_ _ q=>q
 refine I.call (g':=s.gens) (d':=s.drawn) (t':=s.toks) u hok I.bare λb hb=>⟨.inr (hlo b hb),λz=>?_,λx c e z=>?_,hp b hb⟩
 ·obtain⟨o,vs,g,d⟩:=hd b hb;obtain⟨m,⟨o',_,_,ho,r⟩,_⟩:=I.loc
  lia
 ·obtain⟨o,vs,g,d⟩:=hd b hb;obtain⟨v,o',ho,hc⟩:=I.cell x c e
  lia
theorem jiO  {σ: St}(I:Inv X [] σ H s)(hst:X.stack=X.env::X.outer)(hf:X.env.frame=some X.env.locals)
  (l:Lies X.s₀.heap.objs.size X.pn H s.heap ea cls dx) (q:∀h',Inv X [] σ H { s with heap:=h' }->Lies X.s₀.heap.objs.size X.pn H h' ea cls dx->Q () { s with heap:=h' }):wpAny M X.A (YfL (.ref ea) X.env) (λ_ s'=>wpAny M X.A (YdX (.ref ea) none) Q E s') E s:=by
 obtain⟨oe,vs,he,hc,hdx,hd,ht⟩:=l.ob;have hfr:X.A.frames=some (X.env::X.outer):=by rw[<- hst];exact I.ok.frames
 have hl:s.heap.FunFrames X.base (X.env::X.outer):=by rw[<- hst];exact I.stack
 have pe:∀p∈X.pn++[],p.1≠ea:=λp hp=>l.pn p (by simp_all)
 unfold YfL;simp only[hf];rcases ht with h1|⟨T,oT,ts,h1,hTe,hT,hdT,h3,nT,lT,pT⟩
 ·refine Yac (YbR he hd h1 ?_);rw[if_neg (by decide)]
  refine jhg hfr hl hf he hd (Array.getElem?_eq_some_iff.mp h1).1 λh' T' oe' oT' vs' ts' k sl zT g1 c1 c2 c3 c4 g2 c5 c6=>?_;rw[<- hst]at k sl;have J:Inv X [] σ H { s with heap:=h' }:=I.left (ch:=[ea]) (λb hb=>by rw[List.mem_singleton.mp hb];exact l.hn) (λb hb=>by rw[List.mem_singleton.mp hb];exact l.le) (λb hb=>by simp_all) (λb hb=>by grind)
   (λb o hb hc e=>k b o hb (λz=>hc (by simp[z])) e) λb o hb hc e=>sl b o hb (λz=>hc (by simp[z])) e
  refine q h' J ⟨⟨oe',vs',g1,c1.trans hc,c2.trans hdx,c3,.inr ⟨T',oT',ts',c4,?_,g2,c5,c6,I.hok.fresh zT,Yaf I.sz zT,λp hp z=>?_⟩⟩,l.hn,l.le,l.pn⟩
  ·exact λz=>absurd (Yam he) (Nat.not_lt.mpr (z ▸ zT))
  ·exact absurd (Yam (I.pin p (by simp_all)).1) (Nat.not_lt.mpr (z ▸ zT))
 ·have old:(Ybm==rawInt X.env.locals)=false:=rfl;refine Yac (YbR he hd h1 ?_);rw[if_pos (by rfl)]
  refine Yac (YbR hT hdT h3 ?_);rw[old,if_neg Yai];refine Yac (YeV hT hdT (Array.getElem?_eq_some_iff.mp h3).1 ?_);have other:=(jcQ 3 .none hT hdT).2;have I1:Inv X [] σ H { s with heap:=s.heap.update T (Ycj (·.setIfInBounds 3 Ybm)) }:=I.left (ch:=[T]) (λb hb=>by simp_all) (λb hb=>by simp_all) (λb hb=>by simp_all) (λb hb p hp=>by grind)
   (λb o _ hc e=>(other b (by simp_all)).trans e) λb o _ hc e=>⟨o.slots,(other b (by simp_all)).trans e⟩
  have he1:=(other ea (Ne.symm hTe)).trans he;have hl1:(s.heap.update T (Ycj (·.setIfInBounds 3 Ybm))).FunFrames X.base (X.env::X.outer):=by rw[<- hst];exact I1.stack
  refine jhg (s:={ s with heap:=s.heap.update T (Ycj (·.setIfInBounds 3 Ybm)) }) hfr hl1 hf he1 hd (Array.getElem?_eq_some_iff.mp h1).1 λh' T' oe' oT' vs' ts' k sl zT g1 c1 c2 c3 c4 g2 c5 c6=>?_
  rw[<- hst]at k sl;have J:Inv X [] σ H { s with heap:=h' }:=Inv.left (s:={ s with heap:=s.heap.update T (Ycj (·.setIfInBounds 3 Ybm)) }) (ch:=[ea]) I1 (λb hb=>by rw[List.mem_singleton.mp hb];exact l.hn) (λb hb=>by rw[List.mem_singleton.mp hb];exact l.le) (λb hb=>by simp_all) (λb hb=>by grind)
   (λb o hb hc e=>k b o hb (λz=>hc (by simp[z])) e) λb o hb hc e=>sl b o hb (λz=>hc (by simp[z])) e
  refine q h' J ⟨⟨oe',vs',g1,c1.trans hc,c2.trans hdx,c3,.inr ⟨T',oT',ts',c4,?_,g2,c5,c6,I1.hok.fresh zT,Yaf I1.sz zT,λp hp z=>?_⟩⟩,l.hn,l.le,l.pn⟩
  ·exact λz=>absurd (Yam he1) (Nat.not_lt.mpr (z ▸ zT))
  ·exact absurd (Yam (I1.pin p (by simp_all)).1) (Nat.not_lt.mpr (z ▸ zT))
def CX1  (P:Program)(w:World):CXT:=λouter H s E e s'=>∃(ea:Addr) (H':Hp) (cls:Value) (dx:Option Addr),e=.ref ea/\s'.os=s.os/\AllBare s'.gens/\Un (frs outer) [] H H' s.heap s'.heap/\HOk P w H' s'.heap/\Lies s.heap.objs.size [] H' s'.heap ea cls dx/\E cls dx H'

theorem CX1.back  {σ: St}(I:Inv X pins σ H s)(h:CX1 X.prog X.w X.stack H s E e s'):∃(ea:Addr) (H':Hp) (cls:Value) (dx:Option Addr),e=.ref ea/\Inv X pins σ H' s'/\Lies X.s₀.heap.objs.size X.pn H' s'.heap ea cls dx/\E cls dx H':=by
 obtain⟨ea,H',cls,dx,rfl,os,bare,un,hok,l,q⟩:=h;have pn:∀b,s.heap.objs.size<=b->∀p∈X.pn,p.1≠b:=λb hb p hp z=>absurd (Yam (I.pin p (YaV _ hp)).1) (Nat.not_lt.mpr (z ▸ hb));refine⟨ea,H',cls,dx,rfl,I.call' (ch:=[]) os un hok bare (λb z=>absurd z (by simp)),⟨?_,l.hn,Yaf I.sz l.le,pn ea l.le⟩,q⟩
 obtain⟨oe,vs,he,hc,hdx,hd,ht⟩:=l.ob;refine⟨oe,vs,he,hc,hdx,hd,ht.imp id ?_⟩;rintro⟨T,oT,ts,h1,h2,h3,h4,h5,h6,h7,_⟩;exact⟨T,oT,ts,h1,h2,h3,h4,h5,h6,Yaf I.sz h7,pn T h7⟩
end L2

namespace L2
open PySem PySem.Spec PyProof.Rows PySem.W
open Builtin Builtin.ObjectAttr
section
variable {M:Model}{A:Around}{E:Value->Shared->Prop}{h:Heap}{g:Array GenState}{d:Drawn}{t:Nat}{os:OsState}
variable {nm q:Str}{C N D:Addr}{bs bmB:List Value}{hdct:Bool}{sn:List Str}{sub:List Value}{ab:Bool}{col:Option Bool}{dd:Option Addr}{k0 k1 k2 k3 k5:Option Value}{B newId:String}{mN mD:Str->Option Value}{name:Str}
structure Two (h:Heap)(C N D:Addr)(mN mD:Str->Option Value)(bmB:List Value)(newId:String):Prop where
 cls:∃nm q bs sn sub ab col dd k0 k1 k2 k3 k5,h.get? C=some (YcP nm q C N bs (.ref D::bmB) true sn sub ab col dd k0 k1 k2 k3 k5 newId)
 ns:h.Ns N mN
 low:∃c0 dd cd sl,h.get? D=some { cls:=c0,dict:=dd,data:=.cls cd,slots:=sl }/\h.Ns cd.ns mD
theorem Two.keeps  {h':Heap}(T:Two h C N D mN mD bmB newId)(k:∀b o,h.get? b=some o->h'.get? b=some o):Two h' C N D mN mD bmB newId:=by
 obtain⟨⟨nm,q,bs,sn,sub,ab,col,dd,k0,k1,k2,k3,k5,e⟩,n,c0,dd',cd,sl,e2,n2⟩:=T;exact⟨⟨nm,q,bs,sn,sub,ab,col,dd,k0,k1,k2,k3,k5,k _ _ e⟩,n.keeps k,c0,dd',cd,sl,k _ _ e2,n2.keeps k⟩
theorem Two.look    (T:Two h C N D mN mD bmB newId)(hB:YaU (.type B) name=pure y)(hm:mroOf (.type B)=pure bmB)(hN:mN name=none)(hD:mD name=none)(hq:Q y ⟨h,g,d,t,os⟩) :
  wpAny M A (YaU (.ref C) name) Q E ⟨h,g,d,t,os⟩:=by
 obtain⟨⟨nm,q,bs,sn,sub,ab,col,dd,k0,k1,k2,k3,k5,e⟩,n,c0,dd',cd,sl,e2,n2⟩:=T;have hr:lookupAlong bmB name=pure y:=by rw[Yfi,hm]at hB;exact hB
 rw[Yfi];refine Yac (YeI e ?_);rw[Yev];refine Yac (wpAny_classOwn_exc e n ?_);rw[hN];show wpAny M A (lookupAlong (.ref D::bmB) name) Q E _;rw[Yev];refine Yac (wpAny_classOwn_cls e2 n2 ?_);rw[hD];show wpAny M A (lookupAlong bmB name) Q E _;rw[hr];exact Yal hq
theorem Two.own    (T:Two h C N D mN mD bmB newId)(hN:mN name=some v)(hq:Q (some v) ⟨h,g,d,t,os⟩):wpAny M A (YaU (.ref C) name) Q E ⟨h,g,d,t,os⟩:=by
 obtain⟨⟨nm,q,bs,sn,sub,ab,col,dd,k0,k1,k2,k3,k5,e⟩,n,_⟩:=T;rw[Yfi];refine Yac (YeI e ?_);rw[Yev];refine Yac (wpAny_classOwn_exc e n ?_);rw[hN];exact Yal hq
end
section
variable {prog:Program}{w:World}{A:Around}{E:Value->Shared->Prop}{h:Heap}{g:Array GenState}{d:Drawn}{t:Nat}{os:OsState}
variable {C N D x:Addr}{bmB:List Value}{B newId sa owner:String}{mN mD mA:Str->Option Value}{name:Str}{v:Value}
theorem Two.check      (T:Two h C N D mN mD bmB newId)(SF:Yc7 B bmB sa owner)(hx:h.get? x=some o)(hc:o.cls=.ref C)(hq:Q () ⟨h,g,d,t,os⟩) :
  wpAny M A (Ydc sa ⟨[.ref x,nameV,v],[]⟩) Q E ⟨h,g,d,t,os⟩:=by
 obtain⟨⟨nm,q,bs,sn,sub,ab,col,dd,k0,k1,k2,k3,k5,e⟩,_⟩:=T;have hb:(YaP C::.ref D::bmB).contains (.type owner)=true:=by rw[Ybq,Ybq,SF.hasOwner,Ycs,Ycs]
 have fin:wpAny M A (match YeD sa with|some sig=>Bind.checkArgs sa sig ⟨[.ref x,nameV,v],[]⟩|_=>pure ()) Q E ⟨h,g,d,t,os⟩:=by
  have ok:=SF.args (.ref x) nameV v;unfold argsOk at ok;generalize YeD sa=z at ok ⊢;cases z with
  |some sig=>exact wpAny_of_eq ok hq
  |none=>exact Yal hq
 unfold Ydc;rw[SF.kind,SF.split];refine Yac (m:=Ye9 _ _) ?_;unfold Ye9
 repeat (first|(with_reducible refine Yao hx ?_;rw[hc])|(with_reducible refine YbQ e ?_;rw[hb])|wp_step)
 exact fin
theorem Two.tail  (T:Two h C N D mN mD bmB newId)(hD:mD "__init__" = none):OwnTail h bmB (.ref D::bmB):=by
 obtain⟨_,_,c0,dd',cd,sl,e2,n2⟩:=T;exact .own e2 n2 hD .base
theorem Two.made   {rest:List Value}{Q:Fin->Shared->Prop}(T:Two h C N D mN mD bmB newId)(F:Yer B newId initId bmB)(hD:mD "__init__" = none)(hi:mN "__init__" = some (.ref fI))(hfI:h.get? fI=some oI)(hfc:oI.cls=.type "function")(hr:rest.length<=Yag)
  (hq:∀h' e,Heap.MadeExcOf h h' e (.ref C) rest->h.objs.size<=e->wpAny (model prog w) A (call (.ref fI) (.ref e::rest)) (λr s'=>r=.none/\Q (.done (.ret (.ref e))) s') E ⟨h',g,d,t,os⟩) :
  wpAny (model prog w) A (Builtin.«type.__call__» ⟨.ref C::rest,[]⟩) Q E ⟨h,g,d,t,os⟩:=by
 have tl:=T.tail hD;obtain⟨nm,q,bs,sn,sub,ab,col,dd,k0,k1,k2,k3,k5,e⟩:=T.cls
 repeat (first|with_reducible refine Yao e ?_|with_reducible refine wpAny_madeBy_exc e ?_|wp_step)
 refine codeAny_call_builtin_code (Yfz _ F.quiet) (wpAny_check_new_subT F tl e (codeAny_exc_new_subT F tl e ?_ hr));show wpAny _ _ _ _ _ _;generalize hh:(h.push { cls:=.type "tuple",data:=.seq rest.toArray }).push { cls:=.ref C,data:=.fields #[.ref h.objs.size,.none,.none,.none,.bool false,.none] }=h1;have k:∀b o,h.get? b=some o->h1.get? b=some o:=λb o z=>by rw[<- hh];exact Yad _ (Yad _ z)
 have T1:=T.keeps k;have g1:h1.get? (h.objs.size+1)=some { cls:=.ref C,data:=.fields #[.ref h.objs.size,.none,.none,.none,.bool false,.none] }:=by rw[<- hh];heap_get
 have g2:h1.get? h.objs.size=some { cls:=.type "tuple",data:=.seq rest.toArray }:=by rw[<- hh];exact Yad _ (YfI rfl rfl)
 have hc:(YaP C::.ref D::bmB).contains (.ref C)=true:=by simp
 have e1:=k _ _ e;unfold Ye9
 repeat (first|with_reducible refine Yao g1 ?_|(with_reducible refine YbQ e1 ?_;rw[hc])|wp_step)
 show wpAny _ _ (YaU (.ref C) _) _ _ _;refine T1.own hi ?_;refine Yb8 (Yac ?_);unfold bindSpecial;refine Yac (Ydr (T := "function") ⟨_,k _ _ hfI,hfc⟩ ?_);rw[if_pos (by decide)]
 refine Yal (Yac (YaL (hq _ (h.objs.size+1) ⟨k,Ydf (Yft _),h.objs.size,g1,Ydf (Yae _),g2⟩ (Yft _)) (λr s' z=>?_) λ_ _ z=>z));obtain⟨rfl,z⟩:=z
 wp_walk
 exact z
theorem Two.make   {rest:List Value}{Q:Value->Shared->Prop}(T:Two h C N D mN mD bmB newId)(F:Yer B newId initId bmB)(hD:mD "__init__" = none)(hi:mN "__init__" = some (.ref fI))(hfI:h.get? fI=some oI)(hfc:oI.cls=.type "function")(hr:rest.length<=Yag)
  (hq:∀h' e,Heap.MadeExcOf h h' e (.ref C) rest->h.objs.size<=e->wpAny (model prog w) (A.under (.builtin "type.__call__" ⟨.ref C::rest,[]⟩)) (call (.ref fI) (.ref e::rest)) (λr s'=>r=.none/\Q (.ref e) s') E ⟨h',g,d,t,os⟩) :
  wpAny (model prog w) A (call (.ref C) rest) Q E ⟨h,g,d,t,os⟩:=by
 obtain⟨nm,q,bs,sn,sub,ab,col,dd,k0,k1,k2,k3,k5,e⟩:=T.cls;have f1:=tc_lookup;have f2:=tc_bind (.ref C);have ty:(⟨h,g,d,t,os⟩:Shared).TypeIs (.ref C) "type" := ⟨_,e,rfl⟩;refine Yee (codeAny_of_tree ?_);show wpAny _ _ (callAny (.ref C) _) _ _ _
 repeat (any_goals (first|assumption|with_reducible refine Yao e ?_|wp_step))
 refine⟨rfl,codeAny_call_builtin_at (Yfz _ (by decide +kernel)) entry_typeCall (wpAny_check_type_call_sub e (T.made (hr:=hr) F hD hi hfI hfc λh' e' hm hz=>?_))⟩
 exact hq h' e' hm hz
structure Reads (B:String)(bmB:List Value):Prop where
 ga:Slot B "__getattribute__" "BaseException.__getattribute__"
 mro:mroOf (.type B)=pure bmB
 no:YaU (.type B) "__getattr__" = pure none
 has:bmB.contains (.type "BaseException")=true
theorem Two.gaCheck      (T:Two h C N D mN mD bmB newId)(R:Reads B bmB)(hx:h.get? x=some o)(hc:o.cls=.ref C)(hq:Q () ⟨h,g,d,t,os⟩) :
  wpAny M A (Ydc "BaseException.__getattribute__" ⟨[.ref x,nameV],[]⟩) Q E ⟨h,g,d,t,os⟩:=by
 obtain⟨nm,q,bs,sn,sub,ab,col,dd,k0,k1,k2,k3,k5,e⟩:=T.cls;have c1:builtinKind "BaseException.__getattribute__" = some .slot:=by decide +kernel
 have c2:splitId "BaseException.__getattribute__" = some ("BaseException", "__getattribute__"):=by decide +kernel
 have hb:(YaP C::.ref D::bmB).contains (.type "BaseException")=true:=by rw[Ybq,Ybq,R.has,Ycs,Ycs]
 have ha:=F.args_bexc_ga (.ref x) nameV;simp only[Ydc,c1,c2];refine Yac ?_;unfold Ye9
 repeat (first|(with_reducible refine Yao hx ?_;rw[hc])|(with_reducible refine YbQ e ?_;rw[hb])|wp_step)
 exact hq
theorem Two.gaEntry      (T:Two h C N D mN mD bmB newId)(R:Reads B bmB)(hx:h.get? x=some o)(hc:o.cls=.ref C)(hnc:∀c,o.data≠.cls c)(hd:o.dict=some dx)(hns:h.Ns dx mA)(hv:mA name=some v)
  (hB:YaU (.type B) name=pure none) (n1:mN name=none) (n2:mD name=none) (hq:Q (.done (.ret v)) ⟨h,g,d,t,os⟩) :
  wpAny (model prog w) A (Builtin.«object.__getattribute__» ⟨[.ref x,.str name tk],[]⟩) Q E ⟨h,g,d,t,os⟩:=by
 obtain⟨nm,q,bs,sn,sub,ab,col,dd,k0,k1,k2,k3,k5,e⟩:=T.cls;unfold Builtin.«object.__getattribute__»
 repeat (first|(with_reducible refine Yao hx ?_;rw[hc])|(with_reducible refine T.look hB R.mro n1 n2 ?_)|wp_step)
 split
 ·rename_i c z;exact absurd z (hnc c)
 unfold instanceDict
 repeat (first|(with_reducible refine Yao hx ?_;rw[hc])|with_reducible refine Yao e ?_|wp_step)
 rw[hd]
 repeat (first|(with_reducible refine wpAny_nsGet hns ?_;rw[hv])|wp_step)
 exact hq
theorem Two.get      (T:Two h C N D mN mD bmB newId)(R:Reads B bmB)(hx:h.get? x=some o)(hc:o.cls=.ref C)(hnc:∀c,o.data≠.cls c)(hd:o.dict=some dx)(hns:h.Ns dx mA)(hv:mA name=some v)(hh:handedOut v=pure v)
  (hB:YaU (.type B) name=pure none) (g1:mN "__getattribute__" = none) (g2:mD "__getattribute__" = none) (a1:mN "__getattr__" = none) (a2:mD "__getattr__" = none) (n1:mN name=none) (n2:mD name=none) (hq:Q v ⟨h,g,d,t+1,os⟩) :
  wpAny (model prog w) A (getAttr (.ref x) name expr) Q E ⟨h,g,d,t,os⟩:=by
 have f3:=R.ga.bind (.ref x);have c0:(expr&&onTheHeap (YcX "BaseException.__getattribute__"))=false:=by cases expr<;>rfl
 have c2:(YcX "BaseException.__getattribute__" == YcX "object.__getattribute__")=false:=by decide +kernel
 have c1:(onTheHeap (YaP C)&&YcX "BaseException.__getattribute__" == YcX "object.__getattribute__")=false:=by rw[c2];rfl
 unfold getAttr
 repeat (any_goals (first|assumption|(with_reducible refine Yao hx ?_;rw[hc])|(with_reducible refine T.look R.ga.lookup R.mro g1 g2 ?_)|(with_reducible refine T.look R.no R.mro a1 a2 ?_)|wp_step))
 refine YdD R.ga.plain F.entry_bexc_ga (T.gaCheck R hx hc (T.gaEntry R hx hc hnc hd hns hv hB n1 n2 ?_))
 repeat (any_goals (first|assumption|wp_step))
 all_goals first|exact hq|(rw[hh];exact Yal hq)|skip
theorem jfI {M:Model}{s:Shared}{dx:Addr}{tk:Tok}{mB:Str->Option Value}{ns:List Str}{Q:Fin->Shared->Prop}(n1:s.heap.Ns1 dx mB)(hw:Within mB ns)(hl:ns.length<Yag)
  (hq:∀h' tk',h'.Ns1 dx (λy=>if y=name then some v else mB y)->YdN dx s.heap h'->Q (.done (.ret .none)) { s with heap:=h',toks:=tk' }) :
  wpAny M A (storeInDict dx (.str name tk) name v) Q E s:=by
 refine Yac (m:=newKeyGuard _ _ _) (Yal (Yac (wpAny_nsSet1 n1 λh' n2 sb=>?_)));rcases n2.count (Within.cons name v hw)with⟨o,es,ep,ho,hd,le⟩;have room:es.size<=Yag:=Yaf le (by rw[YbL];exact hl)
 refine Yac (wpAny_lookBehind ho (hd ▸ pastItsLine_dict (Nat.le_succ_of_le room)) ?_);exact Yal (hq h' _ n2 sb)
theorem Two.put     {ns:List Str}(T:Two h C N D mN mD bmB newId)(SF:Yc7 B bmB sa owner)(n1:mN name=none)(n2:mD name=none)(hB:YaU (.type B) name=pure none)(hx:h.get? x=some o)(hc:o.cls=.ref C)(hnc:∀c,o.data≠.cls c)
  (hd:(o.dict=none/\∀n,mA n=none)\/∃dx,o.dict=some dx/\dx≠x/\h.Ns1 dx mA) (hw:Within mA ns) (hl:ns.length<Yag)
  (hq:∀h' tk' dx,(o.dict=some dx\/(o.dict=none/\dx=h.objs.size))->dx≠x->h'.get? x=some { o with dict:=some dx }->h'.Ns1 dx (λy=>if y=name then some v else mA y)->(∀b u,b≠x->b≠dx->h.get? b=some u->h'.get? b=some u)->Q (.done (.ret .none)) ⟨h',g,d,tk',os⟩) :
  wpAny (model prog w) A (Builtin.«object.__setattr__» ⟨[.ref x,.str name tk,v],[]⟩) Q E ⟨h,g,d,t,os⟩:=by
 obtain⟨nm,q,bs,sn,sub,ab,col,dd,k0,k1,k2,k3,k5,e⟩:=T.cls;have ps:=SF.passes (.ref x);unfold Builtin.«object.__setattr__»
 repeat (first|rw[refuse_eq]|(rw[refuseLoop_ref,refuseLoop_ref,ps])|(with_reducible refine Yao hx ?_;rw[hc])|with_reducible refine YeI e ?_|(with_reducible refine T.look hB SF.mro n1 n2 ?_)|with_reducible refine Yao e ?_|wp_step)
 rcases hd with⟨dn,ma⟩|⟨dx,de,dne,dns⟩
 ·rw[dn,if_neg (by simp[typeHasDict])]
  split
  ·rename_i z;cases z
  split
  ·rename_i c z;exact absurd z (hnc c)
  ·have xs:x≠h.objs.size:=YaR (Yam hx);have x1:=Yad { cls:=.type "dict",data:=.dict #[] } hx;refine Yac (wpAny_alloc' (Yac (wpAny_update' x1 (Yal ?_))));have fr:({ cls:=o.cls,dict:=some h.objs.size,data:=o.data,slots:=o.slots }:Obj).isFreed=false:=by
    have:=(Heap.get?_some_iff.mp hx).2;obtain⟨c1,c2,c3,c4⟩:=o;cases c3<;>first|rfl|exact this
   have x2:=Ycr (λo=>({ cls:=o.cls,dict:=some h.objs.size,data:=o.data,slots:=o.slots }:Obj)) x1 fr;have d2:((h.push { cls:=.type "dict",data:=.dict #[] }).update x λo=>{ cls:=o.cls,dict:=some h.objs.size,data:=o.data,slots:=o.slots }).get? h.objs.size=some { cls:=.type "dict",data:=.dict #[] }:=(Yfg _ _ _ _ xs.symm).trans (YfI rfl rfl);have k2:∀b u,b≠x->h.get? b=some u->((h.push { cls:=.type "dict",data:=.dict #[] }).update x λo=>{ cls:=o.cls,dict:=some h.objs.size,data:=o.data,slots:=o.slots }).get? b=some u:=λb u z e=>(Yfg _ _ _ _ z).trans (Yad _ e);generalize ((h.push { cls:=.type "dict",data:=.dict #[] }).update x λo=>{ cls:=o.cls,dict:=some h.objs.size,data:=o.data,slots:=o.slots })=h2 at x2 d2 k2 ⊢;have nd:h2.Ns h.objs.size (λ_=>none):=⟨_,#[],_,d2,rfl,λe he=>absurd he (by simp),λ_=>rfl⟩
   refine jfI (Heap.Ns1.of_empty nd) Within.nil (Nat.zero_lt_of_lt hl) λh' tk' hn' hs=>?_;refine hq h' tk' h.objs.size (.inr ⟨dn,rfl⟩) xs.symm ((hs.2 x xs).trans x2) ?_ λb u z1 z2 z=>(hs.2 b z2).trans (k2 b u z1 z);obtain⟨o',es,ep,e1,e2,e3,eu,e4⟩:=hn';exact⟨o',es,ep,e1,e2,e3,eu,λy=>by rw[e4 y];by_cases hy:y=name<;>simp[hy,ma]⟩
 ·rw[de];refine Yal (jfI dns hw hl λh' tk' hn' hs=>?_);refine hq h' tk' dx (.inl de) dne ?_ hn' λb u z1 z2 z=>(hs.2 b z2).trans z;rw[hs.2 x dne.symm,hx,<- de]
theorem Two.set    {ns:List Str}(T:Two h C N D mN mD bmB newId)(SF:Yc7 B bmB sa owner)(s1:mN "__setattr__" = none)(s2:mD "__setattr__" = none)(n1:mN name=none)(n2:mD name=none)(hB:YaU (.type B) name=pure none)(hx:h.get? x=some o)(hc:o.cls=.ref C)(hnc:∀c,o.data≠.cls c)
  (hd:(o.dict=none/\∀n,mA n=none)\/∃dx,o.dict=some dx/\dx≠x/\h.Ns1 dx mA) (hw:Within mA ns) (hl:ns.length<Yag)
  (hq:∀h' tk' dx,(o.dict=some dx\/(o.dict=none/\dx=h.objs.size))->dx≠x->h'.get? x=some { o with dict:=some dx }->h'.Ns1 dx (λy=>if y=name then some v else mA y)->(∀b u,b≠x->b≠dx->h.get? b=some u->h'.get? b=some u)->Q () ⟨h',g,d,tk',os⟩) :
  wpAny (model prog w) A (setAttr (.ref x) name v) Q E ⟨h,g,d,t,os⟩:=by
 have f3:=SF.slot.bind (.ref x);unfold setAttr callSpecial? specialOf
 repeat (any_goals (first|assumption|(with_reducible refine Yao hx ?_;rw[hc])|(with_reducible refine T.look SF.slot.lookup SF.mro s1 s2 ?_)|wp_step))
 refine YdD SF.slot.plain SF.entry (T.check SF hx hc (T.put SF n1 n2 hB hx hc hnc hd hw hl λh' tk' dx z1 z2 z3 z4 z5=>?_))
 repeat (any_goals (first|assumption|wp_step))
 exact hq h' tk' dx z1 z2 z3 z4 z5
end
theorem jbH  : Reads "ValueError" [.type "ValueError",.type "Exception",.type "BaseException",.type "object"] where
 ga:=.of (owner := "BaseException") (n := "__getattribute__") (by rw[Ycn,Yby];kernel_rfl) (by decide +kernel) (by decide +kernel) (by decide +kernel)
  (by first|exact .inl (by decide +kernel)|exact .inr (by decide +kernel)) (by rw[isSubtype_type];kernel_rfl)
 mro:=by kernel_rfl
 no:=by rw[Ycn,Yby];kernel_rfl
 has:=by decide

theorem Inv.sooner  {σ: St}(I:Inv X pins σ H s)(k:∀b o,sb.heap.get? b=some o->X.s₀.heap.get? b=some o)(ho:sb.os=X.s₀.os)(hz:sb.heap.objs.size<=X.s₀.heap.objs.size)(hb:∀b o,X.base.get? b=some o->sb.heap.get? b=some o/\X.H₀ b=none)(hbz:X.base.objs.size<=sb.heap.objs.size)(hf:sb.heap.FunFrames X.base X.outer) :
  Inv { X with s₀:=sb } pins σ H s:=by
 refine⟨⟨I.ok.mod,I.ok.kind,I.ok.glob,I.ok.blt,Yaf hz I.ok.above,I.ok.inj,I.ok.has,λx c h e=>Yaf hz (I.ok.cab x c h e),I.ok.hd,I.ok.frames,I.ok.stk,I.ok.exf,hb,hbz,I.ok.noex,I.ok.exfs,hf,I.ok.frf⟩,I.os.trans ho.symm,I.bare,(Un.kept k).trans I.base,I.loc,I.cell,I.free,I.freeC,I.pin,I.hok,I.len⟩
theorem Inv.xput  {σ: St}{e dx:Addr}(I:Inv X pins σ H s)(hH:H e=none)(hlo:X.s₀.heap.objs.size<=e)(ge:s.heap.get? e=some oe)(gd:oe.data=.fields vs)(hp:∀p∈X.pn++pins,p.1≠e)
  (hdx:s.heap.objs.size<=dx\/∃fs0,H dx=some (.xd fs0)) (k:∀b u,b≠e->b≠dx->s.heap.get? b=some u->h'.get? b=some u) (new:jaE X.prog X.w (upd H dx (.xd fs)) h' dx (.xd fs)):Inv X pins σ (upd H dx (.xd fs)) { s with heap:=h',toks:=t' }:=by
 have nt:∀b o,s.heap.get? b=some o->H b=none->b≠dx:=λb o g n z=>by
  rcases hdx with q|⟨fs0,q⟩
  ·rw[z]at g;exact absurd (Yam g) (Nat.not_lt.mpr q)
  ·rw[z,q]at n;cases n
 have ne:∀b u,H b=some u->b≠e:=λb u g z=>by rw[z,hH]at g;cases g
 have nx:∀b u,H b=some u->(∀f0,u≠.xd f0)->b≠dx:=λb u g hu z=>by
  rcases hdx with q|⟨fs0,q⟩
  ·rw[z,I.hok.fresh q]at g;cases g
  ·rw[z,q]at g;cases g;exact hu fs0 rfl
 obtain⟨od,god⟩:∃o,h'.get? dx=some o:=by obtain⟨_,⟨o,_,_,z,_⟩,_⟩:=new;exact⟨o,z⟩
 obtain⟨m0,⟨oL,esL,epL,gL,rL⟩,hLk⟩:=id I.loc;have hLe:X.env.locals≠e:=λz=>by
  rw[z,ge]at gL;cases gL;have:=rL.1;rw[gd]at this;cases this
 refine I.step (g':=s.gens) (d':=s.drawn) (ch:=[e]) (λb hb=>?_) (λb o _ _ hc g n=>k b o (λz=>hc (by simp[z])) (nt b o g n) g) (λb o _ _ hc g n=>⟨o.slots,k b o (λz=>hc (by simp[z])) (nt b o g n) g⟩) (λb o _ g n=>by rw[jae (nt b o g n)];exact n)
  (λb o hc g=>?_) (λb ys g=>by rw[jae (nx b _ g λ_ z=>nomatch z)];exact g) (λb o u g=>by rw[jae (nx b _ g λ_ z=>nomatch z)];exact g) (λb ps g=>⟨#[],by rw[jae (nx b _ g λ_ z=>nomatch z),g];simp⟩) (λm hm=>?_) (λa o g=>?_) I.bare
 ·have z:b=e:=by simpa using hb
  subst z;refine⟨.inr hlo,Ne.symm hLe,λx c q z=>?_,hp⟩;obtain⟨v,o',ho,hc⟩:=I.cell x c q;rw[z,ge]at ho;cases ho;rw[gd]at hc;cases hc
 ·by_cases z:b=dx
  ·exact⟨od,z ▸ god⟩
  ·exact⟨o,k b o (λz=>hc (by simp[z])) z g⟩
 ·obtain⟨o,es,ep,ho,r⟩:=hm;exact⟨o,es,ep,k _ o hLe (nt _ o ho I.free) ho,r⟩
 ·by_cases z:a=dx
  ·subst z;rw[jah]at g;cases g;exact new
  ·rw[jae z]at g;refine(I.hok a o g).stay (λb v hb q=>?_) (λb q=>by rw[jae (nx b _ q λ_ z=>nomatch z)];exact q) λb ys q=>by rw[jae (nx b _ q λ_ z=>nomatch z)];exact q
   rcases hb with z'|z'
   ·subst z';exact k b v (ne b _ g) z q
   ·exact k b v (ne b _ z') (nx b _ z' λ_ z=>nomatch z) q
theorem jfD   : ∀{fs:List (Str×V)},g∉fs.map (·.1)->fs.lookup g=none
 |[],_=>rfl
 |(a,v)::r,h=>by
  rw[YaT];have:(g==a)=false:=by
   rw[beq_eq_false_iff_ne];exact λz=>h (by rw[z];simp)
  rw[this];exact jfD λz=>h (by simp at z ⊢;exact .inr z)
theorem xset  {σ: St}(I:Inv X pins σ H s)(T:Two s.heap C N D mN mD bmB newId)(SF:Yc7 B bmB sa owner)
  (s1:mN "__setattr__" = none) (s2:mD "__setattr__" = none) (n1:mN f=none) (n2:mD f=none) (hB:YaU (.type B) f=pure none) (hH:H e=none) (hlo:X.s₀.heap.objs.size<=e) (ge:s.heap.get? e=some oe) (hc:oe.cls=.ref C) (gd:oe.data=.fields vs) (hp:∀p∈X.pn++pins,p.1≠e)
  (hd:(oe.dict=none/\fs=[])\/∃dx,oe.dict=some dx/\H dx=some (.xd fs)) (hl:fs.length<1000) (ru:RelV v u)
  (q:∀s' dx,Inv X pins σ (upd H dx (.xd (putF f v fs))) s'->s'.heap.get? e=some { oe with dict:=some dx }->(∀b u,b≠e->b≠dx->s.heap.get? b=some u->s'.heap.get? b=some u)->(oe.dict=some dx\/(oe.dict=none/\H dx=none))->Q () s') :
  wpAny (model X.prog X.w) A (setAttr (.ref e) f u) Q E s:=by
 have nc:∀c,oe.data≠.cls c:=λc z=>by rw[gd]at z;cases z
 have fin:∀(mA:Str->Option Value) (h':Heap) (tk:Nat) (dx:Addr),(∀g,RelO (fs.lookup g) (mA g))->(s.heap.objs.size<=dx\/∃fs0,H dx=some (.xd fs0))->(oe.dict=some dx\/(oe.dict=none/\H dx=none))->h'.get? e=some { oe with dict:=some dx }->h'.Ns1 dx (λy=>if y=f then some u else mA y)->(∀b u,b≠e->b≠dx->s.heap.get? b=some u->h'.get? b=some u)->Q () { s with heap:=h',toks:=tk }:=λmA h' tk dx r z0 z1 z2 z3 z4=>by
  refine q _ dx (I.xput hH hlo ge gd hp z0 z4 ⟨_,z3,λg=>?_⟩) z2 z4 z1;rw[jd5];by_cases hg:g=f
  ·rw[if_pos hg,if_pos hg];exact ru
  ·rw[if_neg hg,if_neg hg];exact r g
 obtain⟨hh,gg,dr,tk,os⟩:=s;rcases hd with⟨dn,rfl⟩|⟨dx,de,hx⟩
 ·refine T.set (mA:=λ_=>none) (ns:=[]) SF s1 s2 n1 n2 hB ge hc nc (.inl ⟨dn,λ_=>rfl⟩) Within.nil (by rw[YbS];decide) λh' tk' dx z1 z2 z3 z4 z5=>?_
  rcases z1 with z1|⟨_,rfl⟩
  ·rw[dn]at z1;cases z1
  ·exact fin (λ_=>none) h' tk' _ (λg=>YbN) (.inl (Yae _)) (.inr ⟨dn,I.hok.fresh (Yae _)⟩) z3 z4 z5
 ·obtain⟨mA,n,r⟩:=(show jaE X.prog X.w H hh dx (.xd fs)from I.hok dx _ hx);refine T.set (mA:=mA) (ns:=fs.map (·.1)) SF s1 s2 n1 n2 hB ge hc nc (.inr ⟨dx,de,λz=>(by rw[z,hH]at hx;cases hx),n⟩) (λg hg=>?_) (by rw[Yaj,YbS];lia) λh' tk' dx' z1 z2 z3 z4 z5=>?_
  ·refine Classical.byContradiction λz=>hg ?_;have:=r g;rw[jfD z]at this;exact RelO.none_of this
  ·rcases z1 with z1|⟨z1,_⟩
   ·have z:dx'=dx:=by rw[de]at z1;exact(Yar z1).symm
    subst z;exact fin _ h' tk' _ r (.inr ⟨fs,hx⟩) (.inl de) z3 z4 z5
   ·rw[de]at z1;cases z1
theorem xstep  {σ: St}{C N D e:Addr}{f self a:Str}{v:V}{vs:Array Value}{i j:Nat}(I:Inv X [(e,oe)] σ H s)(hpn:X.pn=[])(T:Two X.base C N D mN mD bmB newId)(SF:Yc7 B bmB sa owner)
  (s1:mN "__setattr__" = none) (s2:mD "__setattr__" = none) (n1:mN f=none) (n2:mD f=none) (hB:YaU (.type B) f=pure none) (hlo:X.s₀.heap.objs.size<=e) (hc:oe.cls=.ref C) (gd:oe.data=.fields vs) (hd:(oe.dict=none/\fs=[])\/∃dx,oe.dict=some dx/\H dx=some (.xd fs)) (hl:fs.length<1000)
  (hs:PE X (.Name self p1) (tVar i)) (ha:PE X (.Name a p3) (tVar j)) (hi:σ[i]?=some (some (.ref e))) (hj:σ[j]?=some (some v)) (hsw:Ycd (.Name a p3) (some (.Attribute (.Name self p1) f p2)) pos.line X.env=pure false)
  (q:∀s' dx,Inv X [(e,{ oe with dict:=some dx })] σ (upd H dx (.xd (putF f v fs))) s'->(oe.dict=some dx\/(oe.dict=none/\H dx=none))->Q .next s') :
  wpAny (model X.prog X.w) X.A (exec (.Assign [.Attribute (.Name self p1) f p2] (.Name a p3) pos) X.env) Q X.xe s:=by
 refine plainObj_wpAny_Assign_Attribute (thn (ha _ s σ H (λy H1=>y=v/\H1=H) I ⟨v,hj,rfl,rfl⟩) λu s3 ⟨y,H1,I1,ry,hy,hH1⟩=>?_) hsw;subst hy;subst hH1;refine thn (hs _ s3 σ H1 (λz H2=>z=.ref e/\H2=H1) I1 ⟨_,hi,rfl,rfl⟩) λov s4 ⟨z,H2,I2,rz,hz,hH2⟩=>?_;subst hz;subst hH2;obtain rfl:ov=YaP e:=rz;obtain⟨ge,hH,hL,hfs,hcl⟩:=I2.pin (e,oe) (by simp)
 have J:Inv X [] σ H2 s4:=I2.pins_of λp hp=>absurd hp (by simp)
 refine xset J (T.keeps I2.bk) SF s1 s2 n1 n2 hB hH hlo ge hc gd (λp hp=>by rw[hpn]at hp;simp at hp) hd hl ry λs5 dx J5 g5 k5 z5=>?_
 refine q s5 dx (J5.pins_of λp hp=>?_) z5;obtain rfl:p=(e,{ oe with dict:=some dx }):=by simpa using hp
 refine⟨g5,?_,hL,hfs,λv z=>hcl v z⟩;show upd H2 dx _ e=none;rw[jae,hH];rintro rfl;rcases z5 with z5|z5
 ·rcases hd with⟨w0,_⟩|⟨dx',w1,w2⟩
  ·rw[w0]at z5;cases z5
  ·rw[w1]at z5;cases z5;rw[hH]at w2;cases w2
 ·have:=J5.free;obtain⟨_,_,_⟩:=J5.hok e _ jah;rename_i mA n r;obtain⟨o',es,ep,g',d',_⟩:=n;rw[g5]at g';cases g';rw[show({ oe with dict:=some e }:Obj).data=oe.data from rfl,gd]at d';cases d'
theorem jj7 {CX:CXT}{P:Program}{w:World}{K:Yab}{mg:Str->Option Value}{base:Heap}{k:Nat}{f:Addr}{name qual:Str}{params:YfW}{body:List Stmt}{scope:Scope}{dV kV doc pm cdv ct oc:Value}{an od:Option Addr}{osl:Array (Option Value)}{N ps:List Str}
  {A:Around} {outer:List Env} {s sb:Shared} {H:Hp} {E:XK} {args:Args} {us:List Value} {vs:List V} {e:Addr} {oe:Obj} {R:Result->Shared->Prop}
  (lk:K.lookup f=some ⟨oc,od,.func (Ya2 name qual params body scope dV kV doc pm an cdv ct),osl⟩) (hcd:Ybo K cdv qual=true) (S:FnScope N ps scope) (hr:Room (k+1) A) (e0:Env0 P w K mg base A outer s H)
  (hb:BindsTo s (Ya2 name qual params body scope dV kV doc pm an cdv ct) args (ps.zip us)) (r:Vals vs us) (hl:vs.length=ps.length) (ge:s.heap.get? e=some oe) (hH:H e=none) (hnc:∀v,oe.data≠.cell v) (hfr:e∉frs outer)
  (kb:∀b o,sb.heap.get? b=some o->s.heap.get? b=some o) (hos:sb.os=s.os) (hz:sb.heap.objs.size<=s.heap.objs.size) (hbs:∀b o,base.get? b=some o->sb.heap.get? b=some o/\H b=none) (hbz:base.objs.size<=sb.heap.objs.size) (hfn:sb.heap.FunFrames base outer)
  (hbody:∀s1,Inv { cxOf CX P w K mg base N qual scope f cdv A outer s H E with s₀:=sb } [(e,oe)] (start N vs) H s1->wpAny (model P w) (A.deeper (envOfC qual scope s.heap.objs.size f cdv)) (execs body (envOfC qual scope s.heap.objs.size f cdv)) (λfl s'=>fl=.next/\R (.ok (.ret .none)) s') (λ_ _=>False) s1) :
  codeAny (model P w) A (.call (.ref f) args) R s:=by
 have KX:K.In s.heap:=e0.mod.kin.keeps λb o z=>(e0.bs b o z).1;have lim:s.heap.NoLimit:=e0.mod.nolimit.keeps λb o z=>(e0.bs b o z).1;have kind:∀y∈ps.zip us,scope.names.lookup y.1=some .local\/(scope.names.lookup y.1=some .cell/\((Ya7 (s.heap.objs.size+1) scope.names []).lookup y.1).isSome=true):=λ⟨n,v⟩ hy=>by
  rcases S.par n (Ycf hy).1 with q|q
  ·exact .inl q
  ·exact .inr ⟨q,Yce _ _ _ (.inl q)⟩
 refine Ydt hr.depth (KX _ _ lk) rfl S.co S.gen rfl (Ydh KX hcd) (hb _ _ _ _ ?_);refine YcW S.kind kind λenv he s1 x=>?_;subst he;refine⟨lim.keeps x.toInCall.keep,YfO ?_⟩;have I:Inv (cxOf CX P w K mg base N qual scope f cdv A outer s H E) [] (start N vs) H s1:=jd8 S hr.hd e0 hl r x;have I1:Inv { cxOf CX P w K mg base N qual scope f cdv A outer s H E with s₀:=sb } [] (start N vs) H s1:=I.sooner kb hos hz hbs hbz hfn
 have I2:Inv { cxOf CX P w K mg base N qual scope f cdv A outer s H E with s₀:=sb } [(e,oe)] (start N vs) H s1:=I1.pins_of λp hp=>by
  obtain rfl:p=(e,oe):=by simpa using hp
  exact⟨x.toInCall.keep _ _ ge,hH,YaR (Yam ge),hfr,hnc⟩
 refine YaL (hbody s1 I2) (λfl s' ⟨z,h⟩=>?_) λ_ _ z=>z.elim;subst z;exact h

def jfY  (X:Cx)(C:Addr)(s:Shared)(H:Hp)(Nm:List Str)(qual:Str)(scope:Scope)(fI:Addr)(cdv:Value)(body:List Stmt)(vs:List V)(fs:List (Str×V)):Prop:=
 ∀(A':Around) (sM s1:Shared) (e t:Addr),Inv { cxOf (CX1 X.prog X.w) X.prog X.w X.K X.mg X.base Nm qual scope fI cdv A' X.stack sM H (λ_ _ _=>False)with s₀:=s } [(e,{ cls:=.ref C,data:=.fields #[.ref t,.none,.none,.none,.bool false,.none] })] (start Nm (.ref e::vs)) H s1->s.heap.objs.size<=e->
  wpAny (model X.prog X.w) (A'.deeper (envOfC qual scope sM.heap.objs.size fI cdv)) (execs body (envOfC qual scope sM.heap.objs.size fI cdv)) (λfl s'=>fl=.next/\∃dx,H dx=none/\Inv { cxOf (CX1 X.prog X.w) X.prog X.w X.K X.mg X.base Nm qual scope fI cdv A' X.stack sM H (λ_ _ _=>False)with s₀:=s } [(e,{ cls:=.ref C,dict:=some dx,data:=.fields #[.ref t,.none,.none,.none,.bool false,.none] })] (start Nm (.ref e::vs)) (upd H dx (.xd fs)) s') (λ_ _=>False) s1
theorem xmake  {σ: St}{dV kV doc pm cdv ct:Value} 
  (I:Inv X pins σ H s) (T:Two X.base C N D mN mD bmB newId) (F:Yer B newId initId bmB) (hD:mD "__init__" = none) (hi:mN "__init__" = some (.ref fI)) (lk:X.K.lookup fI=some ⟨.type "function",od,.func (Ya2 name qual params body scope dV kV doc pm an cdv ct),osl⟩) (hcd:Ybo X.K cdv qual=true) (S:FnScope Nm ps scope) (hr:Room (k+2) X.A)
  (hb:Binds X.K (Ya2 name qual params body scope dV kV doc pm an cdv ct) ps []) (r:Vals vs us) (hl:vs.length+1=ps.length) (hz:us.length<=Yag) (hbody:jfY X C s H Nm qual scope fI cdv body vs fs)
  (q:∀e dx s',H dx=none->Inv X pins σ (upd H dx (.xd fs)) s'->Lies X.s₀.heap.objs.size X.pn (upd H dx (.xd fs)) s'.heap e (.ref C) (some dx)->(∃t,s'.heap.get? e=some { cls:=.ref C,dict:=some dx,data:=.fields #[.ref t,.none,.none,.none,.bool false,.none] })->Q (.ref e) s'):wpAny (model X.prog X.w) X.A (call (.ref C) us) Q X.xe s:=by
 obtain⟨hh,gg,dr,tk,os⟩:=s;have I0:=I;refine(T.keeps I.bk).make F hD hi (I.kIn _ _ lk) rfl hz λh' e hm he=>?_;obtain⟨t,ge,_,_⟩:=hm.there;have e0:=I.env0.make C us [];have e1:Env0 X.prog X.w X.K X.mg X.base (X.A.under (.builtin "type.__call__" ⟨.ref C::us,[]⟩)) X.stack ⟨h',gg,dr,tk,os⟩ H:=⟨e0.frames,e0.mod,λb o z=>⟨hm.keeps _ _ (e0.bs b o z).1,(e0.bs b o z).2⟩,Yaf e0.bsz (YbY (Ya0 he (Yam ge))),e0.funs.of_keeps λb o z _=>⟨o,hm.keeps _ _ z,rfl⟩,e0.frf,e0.hok.kept hm.keeps,e0.bare⟩;have hH:H e=none:=I.hok.fresh he;refine Yee ?_;refine jj7 (k:=k) (CX:=CX1 X.prog X.w) (E:=λ_ _ _=>False) (sb:=⟨hh,gg,dr,tk,os⟩) (us:=.ref e::us) (vs:=.ref e::vs) lk hcd S (hr.make C us []) e1 ?_ (.cons rfl r) (by simpa using hl) ge hH (λv z=>by cases z) (λz=>?_) hm.keeps rfl (YbY (Ya0 he (Yam ge))) e0.bs e0.bsz e0.funs λs1 J=>?_
 ·have:=hb ⟨h',gg,dr,tk,os⟩ (.ref e::us) (e1.mod.kin.keeps λb o z=>(e1.bs b o z).1) (by simp;have:=r.length;lia)
  simpa using this
 ·obtain⟨_,o,ho,_⟩:=e0.funs.mem z;exact absurd (Yam ho) (Nat.not_lt.mpr he)
 ·refine YaL (hbody _ _ s1 e t J he) (λfl s' ⟨z,dx,hdx,J'⟩=>⟨z,rfl,?_⟩) λ_ _ z=>z;have Ix:Inv X pins σ (upd H dx (.xd fs)) s':=I.call' (ch:=[]) J'.os J'.base J'.hok J'.bare λb z=>absurd z (by simp)
  obtain⟨g1,g2,_⟩:=J'.pin _ (Yas _ (List.mem_singleton.mpr rfl));refine q e dx s' hdx Ix ⟨⟨_,_,g1,rfl,rfl,rfl,.inl rfl⟩,g2,Yaf I.sz he,λp hp z=>?_⟩ ⟨t,g1⟩;exact absurd (Yam (I.pin p (YaV _ hp)).1) (Nat.not_lt.mpr (z ▸ he))

theorem jpB  {pos: Pos}{v: V}(T:Two X.base C N D mN mD bmB newId)(SF:Yc7 B bmB sa owner)(s1:mN "__setattr__" = none)(s2:mD "__setattr__" = none)(n1:mN f=none)(n2:mD f=none)(hB:YaU (.type B) f=pure none)
  (h0:Vis scope self) (h1:Vis scope a) (d0:(self==("__debug__" : Str))=false) (d1:(a==("__debug__" : Str))=false) (c0:(self==("__classdict__" : Str))=false) (c1:(a==("__classdict__" : Str))=false)
  (sw:∀env,Ycd (.Name a p3) (some (.Attribute (.Name self p1) f p2)) pos.line env=pure false) :
  jfY X C s H [self,a] qual scope fI cdv [.Assign [.Attribute (.Name self p1) f p2] (.Name a p3) pos] [v] [(f,v)]:=by
 intro A' sM s1' e t J he;have J':=J.wish λ_ _=>False;refine YbV (xstep (X:=Cx.wish _ λ_ _=>False) (i:=0) (j:=1) (fs:=[]) J' rfl T SF s1 s2 n1 n2 hB he rfl rfl (.inl ⟨rfl,rfl⟩) (by decide) (jb2 rfl h0 d0 c0) (jb2 rfl h1 d1 c1) rfl rfl (sw _) λs' dx K z=>?_)
 refine Yal ⟨rfl,dx,?_,K.unwish⟩;rcases z with z|z
 ·cases z
 ·exact z.2
theorem jpA  {a2: Str}{scope: Scope}{cdv: Value}{p1: Pos}{p2: Pos}{p3: Pos}{pos: Pos}{q1: Pos}{q2: Pos}{q3: Pos}{qos: Pos}{v: V}{v2: V}(T:Two X.base C N D mN mD bmB newId)(SF:Yc7 B bmB sa owner)(s1:mN "__setattr__" = none)(s2:mD "__setattr__" = none)(n1:mN f=none)(n2:mD f=none)(hB:YaU (.type B) f=pure none)(m1:mN f2=none)(m2:mD f2=none)(hB2:YaU (.type B) f2=pure none)(hne:f≠f2)
  (h0:Vis scope self) (h1:Vis scope a) (h2:Vis scope a2) (d0:(self==("__debug__" : Str))=false) (d1:(a==("__debug__" : Str))=false) (d2:(a2==("__debug__" : Str))=false) (c0:(self==("__classdict__" : Str))=false) (c1:(a==("__classdict__" : Str))=false) (c2:(a2==("__classdict__" : Str))=false)
  (sw:∀env,Ycd (.Name a p3) (some (.Attribute (.Name self p1) f p2)) pos.line env=pure false) (sw2:∀env,Ycd (.Name a2 q3) (some (.Attribute (.Name self q1) f2 q2)) qos.line env=pure false) :
  jfY X C s H [self,a,a2] qual scope fI cdv [.Assign [.Attribute (.Name self p1) f p2] (.Name a p3) pos,.Assign [.Attribute (.Name self q1) f2 q2] (.Name a2 q3) qos] [v,v2] [(f,v),(f2,v2)]:=by
 intro A' sM s1' e t J he;have J':=J.wish λ_ _=>False;refine YbV (xstep (X:=Cx.wish _ λ_ _=>False) (i:=0) (j:=1) (fs:=[]) J' rfl T SF s1 s2 n1 n2 hB he rfl rfl (.inl ⟨rfl,rfl⟩) (by decide) (jb2 rfl h0 d0 c0) (jb2 rfl h1 d1 c1) rfl rfl (sw _) λs' dx K z=>?_)
 have hn:H dx=none:=by
  rcases z with z|z
  ·cases z
  ·exact z.2
 refine YbV (xstep (X:=Cx.wish _ λ_ _=>False) (i:=0) (j:=2) (fs:=[(f,v)]) K rfl T SF s1 s2 m1 m2 hB2 he rfl rfl (.inr ⟨dx,rfl,jah⟩) (by simp) (jb2 rfl h0 d0 c0) (jb2 rfl h2 d2 c2) rfl rfl (sw2 _) λs'' dx' K2 z2=>?_)
 have e1:dx'=dx:=by
  rcases z2 with z2|z2
  ·exact(Yar z2).symm
  ·exact nomatch z2.1
 subst e1;have K3:=K2.unwish;have e2:putF f2 v2 [(f,v)]=[(f,v),(f2,v2)]:=by show(if f=f2 then _ else _)=_;rw[if_neg hne];rfl
 have e3:upd (upd H dx' (.xd (putF f v []))) dx' (.xd (putF f2 v2 [(f,v)]))=upd H dx' (.xd [(f,v),(f2,v2)]):=by
  rw[e2];funext b;by_cases hb:b=dx'
  ·rw[hb,jah,jah]
  ·rw[jae hb,jae hb,jae hb]
 rw[e3]at K3;exact Yal ⟨rfl,dx',hn,K3⟩
section
variable {M:Model}{A:Around}{E:Value->Shared->Prop}{env:Env}{C N D:Addr}{bmB:List Value}{newId:String}{mN mD:Str->Option Value}
theorem Two.raise     (hbase:bmB.contains (.type "BaseException")=true)(hh:A.handled=none)
  (h:wpAny M A x (λv s1=>∃e t dx,v=.ref e/\Two s1.heap C N D mN mD bmB newId/\s1.heap.get? e=some { cls:=.ref C,dict:=some dx,data:=.fields #[.ref t,.none,.none,.none,.bool false,.none] }/\E (.ref e) s1) E s):wpAny M A (raiseStmt env (some x) none) Q E s:=by
 have hb:(YaP C::.ref D::bmB).contains (.type "BaseException")=true:=by rw[Ybq,Ybq,hbase,Ycs,Ycs]
 unfold raiseStmt;refine Yac (YaL h (λv s1 h1=>?_) λ_ _ z=>z);obtain⟨e,t,dx,rfl,T,he,hE⟩:=h1;obtain⟨nm,q,bs,sn,sub,ab,col,dd,k0,k1,k2,k3,k5,hC⟩:=T.cls;obtain⟨hp,g,d,tk,os⟩:=s1
 repeat (first|with_reducible refine Yao he ?_|with_reducible refine Yao hC ?_|(with_reducible refine YbQ hC ?_;rw[hb])|wp_step)
 exact wpAny_raiseNew_none hh hE
end
def jks  (X:Cx)(C:Addr)(n:Nat)(mk:List V->List (Str×V))(t:TA):TS:=λ_ σ H=>t σ H λvs H1=>vs.length=n/\∀(pins:List (Addr×Obj)) (e dx:Addr) (s':Shared),H1 dx=none->Inv X pins σ (upd H1 dx (.xd (mk vs))) s'->Lies X.s₀.heap.objs.size X.pn (upd H1 dx (.xd (mk vs))) s'.heap e (.ref C) (some dx)->X.xe (.ref e) s'
theorem jjJ {X:Cx}{C N D fI:Addr}{bmB:List Value}{B newId initId:String}{mN mD:Str->Option Value}{k:Nat}{name qual x:Str}{params:YfW}{body:List Stmt}{scope:Scope}{dV kV doc pm cdv ct:Value}{an od:Option Addr}{osl:Array (Option Value)}{Nm ps:List Str}{mk:List V->List (Str×V)}{t:TA}{a0:Expr}{as:List Expr}{p cpos pos:Pos}{n:Nat}
  (T:Two X.base C N D mN mD bmB newId) (F:Yer B newId initId bmB) (hD:mD "__init__" = none) (hi:mN "__init__" = some (.ref fI)) (lk:X.K.lookup fI=some ⟨.type "function",od,.func (Ya2 name qual params body scope dV kV doc pm an cdv ct),osl⟩) (hcd:Ybo X.K cdv qual=true) (S:FnScope Nm ps scope) (hr:Room (k+2) X.A)
  (hb:Binds X.K (Ya2 name qual params body scope dV kV doc pm an cdv ct) ps []) (hn:n+1=ps.length) (hn8:n<=8) (hbase:bmB.contains (.type "BaseException")=true) (hg:Gl X x) (hm:X.mg x=some (.ref C)) (hk:Ybg X.K (.ref C)=true) (ha:PA X (a0::as) t) (hbody:∀(vs:List V) (s:Shared) (H:Hp),vs.length=n->jfY X C s H Nm qual scope fI cdv body vs (mk vs))
  (hdb:(x==("__debug__" : Str))=false:=by decide) (he:Yat (a0::as) X.env=(false,eval a0 X.env)::Yat as X.env:=by rfl) (hpl:(backTo cpos (Yat as X.env)).any (·.1)=false:=by rfl) :
  PS X (.Raise (some (.Call (.Name x p) (a0::as) [] cpos)) none pos) (jks X C n mk t):=by
 intro pins s σ H D0 I h;have go:wpAny (model X.prog X.w) X.A (eval (.Call (.Name x p) (a0::as) [] cpos) X.env) (λv s1=>∃e t dx,v=.ref e/\Two s1.heap C N D mN mD bmB newId/\s1.heap.get? e=some { cls:=.ref C,dict:=some dx,data:=.fields #[.ref t,.none,.none,.none,.bool false,.none] }/\X.xe (.ref e) s1) X.xe s:=by
  refine Ybw (jdg I hg hm ?_ hdb);refine Ydi (h₀:=X.base) I.ok.mod.kin hk (thn (ha cpos pins s σ H _ I h) λus s1 ⟨vs,H1,I1,r,hl,q⟩=>⟨I1.kIn,?_⟩) he hpl;refine xmake (k:=k) I1 T F hD hi lk hcd S hr hb r (by lia) (by have:=r.length;rw[YbS,YbA];lia) (hbody vs s1 H1 hl) λe dx s' z1 J l ⟨t',g⟩=>?_
  exact⟨e,t',dx,rfl,T.keeps J.bk,g,q pins e dx s' z1 J l⟩
 rw[arm_exec_Raise]
 first
  |exact Yac (Yb7 (Two.raise hbase hr.hd (Yac (YaL go (λv s1 z=>Yac (Yb7 (Yal z))) λ_ _ z=>z))))
  |(simp only[evalOpt,Yfe];exact Yac (Yb7 (Two.raise hbase hr.hd (Yac (YaL go (λv s1 z=>Yac (Yb7 (Yal z))) λ_ _ z=>z)))))
theorem jiH    {σ:St}(I:Inv X pins σ H s)(hN:X.N.Nodup)(hi:X.N[i]?=some x)(hk:X.env.scope.names.lookup x=some .local)
  (h:∀s',Inv X pins (σ.set i none) H s'->Q () s'):wpAny M A (do YeB X.env x .none;unbindBehindTheSuite X.env x pos) Q E s:=by
 obtain⟨m,hn,hl⟩:=id I.loc;have hcls:(X.env.scope.kind == .class||(X.env.scope.kind == .module&&X.env.locals != X.env.globals))=false:=by rw[I.ok.kind];rfl
 have hiσ:i<σ.length:=by rw[I.len];exact(List.getElem?_eq_some_iff.mp hi).1
 have cne:=I.cne;refine wpAny_nameGoes_keeps hk hn hcls λh' v hn' hs=>?_;have lt0:∀b o,X.s₀.heap.get? b=some o->b≠X.env.locals:=λb o e=>YaR (Yap (Yam e) I.ok.above);have tr:HOk X.prog X.w H h':=λb ob e=>by
  refine(I.hok b ob e).stay (λc w' hc q=>(hs.2 c ?_).trans q) (λ_ q=>q) λ_ _ q=>q;rintro rfl;rcases hc with rfl|hc
  ·rw[I.free]at e;cases e
  ·rw[I.free]at hc;cases hc
 refine h _ ⟨I.ok,I.os,I.bare,⟨λb o e n hb hx=>(hs.2 b (lt0 b o e)).trans (I.base.keep b o e n hb hx),λb o e n hb hx=>?_,I.base.free,λb o e hx=>?_,I.base.tups,I.base.frzs,I.base.tbls⟩,⟨_,hn',λj y v' e1 e2 e3=>?_⟩,λy c e=>?_,I.free,I.freeC,λp hp=>?_,tr,by simpa using I.len⟩
 ·obtain⟨sl,e1⟩:=I.base.slot b o e n hb hx;exact⟨sl,(hs.2 b (lt0 b o e)).trans e1⟩
 ·obtain⟨o',e1⟩:=I.base.there b o e hx;exact⟨o',(hs.2 b (lt0 b o e)).trans e1⟩
 ·by_cases hj:j=i
  ·subst hj;rw[Ybk hiσ]at e2;cases e2
  ·rw[YaW (Ne.symm hj)]at e2;have hy:y≠x:=λz=>hj (jdS hN e1 (z ▸ hi));obtain⟨u,r,l⟩:=hl j y v' e1 e2 e3;refine⟨u,r,l.imp (λz=>⟨z.1,by show(if y=x then v else m y)=some u;rw[if_neg hy];exact z.2⟩) λz=>⟨z.1,?_⟩⟩
   obtain⟨c,ec,o,ho,hd⟩:=z.2;exact⟨c,ec,o,(hs.2 c (cne y c ec)).trans ho,hd⟩
 ·obtain⟨w',o,ho,hd⟩:=I.cell y c e;exact⟨w',o,(hs.2 c (cne y c e)).trans ho,hd⟩
 ·obtain⟨p1,p2,p3,p4⟩:=I.pin p hp;exact⟨(hs.2 p.1 p3).trans p1,p2,p3,p4⟩
end L2

namespace L2
open PySem PySem.Spec PyProof.Rows PySem.W

theorem jgt  {os: OsState}{sub: List Value}(hC:h.get? C=some (YcP nm q C N bs bm hdct sn sub ab col dd k0 k1 k2 k3 k5 newId))(hD:h.get? D=some (YcP nm' q' D ND bs' bm' hdct' sn' sub' ab' col' dd' l0 l1 l2 l3 l5 newId'))(he:h.get? e=some oe)(hcls:oe.cls=.ref C)(hb:bm'.contains (.type "BaseException")=true)
  (hq:Q ((YaP C::bm).contains (.ref D)) ⟨h,g,d,t,os⟩):wpAny M A (excMatches (.ref e) (.ref D)) Q E ⟨h,g,d,t,os⟩:=by
 have hB:(YaP D::bm').contains (.type "BaseException")=true:=by rw[Ybq,hb,Ycs]
 have f:=tc_notTuple;obtain⟨b,eb⟩:∃b,b=(YaP C::bm).contains (.ref D):=⟨_,rfl⟩;rw[<- eb]at hq;unfold excMatches
 repeat (first|(with_reducible refine Yao he ?_;rw[hcls])|with_reducible refine Yao hD ?_|(with_reducible refine YbQ hD ?_;rw[hB])|(with_reducible refine YbQ hC ?_;rw[<- eb])|wp_step)
 cases b with
 |true=>wp_walk;exact hq
 |false=>wp_walk;exact hq

theorem jfK  {σ: St}(I:Inv X [] σ H s)(l:Lies X.s₀.heap.objs.size X.pn H s.heap ea cls dx)
  (q:∀h',Inv X [] σ H { s with heap:=h' }->Lies X.s₀.heap.objs.size X.pn H h' ea cls dx->Q () { s with heap:=h' }):wpAny M A (YdX (.ref ea) none) Q E s:=by
 obtain⟨oe,vs,he,hc,hdx,hd,ht⟩:=l.ob;rcases ht with h1|⟨T,oT,ts,h1,hTe,hT,hdT,h3,nT,lT,pT⟩
 ·unfold YdX;refine Yac (YbR he hd h1 ?_);rw[if_neg (by decide)]
  exact Yal (q s.heap I l)
 ·have sz:=(Array.getElem?_eq_some_iff.mp h3).1;refine wpAny_setFlight_none he hd h1 hT hdT sz ?_;have other:=(jcQ 3 .none hT hdT).2;have d3:=YfG hdT (·.setIfInBounds 3 Ybm);refine q _ (I.left (ch:=[T]) (λb hb=>by simp_all) (λb hb=>by simp_all) (λb hb=>by simp_all) (λb hb p hp=>by grind)
   (λb o _ hc e=>(other b (by simp_all)).trans e) λb o _ hc e=>⟨o.slots,(other b (by simp_all)).trans e⟩) ⟨⟨oe,vs,(other ea (Ne.symm hTe)).trans he,hc,hdx,hd,.inr ⟨T,_,_,h1,hTe,Ycr _ hT (Ydb d3),d3,by simp[sz],nT,lT,pT⟩⟩,l.hn,l.le,l.pn⟩
noncomputable def Cx.tryC  (X:Cx)(pins:List (Addr×Obj))(xe:Value->Shared->Prop):Cx:={ X with pn:=X.pn++pins,xe:=xe }
theorem Inv.tryIn  {σ: St}(I:Inv X pins σ H s):Inv (X.tryC pins xe) [] σ H s:=
 ⟨⟨I.ok.mod,I.ok.kind,I.ok.glob,I.ok.blt,I.ok.above,I.ok.inj,I.ok.has,I.ok.cab,I.ok.hd,I.ok.frames,I.ok.stk,I.ok.exf,I.ok.bs,I.ok.bsz,I.ok.noex,I.ok.exfs,I.ok.funs,I.ok.frf⟩,I.os,I.bare,I.base,I.loc,I.cell,I.free,I.freeC,λp hp=>I.pin p (by simpa[Cx.tryC]using hp),I.hok,I.len⟩
theorem Inv.tryOut  {σ: St}(I:Inv (X.tryC pins xe) pins' σ H s):Inv X pins σ H s:=
 ⟨⟨I.ok.mod,I.ok.kind,I.ok.glob,I.ok.blt,I.ok.above,I.ok.inj,I.ok.has,I.ok.cab,I.ok.hd,I.ok.frames,I.ok.stk,I.ok.exf,I.ok.bs,I.ok.bsz,I.ok.noex,I.ok.exfs,I.ok.funs,I.ok.frf⟩,I.os,I.bare,I.base,I.loc,I.cell,I.free,I.freeC,λp hp=>I.pin p (by simp only[Cx.tryC];grind),I.hok,I.len⟩
noncomputable def Cx.inH  (X:Cx)(e:Value)(p:List (Addr×Obj)):Cx:={ X with A:=X.A.mark (some e),calm:=false,pn:=X.pn++p,xe:=λ_ _=>False }
theorem Inv.hIn  {σ: St}(I:Inv X [] σ H s)(hp:∀q∈p,s.heap.get? q.1=some q.2/\H q.1=none/\q.1≠X.env.locals/\q.1∉X.fs/\∀v,q.2.data≠.cell v):Inv (X.inH e p) [] σ H s:=
 ⟨⟨I.ok.mod,I.ok.kind,I.ok.glob,I.ok.blt,I.ok.above,I.ok.inj,I.ok.has,I.ok.cab,(λz=>(nomatch z)),I.ok.frames,I.ok.stk,I.ok.exf,I.ok.bs,I.ok.bsz,I.ok.noex,I.ok.exfs,I.ok.funs,I.ok.frf⟩,I.os,I.bare,I.base,I.loc,I.cell,I.free,I.freeC,
  λq hq=>by
   have:q∈X.pn++p:=by simpa[Cx.inH]using hq
   rcases List.mem_append.mp this with z|z
   ·exact I.pin q (YaV _ z)
   ·exact hp q z,I.hok,I.len⟩
theorem Inv.hOut  {σ: St}(ok:X.Ok)(I:Inv (X.inH e p) pins' σ H s):Inv X [] σ H s:=
 ⟨ok,I.os,I.bare,I.base,I.loc,I.cell,I.free,I.freeC,λq hq=>I.pin q (by simp only[Cx.inH];simp_all),I.hok,I.len⟩
theorem Lies.pinned  {σ: St}(I:Inv X [] σ H s)(l:Lies X.s₀.heap.objs.size X.pn H s.heap ea cls dx):∃oe,s.heap.get? ea=some oe/\oe.cls=cls/\oe.dict=dx/\(∃vs,oe.data=.fields vs)/\
  ∀q∈[(ea,oe)],s.heap.get? q.1=some q.2/\H q.1=none/\q.1≠X.env.locals/\q.1∉X.fs/\∀v,q.2.data≠.cell v:=by
 obtain⟨oe,vs,he,hc,hdx,hd,_⟩:=l.ob;refine⟨oe,he,hc,hdx,⟨vs,hd⟩,λq hq=>?_⟩;rw[List.mem_singleton.mp hq];refine⟨he,l.hn,λz=>?_,λz=>?_,λv z=>by lia⟩
 ·obtain⟨m,⟨o,es,ep,ho,hdd,_⟩,_⟩:=I.loc
  lia
 ·obtain⟨_,o,ho,_⟩:=I.ok.funs.mem z;exact absurd (Yam ho) (Nat.not_lt.mpr l.le)
def XL  (M:Model)(A:Around)(env:Env)(R:Value->Shared->Prop):Value->Shared->Prop:=λe s'=>wpAny M A (YfL e env) (λ_ s''=>wpAny M A (YdX e none) (λ_ s3=>R e s3) R s'') R s'
theorem jjL      : Yc8 M A env (XL M A env R):=YeL

abbrev cx1  (P:Program)(w:World)(K:Yab)(mg:Str->Option Value)(base:Heap)(N:List Str)(qual:Str)(scope:Scope)(f:Addr)(cd:Value)(A:Around)(outer:List Env)(s:Shared)(H:Hp)(E:XK):Cx:=
 (cxOf (CX1 P w) P w K mg base N qual scope f cd A outer s H E).wish (XL (model P w) (A.deeper (envOfC qual scope s.heap.objs.size f cd)) (envOfC qual scope s.heap.objs.size f cd) λe s'=>CX1 P w outer H s E e s')
theorem Fun.okX  {K: Yab}{st:Stmt}(F:Fun K x qual st f fd)(S:FnScope N ps (jaa st))(len:∀vs H Q E,sp vs H Q E->vs.length=ps.length)
  (hbody:∀cdv (A:Around) outer (s:Shared) H (vs:List V) Q E ,Room k (A.deeper (envOfC qual (jaa st) s.heap.objs.size f cdv))->sp vs H Q E->
   ∃t,PSs (cx1 P w K mg base N qual (jaa st) f cdv A outer s H E) (jag st) t/\t { nx:=λ_ H'=>Q .non H',rt:=Q } (start N vs) H):FnOk P w K mg base (CX1 P w) (k+1) f fd ps sp:=by
 obtain⟨oc,od,kV,doc,pm,an,cdv,ct,osl,rfl,lk,hcd⟩:=F.ex;refine jpG lk hcd S len λA outer s H vs Q E hr hsp=>?_;obtain⟨t,h,q⟩:=hbody cdv A outer s H vs Q E hr hsp;refine⟨t,λpins s1 σ H1 D I hw=>?_,q⟩;refine YaL (h pins s1 σ H1 D (I.wish _) hw) (λ_ _ q=>q.unwish) λe s' z=>?_;show wpAny _ _ (leaving _ e) _ _ s';unfold leaving;exact Yac z
theorem CX1.out1  {K: Yab}{σ:St} 
  (I:Inv (cx1 P w K mg base N qual scope f cd A outer s H E) pins σ H' s') (l:Lies s.heap.objs.size [] H' s'.heap ea cls dx) (q:E cls dx H'):(cx1 P w K mg base N qual scope f cd A outer s H E).xe (.ref ea) s':=by
 have I0:Inv (cxOf (CX1 P w) P w K mg base N qual scope f cd A outer s H E) [] σ H' s':=I.unwish.pins_of λp hp=>absurd hp (by simp)
 refine jiO (X:=cxOf (CX1 P w) P w K mg base N qual scope f cd A outer s H E) (E:=λe s'=>CX1 P w outer H s E e s') I0 rfl rfl l λh' J l'=>?_;exact⟨ea,H',cls,dx,rfl,J.os,J.bare,J.base,J.hok,l',q⟩
end L2

namespace L2
open PySem PySem.Spec PyProof.Rows PySem.W
open Builtin Builtin.ObjectAttr
theorem jes  : YaU (.type "ValueError") "__class__" = pure (some (.builtin "object.__class__")):=by rw[Ycn,Yby];kernel_rfl
theorem joi  : YaU (.type "getset_descriptor") "__get__" = pure (some (.builtin "getset_descriptor.__get__")):=by rw[Ycn,Yby];kernel_rfl
theorem jog  : YaU (.type "getset_descriptor") "__set__" = pure (some (.builtin "getset_descriptor.__set__")):=by rw[Ycn,Yby];kernel_rfl
theorem ji0  : builtinKind "object.__class__" = some .getset:=by decide +kernel
noncomputable abbrev bmV  : List Value:=[.type "ValueError",.type "Exception",.type "BaseException",.type "object"]

theorem Two.gaClass  {os: OsState}{K:Frag}(hK:K.In h)(hm:mroIn K C (.type "object")=some true)(T:Two h C N D mN mD bmB newId)(R:Reads B bmB)(hx:h.get? x=some o)(hc:o.cls=.ref C)(hnc:notCls o=true)(hdx:o.dict=some dx)(hod:h.get? dx=some od)
  (hB:YaU (.type B) "__class__" = pure (some (.builtin "object.__class__"))) (n1:mN "__class__" = none) (n2:mD "__class__" = none) (hq:Q (.done (.ret (.ref C))) ⟨h,g,d,t,os⟩) :
  wpAny (model prog w) A (Builtin.«object.__getattribute__» ⟨[.ref x,.str "__class__" tk],[]⟩) Q E ⟨h,g,d,t,os⟩:=by
 obtain⟨nm,q,bs,sn,sub,ab,col,dd,k0,k1,k2,k3,k5,e⟩:=T.cls;unfold Builtin.«object.__getattribute__»
 repeat (first|(with_reducible refine Yao hx ?_;rw[hc])|(with_reducible refine T.look hB R.mro n1 n2 ?_)|wp_step)
 rw[ji0];dsimp only;rw[joi]
 repeat (first|(with_reducible refine Yao hx ?_;rw[hc])|wp_step)
 rw[ji0];dsimp only;rw[jog]
 repeat (first|(with_reducible refine Yao hx ?_;rw[hc])|wp_step)
 refine PySem.W.class_get (K:=K) hK (ox:=o) (od:=some od) ⟨hx,hc,hnc,by rw[hdx];exact hod⟩ hm ?_
 exact Yal hq
theorem Two.cattr  {os: OsState}{K:Frag}(hK:K.In h)(hm:mroIn K C (.type "object")=some true)(T:Two h C N D mN mD bmB newId)(R:Reads B bmB)(hx:h.get? x=some o)(hc:o.cls=.ref C)(hnc:notCls o=true)(hdx:o.dict=some dx)(hod:h.get? dx=some od)
  (hB:YaU (.type B) "__class__" = pure (some (.builtin "object.__class__"))) (g1:mN "__getattribute__" = none) (g2:mD "__getattribute__" = none) (a1:mN "__getattr__" = none) (a2:mD "__getattr__" = none) (n1:mN "__class__" = none) (n2:mD "__class__" = none) (hq:Q (some (.ref C)) ⟨h,g,d,t+1,os⟩) :
  wpAny (model prog w) A (getAttr? (.ref x) "__class__") Q E ⟨h,g,d,t,os⟩:=by
 have f3:=R.ga.bind (.ref x);unfold getAttr? getAttrBy? getAttrBy
 repeat (any_goals (first|assumption|(with_reducible refine Yao hx ?_;rw[hc])|(with_reducible refine T.look R.ga.lookup R.mro g1 g2 ?_)|(with_reducible refine T.look R.no R.mro a1 a2 ?_)|wp_step))
 refine YdD R.ga.plain F.entry_bexc_ga (T.gaCheck R hx hc (T.gaClass hK hm R hx hc hnc hdx hod hB n1 n2 ?_))
 repeat (any_goals (first|assumption|wp_step))
noncomputable def jg6  : List Ydv->Option (List Str)
 |[]=>some []
 |e::r=>match e.key,jg6 r with
  |.str x _,some l=>some (x::l)
  |_,_=>none
def jeE  (K:Frag)(N:Addr):Option (List Str):=match K.lookup N with
 |some ⟨_,_,.dict es _,_⟩=>jg6 es.toList
 |_=>none
theorem jeD  : ∀{es } {ks },jg6 es=some ks->(∀e∈es,∃n t,e.key=.str n t)/\∀x,x∉ks->es.find? (λe=>e.key.isStr x)=none
 |[],_,_=>⟨λ_ h=>absurd h (by simp),λ_ _=>rfl⟩
 |e::r,ks,h=>by
  unfold jg6 at h;split at h
  ·rename_i x t l hk hr;cases h;obtain⟨h1,h2⟩:=jeD hr;refine⟨λe' he=>?_,λy hy=>?_⟩
   ·rcases YaM.mp he with rfl|he
    ·exact⟨_,_,hk⟩
    ·exact h1 e' he
   ·have hn:y≠x:=λz=>hy (by simp[z])
    have:e.key.isStr y=false:=by rw[hk];simp[Value.isStr,Ne.symm hn]
    rw[Ybj,this];exact h2 y λz=>hy (by simp[z])
  ·cases h
theorem jnQ  {K:Frag}(e:jeE K N=some ks):∃m ,(∀h,K.In h->h.Ns N m)/\(∀x,x∉ks->m x=none)/\∀x v,nsIn K N x=some (some v)->m x=some v:=by
 unfold jeE at e;split at e
 ·rename_i c dd es ep sl lk;obtain⟨h1,h2⟩:=jeD e;refine⟨nsFind es,λh hK=>⟨_,es,ep,hK _ _ lk,rfl,λe he=>h1 e (by simpa using he),λ_=>rfl⟩,λx hx=>?_,λx v hv=>?_⟩
  ·unfold nsFind findBy;rw[<- Ydx,h2 x hx];rfl
  ·unfold nsIn at hv;rw[lk]at hv;dsimp only at hv;unfold nsFind findBy;rw[<- Ydx];split at hv
   ·rename_i e' he';rw[he'];cases hv;rfl
   ·split at hv<;>cases hv
 ·cases e
noncomputable def offN  : List Str:=["__setattr__", "__getattribute__", "__getattr__", "__class__", "word", "at", "row"]
structure XBase (K:Frag)(mg:Str->Option Value)(D:Addr)(mD:Str->Option Value):Prop where
 m:mg "PlanError" = some (.ref D)
 kp:keepIn K (.ref D)=true
 lk:∃q ND bs hd sn sub ab col dd k0 k1 k2 k3 k5 nid,K.lookup D=some (YcP "PlanError" q D ND bs bmV hd sn sub ab col dd k0 k1 k2 k3 k5 nid)/\∀h,K.In h->h.Ns ND mD
 no:∀y∈offN,mD y=none
 ni:mD "__init__" = none
structure XCls (K:Frag)(mg:Str->Option Value)(x:Str)(fs:List Str)(C:Addr):Prop where
 m:mg x=some (.ref C)
 kp:keepIn K (.ref C)=true
 ex:∃(D N fI:Addr) (mN mD:Str->Option Value),XBase K mg D mD/\(∃q bs sn sub ab col dd k0 k1 k2 k3 k5,K.lookup C=some (YcP x q C N bs (.ref D::bmV) true sn sub ab col dd k0 k1 k2 k3 k5 "ValueError.__new__"))/\(∀h,K.In h->h.Ns N mN)/\(∀y∈offN,mN y=none)/\
  mN "__init__" = some (.ref fI)/\∃(st:Stmt) (qual:Str) (fd:YeF),L2.Fun K "__init__" qual st fI fd/\(∃od osl,K.lookup fI=some ⟨.type "function",od,.func fd,osl⟩)/\FnScope ("self" :: fs) ("self" :: fs) (jaa st)/\Binds K fd ("self" :: fs) []/\(∀y∈(("self" : Str)::fs),(jaa st).names.lookup y=some .local)/\
  ((∃f p1 p2 p3 pos,fs=[f]/\jag st=[.Assign [.Attribute (.Name "self" p1) f p2] (.Name f p3) pos])\/∃f f2 p1 p2 p3 pos q1 q2 q3 qos,fs=[f,f2]/\f≠f2/\jag st=[.Assign [.Attribute (.Name "self" p1) f p2] (.Name f p3) pos,.Assign [.Attribute (.Name "self" q1) f2 q2] (.Name f2 q3) qos])
theorem XBase.get  {K:Frag}(B:XBase K mg D mD)(hK:K.In h):∃c0 dd cd sl,h.get? D=some { cls:=c0,dict:=dd,data:=.cls cd,slots:=sl }/\h.Ns cd.ns mD:=by
 obtain⟨q,ND,bs,hd,sn,sub,ab,col,dd,k0,k1,k2,k3,k5,nid,lk,n⟩:=B.lk;exact⟨_,_,_,_,hK _ _ lk,n h hK⟩

theorem XCls.name  {K: Frag}(c:XCls K mg x fs C):∃cd,clsIn K C=some cd/\cd.name=x/\typeIn K (.ref C)=some (.type "type")/\∃D mD,XBase K mg D mD/\cd.mro=.ref C::.ref D::bmV:=by
 obtain⟨D,N,fI,mN,mD,B,⟨q,bs,sn,sub,ab,col,dd,k0,k1,k2,k3,k5,lk⟩,_⟩:=c.ex;refine⟨_,by unfold clsIn;rw[lk],rfl,by show Yfe (λx=>x.cls) (Ybs _ K)=_;rw[lk];rfl,D,mD,B,rfl⟩
theorem XBase.nm  {K: Frag}(B:XBase K mg D mD):∃cd,clsIn K D=some cd/\cd.name = "PlanError" /\ typeIn K (.ref D)=some (.type "type"):=by
 obtain⟨q,ND,bs,hd,sn,sub,ab,col,dd,k0,k1,k2,k3,k5,nid,lk,n⟩:=B.lk;exact⟨_,by unfold clsIn;rw[lk],rfl,by show Yfe (λx=>x.cls) (Ybs _ K)=_;rw[lk];rfl⟩
theorem jiP  {K: Frag}(c:XCls K mg x fs C)(c':XCls K mg x' fs' C')(hp:x' ≠ "PlanError"):kitOne K (.ref C) (.ref C')=some (decide (x=x')):=by
 obtain⟨cd,h1,h2,h3,D,mD,B,hm⟩:=c.name;obtain⟨cd',h1',h2',h3',_⟩:=c'.name;unfold kitOne;by_cases e:C=C'
 ·subst e;rw[h1]at h1';cases h1';rw[if_pos (by simp),<- h2,<- h2']
  simp
 ·have hx:x≠x':=λz=>by
   subst z;have:=c.m.symm.trans c'.m;simp at this;exact e this
  rw[if_neg (by simpa using e)]
  unfold kitCls subIn mroIn;dsimp only;rw[h1',h3',h1];have hD:D≠C':=λz=>by
   subst z;obtain⟨cd2,g1,g2,_⟩:=B.nm;rw[h1']at g1;cases g1;exact hp (h2'.symm.trans g2)
  simp[hm,hx,Ne.symm e,Ne.symm hD]
theorem jn2  {K: Frag}(c:XCls K mg x fs C):kitOne K (.ref C) (.type "ValueError")=some true:=by
 obtain⟨cd,h1,h2,h3,D,mD,B,hm⟩:=c.name;unfold kitOne;rw[if_neg (by simp)]
 unfold kitCls subIn mroIn;dsimp only;rw[if_pos (by decide +kernel),h1]
 simp[hm]
theorem jkL  : ∀f∈[("word" : Str), "at", "row"],YaU (.type "ValueError") f=pure none:=by
 intro f hf;simp only[YaM,Yau,or_false]at hf;rcases hf with rfl|rfl|rfl<;>(rw[Ycn,Yby];kernel_rfl)
noncomputable def fldN  : List Str:=["word", "at", "row"]
theorem jgr  : ∀f∈fldN,f∈offN:=by decide
section
variable {K:Frag}{mg:Str->Option Value}{x:Str}{fs:List Str}{C:Addr}
structure XPin (X:Cx)(ea C dx:Addr):Prop where
 ex:∃oe vs,(ea,oe)∈X.pn/\oe.cls=.ref C/\oe.dict=some dx/\oe.data=.fields vs
theorem Inv.xobj    {σ:St}(I:Inv X pins σ H s)(p:XPin X ea C dx)(hl:H dx=some (.xd l)) :
  ∃oe vs od mA,s.heap.get? ea=some oe/\oe.cls=.ref C/\oe.dict=some dx/\oe.data=.fields vs/\s.heap.get? dx=some od/\s.heap.Ns dx mA/\∀f,RelO (l.lookup f) (mA f):=by
 obtain⟨oe,vs,hp,h1,h2,h3⟩:=p.ex;obtain⟨mA,n,r⟩:=(show jaE X.prog X.w H s.heap dx (.xd l)from I.hok dx _ hl);obtain⟨od,es,ep,g,gd,sk,_,nf⟩:=n;exact⟨oe,vs,od,mA,(I.pin _ (YaV _ hp)).1,h1,h2,h3,g,⟨od,es,ep,g,gd,sk,nf⟩,r⟩
theorem XCls.two  (c:XCls K mg x fs C)(hK:K.In h):∃N D mN mD,Two h C N D mN mD bmV "ValueError.__new__" /\ (∀y∈offN,mN y=none/\mD y=none)/\mroIn K C (.type "object")=some true:=by
 obtain⟨D,N,fI,mN,mD,B,⟨q,bs,sn,sub,ab,col,dd,k0,k1,k2,k3,k5,lk⟩,hn,ho,_⟩:=c.ex;refine⟨N,D,mN,mD,⟨⟨_,_,_,_,_,_,_,_,_,_,_,_,_,hK _ _ lk⟩,hn h hK,B.get hK⟩,λy hy=>⟨ho y hy,B.no y hy⟩,?_⟩;unfold mroIn clsIn;rw[lk];simp
theorem je7  (c:XCls K mg x fs C)(h1:oe.cls=.ref C)(h2:oe.dict=some dx)(h3:oe.data=.fields vs):KitX K (.ref ea) (.ref C) (λh=>h.get? ea=some oe/\h.get? dx=some od):=by
 have hnc:notCls oe=true:=by unfold notCls;rw[h3]
 refine⟨λM h hK hh=>?_,λM h hK hh=>?_,λh tp dd its n sl hK ht=>?_,λ{prog w A E Q s} hK hh hq=>?_⟩
 ·intro A Q E s k q;obtain⟨hp,g,d,t,os⟩:=s;have g1:=k _ _ hh.1;show wpAny M A (typeOf (.ref ea)) Q E _;unfold typeOf
  repeat (first|(with_reducible refine Yao g1 ?_;rw[h1])|wp_step)
  exact q
 ·intro A Q E s k q;obtain⟨hp,g,d,t,os⟩:=s;obtain⟨D,N,fI,mN,mD,B,⟨q',bs,sn,sub,ab,col,dd,k0,k1,k2,k3,k5,lk⟩,_⟩:=c.ex;have g1:=k _ _ (hK _ _ lk);unfold isType
  repeat (first|with_reducible refine Yao g1 ?_|wp_step)
  exact q
 ·obtain⟨D,N,fI,mN,mD,B,⟨q',bs,sn,sub,ab,col,dd',k0,k1,k2,k3,k5,lk⟩,_⟩:=c.ex;have g1:=hK _ _ lk;by_cases z:C=tp
  ·subst z;rw[ht]at g1;simp at g1
  ·simpa using z
 ·obtain⟨hp,g,d,t,os⟩:=s;obtain⟨N,D,mN,mD,T,off,hm⟩:=c.two hK;have o1:=off "__getattribute__" (by decide)
  have o2:=off "__getattr__" (by decide)
  have o3:=off "__class__" (by decide)
  exact T.cattr hK hm jbH hh.1 h1 hnc h2 hh.2 jes o1.1 o1.2 o2.1 o2.2 o3.1 o3.2 hq
end
section
variable {X:Cx}{mg:Str->Option Value}{x:Str}{fs:List Str}{C ea dx:Addr}
theorem jjm     (c:XCls X.K mg x fs C)(c':XCls X.K mg x' fs' C')(hp:x' ≠ "PlanError")(p:XPin X ea C dx):ja8 X (.builtin "isinstance") (λxs H Q=>xs=[.ref ea,.ref C']/\(∃l,H dx=some (.xd l))/\Q (.bl (decide (x=x'))) H):=by
 intro pins s σ H xs us Q I r h;obtain⟨rfl,⟨l,hl⟩,q⟩:=h;obtain⟨u,v,rfl,ru,rv⟩:=Vals.two r;cases ru;cases rv;obtain⟨oe,vs,od,mA,g1,g2,g3,g4,g5,_⟩:=I.xobj p hl;exact kia_one (je7 c g2 g3 g4) I.kIn ⟨g1,g5⟩ (jiP c c' hp) (λz=>(nomatch z)) λtk=>⟨.bl _,H,I.tok tk,rfl,q⟩
theorem jjk  (c:XCls X.K mg x fs C)(p:XPin X ea C dx):ja8 X (.builtin "isinstance") (λxs H Q=>xs=[.ref ea,.ty "ValueError"]/\(∃l,H dx=some (.xd l))/\Q (.bl true) H):=by
 intro pins s σ H xs us Q I r h;obtain⟨rfl,⟨l,hl⟩,q⟩:=h;obtain⟨u,v,rfl,ru,rv⟩:=Vals.two r;cases ru;cases rv;obtain⟨oe,vs,od,mA,g1,g2,g3,g4,g5,_⟩:=I.xobj p hl;exact kia_one (je7 c g2 g3 g4) I.kIn ⟨g1,g5⟩ (jn2 c) (λz=>(nomatch z)) λtk=>⟨.bl true,H,I.tok tk,rfl,q⟩
inductive XMany (X:Cx)(mg:Str->Option Value):List Str->List Addr->Prop
 |nil:XMany X mg [] []
 |cons {x:Str} {fs:List Str} {C:Addr} {xs:List Str} {Cs:List Addr}:XCls X.K mg x fs C->x ≠ "PlanError" -> XMany X mg xs Cs->XMany X mg (x::xs) (C::Cs)
theorem jg5  (c:XCls X.K mg x fs C):∀{xs } {Cs },XMany X mg xs Cs->kitAny X.K (.ref C) (Cs.map .ref)=some (xs.contains x)
 |_,_,.nil=>rfl
 |_,_,.cons (x:=x') (C:=C') c' hp r=>by
  have h1:=jiP c c' hp;have h2:=jg5 c r;by_cases e:x=x'
  ·subst e;simp only[YaC,kitAny];rw[h1];simp
  ·simp only[YaC,kitAny];rw[h1,h2];simp[e]
theorem jjl    (c:XCls X.K mg x fs C)(cs:XMany X mg xs Cs)(p:XPin X ea C dx):ja8 X (.builtin "isinstance") (λas H Q=>∃tp,as=[.ref ea,.ref tp]/\H tp=some (.tup (Cs.map .ref))/\(∃l,H dx=some (.xd l))/\Q (.bl (xs.contains x)) H):=by
 intro pins s σ H as us Q I r h;obtain⟨tp,rfl,ht,⟨l,hl⟩,q⟩:=h;obtain⟨u,v,rfl,ru,rv⟩:=Vals.two r;cases ru;cases rv;obtain⟨oe,vs,od,mA,g1,g2,g3,g4,g5,_⟩:=I.xobj p hl;obtain⟨z,us,ru,o,t1,t2,t3,t4,t5⟩:=(show jaE X.prog X.w H s.heap tp (.tup (Cs.map .ref))from I.hok tp _ ht);have hus:us=Cs.map .ref:=by
  clear ht t4 z t5 t1 t2;generalize Cs=Ds at ru
  induction Ds generalizing us with
  |nil=>cases ru;rfl
  |cons a r ih=>
   cases ru with
   |cons h1 h2=>cases h1;rw[ih _ h2];rfl
 subst hus;have hk:=jg5 c cs;obtain⟨oc,od',dt,sl⟩:=o;obtain rfl:oc=Value.type "tuple" := t2;obtain rfl:dt=Data.seq (List.map YaP Cs).toArray t3:=t4;exact kia_tup (je7 c g2 g3 g4) I.kIn ⟨g1,g5⟩ t1 hk (λz=>(nomatch z)) λtk=>⟨.bl _,H,I.tok tk,rfl,q⟩
theorem jgq    (r:RelV v u):handedOut u=pure u:=by
 cases v with
 |non=>cases r;rfl
 |bl _=>cases r;rfl
 |int _=>obtain⟨_,rfl⟩:=r;rfl
 |str _=>obtain⟨_,rfl⟩:=r;rfl
 |byt _=>obtain⟨_,rfl⟩:=r;rfl
 |flt _=>obtain⟨_,rfl⟩:=r;rfl
 |ref _=>cases r;rfl
 |ty _=>cases r;rfl
theorem jlz      (c:XCls X.K mg x fs C)(p:XPin X ea C dx)(hf:f∈fldN)(he:PE X e te)(hb:Ycp e f X.env (eval e X.env)=eval e X.env) :
  PE X (.Attribute e f pos) (λσ H Q=>te σ H λv H1=>v=.ref ea/\∃l u,H1 dx=some (.xd l)/\l.lookup f=some u/\Q u H1):=by
 intro pins s σ H Q I h;refine jmu hb (thn (he pins s σ H _ I h) λu s1 ⟨v,H1,I1,rv,ev,l,w,hl,hlk,q⟩=>?_);subst ev;cases rv;obtain⟨oe,vs,od,mA,g1,g2,g3,g4,g5,g6,g7⟩:=I1.xobj p hl;obtain⟨N,D,mN,mD,T,off,hm⟩:=c.two I1.kIn;obtain⟨u',hu,ru⟩:=RelO.some_of (v:=w) (o:=mA f) (by rw[<- hlk];exact g7 f)
 have o1:=off "__getattribute__" (by decide)
 have o2:=off "__getattr__" (by decide)
 have o3:=off f (jgr f hf);obtain⟨hp,gg,d,t,os⟩:=s1;exact T.get jbH g1 g2 (λcd z=>by rw[g4]at z;cases z) g3 g6 hu (jgq ru) (jkL f hf) o1.1 o1.2 o2.1 o2.2 o3.1 o3.2 ⟨w,H1,I1.tok _,ru,q⟩
theorem jik       (c:XCls X.K mg x fs C)(hfs:∀f∈fs,f∈fldN)(hr:Room (k+2) X.A)(hg:Gl X x)(hmg:X.mg x=some (.ref C))(ha:PA X (a0::as) t)
  (hdb:(x==("__debug__" : Str))=false) (he:Yat (a0::as) X.env=(false,eval a0 X.env)::Yat as X.env) (hpl:(backTo cpos (Yat as X.env)).any (·.1)=false) :
  PS X (.Raise (some (.Call (.Name x p) (a0::as) [] cpos)) none pos) (jks X C fs.length (λvs=>fs.zip vs) t):=by
 intro pins s σ H D0 I h;have hK:X.K.In X.base:=I.ok.mod.kin;obtain⟨D,N,fI,mN,mD,B,⟨q,bs,sn,sub,ab,col,dd,k0,k1,k2,k3,k5,lk⟩,hn,ho,hi,st,qual,fd,F0,⟨od,osl,lkI⟩,S,hb,hloc,hbody⟩:=c.ex;obtain⟨oc,od',kV,doc,pm,an,cdv,ct,osl',rfl,lkI',hcd⟩:=F0.ex;have T:Two X.base C N D mN mD bmV "ValueError.__new__" := ⟨⟨_,_,_,_,_,_,_,_,_,_,_,_,_,hK _ _ lk⟩,hn _ hK,B.get hK⟩;have set0:mN "__setattr__" = none/\mD "__setattr__" = none:=⟨ho _ (by decide),B.no _ (by decide)⟩
 have fd0:∀f∈fs,mN f=none/\mD f=none/\YaU (.type "ValueError") f=pure none:=λf hf=>⟨ho _ (jgr f (hfs f hf)),B.no _ (jgr f (hfs f hf)),jkL f (hfs f hf)⟩;have nm:∀f∈fldN,(f==("__debug__" : Str))=false/\(f==("__classdict__" : Str))=false:=by decide
 have go:∀(vs:List V) (s:Shared) (H:Hp),vs.length=fs.length->jfY X C s H (("self" : Str)::fs) qual (jaa st) fI cdv (jag st) vs (fs.zip vs):=by
  intro vs s H hl;rcases hbody with⟨f,p1,p2,p3,pos,rfl,hbd⟩|⟨f,f2,p1,p2,p3,pos,q1,q2,q3,qos,rfl,hne,hbd⟩
  ·rw[hbd];obtain⟨v,rfl⟩:∃v,vs=[v]:=by
    match vs,hl with
    |[v],_=>exact⟨v,rfl⟩
   have a1:=fd0 f (by simp)
   have b1:=nm f (hfs f (by simp))
   exact jpB T F.store_ValueError set0.1 set0.2 a1.1 a1.2.1 a1.2.2 (.inl (hloc _ (by simp))) (.inl (hloc _ (by simp))) (by decide) b1.1 (by decide) b1.2 (λ_=>rfl)
  ·rw[hbd];obtain⟨v,v2,rfl⟩:∃v v2,vs=[v,v2]:=by
    match vs,hl with
    |[v,v2],_=>exact⟨v,v2,rfl⟩
   have a1:=fd0 f (by simp)
   have a2:=fd0 f2 (by simp)
   have b1:=nm f (hfs f (by simp))
   have b2:=nm f2 (hfs f2 (by simp))
   exact jpA T F.store_ValueError set0.1 set0.2 a1.1 a1.2.1 a1.2.2 a2.1 a2.2.1 a2.2.2 hne (.inl (hloc _ (by simp))) (.inl (hloc _ (by simp))) (.inl (hloc _ (by simp))) (by decide) b1.1 b2.1 (by decide) b1.2 b2.2 (λ_=>rfl) (λ_=>rfl)
 have hn8:fs.length<=8:=by
  rcases hbody with⟨f,p1,p2,p3,pos,rfl,hbd⟩|⟨f,f2,p1,p2,p3,pos,q1,q2,q3,qos,rfl,hne,hbd⟩<;>simp
 exact jjJ T F.excBase_ValueError B.ni hi lkI hcd S hr hb (by simp) hn8 (by decide) hg hmg c.kp ha go hdb he hpl pins s σ H D0 I h
theorem jhI          (c:XCls X.K mg x fs C)(B':XBase X.K mg D' mD')(hK:X.K.In s.heap)(he:s.heap.get? ea=some oe)(hcls:oe.cls=.ref C)
  (hq:Q true s):wpAny M A (excMatches (.ref ea) (.ref D')) Q E s:=by
 obtain⟨D,N,fI,mN,mD,B,⟨q,bs,sn,sub,ab,col,dd,k0,k1,k2,k3,k5,lk⟩,_⟩:=c.ex;have e:D=D':=by have:=B.m.symm.trans B'.m;simpa using this
 subst e;obtain⟨q,ND,bs,hd,sn,sub,ab,col,dd,k0,k1,k2,k3,k5,nid,lk2,n⟩:=B.lk;obtain⟨h,g,d,t,os⟩:=s;refine jgt (hK _ _ lk) (hK _ _ lk2) he hcls (by decide) ?_
 have e:(YaP C::.ref D::bmV).contains (.ref D)=true:=by simp
 rw[e];exact hq
end
end L2

namespace L2
open PySem PySem.Spec PyProof.Rows

end L2

namespace L2
open PySem PySem.Spec PyProof.Rows

end L2

namespace L2
open PySem PySem.Spec PyProof.Rows PySem.W
noncomputable def jci  (cells:List (Str×Addr)):List (Str×Ybp)->List (Str×Addr)->List (Str×Addr)
 |[],acc=>acc
 |(n,k)::r,acc=>jci cells r (if k == .free then (match cells.lookup n with|some c=>(n,c)::acc|none=>acc) else acc)
theorem jfc   
  (hf:∀n k cs,f (n,k) cs=if k == .free then (do let a <- cellOf env n;pure (.yield ((n,a)::cs))) else pure (.yield cs)) :
  ∀names acc ,(∀y∈names,y.2=.free->∃c,env.cells.lookup y.1=some c)->forIn names acc f=pure (jci env.cells names acc)
 |[],acc,_=>rfl
 |(n,k)::r,acc,h=>by
  rw[Yea,hf];unfold jci;cases hk:k==Yav with
  |true=>
   obtain⟨c,e⟩:=h (n,k) YaH (eq_of_beq hk);simp only[if_true,cellOf,e,pure_bind];exact jfc hf r _ λy hy=>h y (Yan _ hy)
  |false=>
   simp only[YbT,if_false,pure_bind];exact jfc hf r _ λy hy=>h y (Yan _ hy)
theorem jc5    (h:∀y∈scope.names,y.2=.free->∃c,env.cells.lookup y.1=some c):Yfa scope env=pure (jci env.cells scope.names []):=by
 simp only[Yfa];rw[jfc (env:=env) (λn k cs=>by lia) _ _ h]
 rfl
theorem jhm     : ∀{names } {acc },(jci cells names acc).lookup x=some c->(cells.lookup x=some c/\(x,Yav)∈names)\/acc.lookup x=some c
 |[],_,h=>.inr h
 |(n,k)::r,acc,h=>by
  unfold jci at h;rcases jhm h with⟨e,m⟩|e
  ·simp_all
  ·by_cases hk:(k==Yav)=true
   ·rw[if_pos hk]at e;cases hc:cells.lookup n with
    |none=>lia
    |some c'=>
     rw[hc]at e;simp only[YaT]at e;by_cases hx:x=n
     ·subst hx;simp only[beq_self_eq_true]at e;cases e;exact .inl ⟨hc,by rw[eq_of_beq hk];exact YaH⟩
     ·rw[beq_eq_false_iff_ne.mpr hx]at e;exact .inr e
   lia
theorem jfR     : ∀{names } {acc },cells.lookup x=some c->acc.lookup x=some c->(jci cells names acc).lookup x=some c
 |[],_,_,h=>h
 |(n,k)::r,acc,hc,h=>by
  unfold jci;refine jfR hc ?_;split
  ·split
   ·rename_i c' e;by_cases hx:x=n
    ·subst hx;rw[hc]at e;cases e;simp
    ·simp only[YaT,beq_eq_false_iff_ne.mpr hx];exact h
   ·exact h
  ·exact h
theorem jen     : ∀{names } {acc },cells.lookup x=some c->(x,Yav)∈names->(jci cells names acc).lookup x=some c
 |(n,k)::r,acc,hc,h=>by
  unfold jci;rcases YaM.mp h with e|h
  ·cases e;refine jfR hc ?_;simp[hc]
  ·exact jen hc h
structure CloScope (N P:List Str)(sc:Scope):Prop where
 kind:sc.kind=.function
 co:sc.isCoroutine=false
 gen:sc.isGenerator=false
 nd:N.Nodup
 pre:N.take P.length=P
 par:∀x∈P,sc.names.lookup x=some .local
 nocell:∀y∈sc.names,y.2≠.cell
 frees:∀x,(x,Yav)∈sc.names->sc.names.lookup x=some .free

noncomputable def cxC  (P:Program)(w:World)(K:Yab)(mg:Str->Option Value)(base:Heap)(N:List Str)(qual:Str)(scope:Scope)(cl:List (Str×Addr))(f:Addr)(cd:Value)(A:Around)(outer:List Env)(s:Shared)(H:Hp)(E:XK):Cx where
 prog:=P
 w:=w
 K:=K
 mg:=mg
 base:=base
 A:=A.deeper (envX qual scope s.heap.objs.size f cd cl)
 N:=N
 s₀:=s
 H₀:=H
 env:=envX qual scope s.heap.objs.size f cd cl
 outer:=outer
 stack:=envX qual scope s.heap.objs.size f cd cl::outer
 ex:=[]
 calm:=true
 fn:=λx=>scope.names.lookup x != some .free
 pn:=[]
 xe:=XL (model P w) (A.deeper (envX qual scope s.heap.objs.size f cd cl)) (envX qual scope s.heap.objs.size f cd cl) λe s'=>CX1 P w outer H s E e s'
theorem jic    {i:Nat}(h:(start N vs)[i]?=some (some v)):vs[i]?=some v:=by
 unfold start at h;by_cases hi:i<vs.length
 ·rw[Ya1 (by simpa using hi),YaN]at h
  cases e:vs[i]? with
  |none=>rw[e]at h;cases h
  |some a=>rw[e]at h;simpa using h
 ·rw[Ybn (by simpa using hi),Ycg]at h
  split at h<;>cases h
theorem jkX  {ps:List Str}{i:Nat}{u:Value}(nd:ps.Nodup)(h1:ps[i]?=some x)(h2:us[i]?=some u):(ps.zip us).reverse.lookup x=some u:=by
 have hm:(x,u)∈ps.zip us:=Yay (List.getElem?_zip_eq_some.mpr ⟨h1,h2⟩);have key:∀{l:List (Str×Value)},(x,u)∈l->(∀v,(x,v)∈l->v=u)->l.lookup x=some u:=by
  intro l
  induction l with
  |nil=>simp_all
  |cons p r ih=>
   obtain⟨y,v⟩:=p;intro h hu;rw[YaT];by_cases hy:x=y
   ·subst hy;rw[beq_self_eq_true,hu v YaH]
   ·rw[beq_eq_false_iff_ne.mpr hy];rcases YaM.mp h with e|h
    ·cases e;exact absurd rfl hy
    ·exact ih h λv hv=>hu v (Yan _ hv)
 refine key (List.mem_reverse.mpr hm) λv hv=>?_;obtain⟨j,hj⟩:=List.getElem?_of_mem (List.mem_reverse.mp hv);obtain⟨e1,e2⟩:=List.getElem?_zip_eq_some.mp hj;obtain rfl:=jdS nd h1 e1
 lia
theorem jme  {K: Yab}{tk:Tok} 
  (S:CloScope N ps scope) (hd:A.handled=none) (e0:Env0 P w K mg base A outer s H) (hl:vs.length=ps.length) (r:Vals vs us) (hN:vs.length+cvs.length<=N.length)
  (hns:h1.Ns s.heap.objs.size λx=>(ps.zip us).reverse.lookup x) (hk:∀b o,s.heap.get? b=some o->h1.get? b=some o)
  (hcl:∀x c,cl.lookup x=some c->scope.names.lookup x=some .free/\(∃v,s.heap.IsCell c v)/\H c=none) (inj:∀x y c,cl.lookup x=some c->cl.lookup y=some c->x=y)
  (has:∀x,scope.names.lookup x=some .free->∃c,cl.lookup x=some c)
  (hv:∀i x v,N[ps.length+i]?=some x->cvs[i]?=some v->scope.names.lookup x=some .free/\∃c u,cl.lookup x=some c/\RelV v u/\s.heap.IsCell c (some u)) :
  Inv (cxC P w K mg base N qual scope cl f cd A outer s H E) [] (start N (vs++cvs)) H { s with heap:=h1,toks:=tk }:=by
 have noA:∀b:Addr,b∉(cxC P w K mg base N qual scope cl f cd A outer s H E).ex:=λb z=>absurd (show b∈([]:List Addr)from z) (by simp)
 have cellK:∀{c:Addr} {v:Option Value},s.heap.IsCell c v->h1.IsCell c v:=λ⟨o,ho,hd⟩=>⟨o,hk _ _ ho,hd⟩;refine⟨⟨e0.mod,S.kind,rfl,rfl,Yae _,inj,λy hy=>?_,λy c hf h=>?_,λ_=>hd,YeP e0.frames,.inr ⟨rfl,rfl⟩,λb z=>absurd z (noA b),e0.bs,e0.bsz,λb _ _=>noA b,λb z=>absurd z (noA b),e0.funs,e0.frf⟩,
  rfl,e0.bare,Un.kept hk,⟨_,hns,λi y v h1 h2 h3=>?_⟩,λy c h=>?_,e0.hok.fresh (Yae _),λy c h=>(hcl y c h).2.2,λp hp=>absurd (show p∈([]:List (Addr×Obj))from hp) (by simp),e0.hok.kept hk,?_⟩
 ·have hy:scope.names.lookup y=some .cell\/scope.names.lookup y=some .free:=hy;rcases hy with hy|hy
  ·exact absurd rfl (S.nocell _ (Yaq hy))
  ·exact has y hy
 ·have hf:(scope.names.lookup y != some .free)=true:=hf;rw[(hcl y c h).1]at hf
  lia
 ·have e:=jic h2;by_cases hi:i<vs.length
  ·rw[Ya1 hi]at e;obtain⟨u,hu,rv⟩:=r.get e;have hp:ps[i]?=some y:=by
    rw[<- S.pre,Yez (by lia)];exact h1
   have ndP:ps.Nodup:=by rw[<- S.pre];exact S.nd.sublist (YdE _ _)
   exact⟨u,rv,.inl ⟨S.par y (Yay hp),jkX ndP hp hu⟩⟩
  ·rw[Ybn (by lia)]at e
   obtain⟨hf,c,u,hc,rv,z⟩:=hv (i-vs.length) y v (by rw[<- hl,Nat.add_sub_cancel' (by lia)];exact h1) e
   exact⟨u,rv,.inr ⟨.inr hf,c,hc,cellK z⟩⟩
 ·obtain⟨_,⟨v,z⟩,_⟩:=hcl y c h
  grind
 ·unfold start;show _=N.length;rw[Yaz,Yaj,YeR,Yaz]
  lia
theorem jmt  {K: Yab} 
  (ho:s.heap.get? f=some o) (hd:o.data=.func (fnX name qual params body scope cl .none .none doc pm none cdv ctv)) (hcd:s.heap.CodeRec cdv qual) (S:CloScope N ps scope) (hr:Room (k+1) A) (e0:Env0 P w K mg base A outer s H)
  (hb:BindsTo s (fnX name qual params body scope cl .none .none doc pm none cdv ctv) args (ps.zip us)) (r:Vals vs us) (hl:vs.length=ps.length) (hN:vs.length+cvs.length<=N.length)
  (hcl:∀x c,cl.lookup x=some c->scope.names.lookup x=some .free/\(∃v,s.heap.IsCell c v)/\H c=none) (inj:∀x y c,cl.lookup x=some c->cl.lookup y=some c->x=y)
  (has:∀x,scope.names.lookup x=some .free->∃c,cl.lookup x=some c)
  (hv:∀i x v,N[ps.length+i]?=some x->cvs[i]?=some v->scope.names.lookup x=some .free/\∃c u,cl.lookup x=some c/\RelV v u/\s.heap.IsCell c (some u))
  (hbody:Room k (A.deeper (envX qual scope s.heap.objs.size f cdv cl))->∃t,PSs (cxC P w K mg base N qual scope cl f cdv A outer s H E) body t/\t { nx:=λ_ H'=>Q .non H',rt:=Q } (start N (vs++cvs)) H) :
  codeAny (model P w) A (.call (.ref f) args) (CR (CX1 P w) outer P w H s Q E) s:=by
 have lim:s.heap.NoLimit:=e0.mod.nolimit.keeps λb o e=>(e0.bs b o e).1;refine codeAny_call_def (fd:=fnX name qual params body scope cl .none .none doc pm none cdv ctv) (body:=body) hr.depth ho hd lim hcd rfl hb S.nocell (λy hy=>S.par y.1 (Ycf (show(y.1,y.2)∈_ from hy)).1) (λh1 hns hk=>?_) S.co S.gen S.kind;obtain⟨t,ht,hq⟩:=hbody (hr.deeper _);have I:=jme (tk:=s.toks+(ps.zip us).length) (qual:=qual) (f:=f) (cd:=cdv) (E:=E) S hr.hd e0 hl r hN hns hk hcl inj has hv;refine YaL (ht [] _ _ H _ I hq) (λfl s' hs=>?_) λe s' z=>?_
 ·have fin:∀{σ':St} {H':Hp} {v:V} {u:Value},Inv (cxC P w K mg base N qual scope cl f cdv A outer s H E) [] σ' H' s'->RelV v u->Q v H'->CE outer P w H s Q u s':=
   λ{σ' H' v u} J rv q=>⟨v,H',J.os,J.bare,J.base,J.hok,rv,q⟩
  cases fl with
  |ret u=>
   obtain⟨v,σ',H',J,rv,q⟩:=hs;exact fin J rv q
  |next=>
   obtain⟨σ',H',J,q⟩:=hs;exact fin (v:=V.non) (u:=Ybm) J rfl q
  |brk=>
   obtain⟨_,_,_,q⟩:=hs
   lia
  |cont=>
   obtain⟨_,_,_,q⟩:=hs
   lia
 ·show wpAny _ _ (leaving _ e) _ _ s';unfold leaving;exact Yac z
theorem Fun.runX  {K: Yab}{st:Stmt} 
  (F:Fun K x qual st f fd) (S:FnScope N ps (jaa st)) (hr:Room (k+1) A) (e0:Env0 P w K mg base A outer s H) (hb:BindsTo s fd args (ps.zip us)) (r:Vals vs us) (hl:vs.length=ps.length)
  (hbody:∀cdv,fd.code=cdv->Room k (A.deeper (envOfC qual (jaa st) s.heap.objs.size f cdv))->∃t,PSs (cx1 P w K mg base N qual (jaa st) f cdv A outer s H E) (jag st) t/\t { nx:=λ_ H'=>Q .non H',rt:=Q } (start N vs) H) :
  codeAny (model P w) A (.call (.ref f) args) (CR (CX1 P w) outer P w H s Q E) s:=by
 obtain⟨oc,od,kV,doc,pm,an,cdv,ct,osl,rfl,lk,hcd⟩:=F.ex;have kx:K.In s.heap:=e0.mod.kin.keeps λb o e=>(e0.bs b o e).1;have hcell:∀y∈ps.zip us,(jaa st).names.lookup y.1=some .local\/((jaa st).names.lookup y.1=some .cell/\((Ya7 (s.heap.objs.size+1) (jaa st).names []).lookup y.1).isSome=true):=λ⟨n,v⟩ hy=>
  (S.par n (Ycf hy).1).imp id λq=>⟨q,Yce _ _ _ (.inl q)⟩
 refine Ydt hr.depth (kx _ _ lk) rfl S.co S.gen rfl (Ydh kx hcd) (hb _ _ _ _ (YcW S.kind hcell λenv he s1 y=>?_));subst he;refine⟨(e0.mod.nolimit.keeps λb o e=>(e0.bs b o e).1).keeps y.toInCall.keep,YfO ?_⟩;obtain⟨t,ht,hq⟩:=hbody cdv rfl (hr.deeper _);have I:Inv (cxOf (CX1 P w) P w K mg base N qual (jaa st) f cdv A outer s H E) [] (start N vs) H s1:=jd8 S hr.hd e0 hl r y;refine YaL (ht [] s1 (start N vs) H _ (I.wish _) hq) (λfl s' hs=>?_) λe s' z=>?_
 ·cases fl with
  |ret u=>obtain⟨v,σ',H',J,rv,q⟩:=hs;exact⟨v,H',J.os,J.bare,J.base,J.hok,rv,q⟩
  |next=>obtain⟨σ',H',J,q⟩:=hs;exact⟨.non,H',J.os,J.bare,J.base,J.hok,rfl,q⟩
  |brk=>obtain⟨_,_,_,q⟩:=hs;lia
  |cont=>obtain⟨_,_,_,q⟩:=hs;lia
 ·show wpAny _ _ (leaving _ e) _ _ s';unfold leaving;exact Yac z
theorem CX1.outC  {K: Yab}{σ:St} 
  (I:Inv (cxC P w K mg base N qual scope cl f cd A outer s H E) pins σ H' s') (l:Lies s.heap.objs.size [] H' s'.heap ea cls dx) (q:E cls dx H'):(cxC P w K mg base N qual scope cl f cd A outer s H E).xe (.ref ea) s':=by
 have J:Inv (cxC P w K mg base N qual scope cl f cd A outer s H E) [] σ H' s':=I.pins_of λp hp=>absurd hp (by simp)
 exact jiO (X:=cxC P w K mg base N qual scope cl f cd A outer s H E) (E:=λe s'=>CX1 P w outer H s E e s') J rfl rfl l λh' J' l'=>⟨ea,H',cls,dx,rfl,J'.os,J'.bare,J'.base,J'.hok,l',q⟩
def jmx  (o:Obj)(q:Str):Prop:=∃vs t,o.data=.fields vs/\vs[1]?=some (.str q t)
noncomputable abbrev frzC  (o:Obj):HO:=.frz o (.ext λ_=>True)
def jkV  (H:Hp)(P:Addr)(pos:Pos)(q:Str):Prop:=
 H P=some (.tbl #[])\/∃c oc,H P=some (.tbl #[rawInt pos.line,rawInt pos.col,.ref c])/\H c=some (frzC oc)/\jmx oc q
def jkW  (H H':Hp)(P:Addr)(pos:Pos)(q:Str)(c:Addr)(oc:Obj):Prop:=
 H' c=some (frzC oc)/\jmx oc q/\(H'=H\/(H P=some (.tbl #[])/\H c=none/\H'=upd (upd H c (frzC oc)) P (.tbl #[rawInt pos.line,rawInt pos.col,.ref c])))
def BmAt  (mg:Str->Option Value)(base:Heap):Prop:=∃bm ob,mg "__builtins__" = some (.ref bm)/\bm≠Ydy/\base.get? bm=some ob/\ob.cls=.type "module" /\ ob.dict=some Ydy/\ob.data=.plain

theorem jj1  {σ: St}(I:Inv X pins σ H s)(hN:X.N.Nodup)(hi:X.N[i]?=some name)(hx:Loc X.env.scope name)(hfn:X.fn name=true\/X.env.scope.names.lookup name=some .local)
  (hcd:X.env.code=.ref c) (hC:CodeHd X.base c P) (hB:BmAt X.mg X.base) (hT:jkV H P pos (YcJ X.env name name)) (hd0:params.defaults=[]) (hk0:params.kw_defaults=[]) (ha:annTrees params none X.env=[])
  (hfree:∀y∈scope.names,y.2=.free->∃c,X.env.cells.lookup y.1=some c)
  (h:∀f c' oc doc ctv H' s',jkW H H' P pos (YcJ X.env name name) c' oc->
   Inv X (pins++[(f,fnMade name (YcJ X.env name name) params body scope (jci X.env.cells scope.names []) doc ((X.mg "__name__").getD .none) c' ctv)]) (σ.set i (some (.ref f))) H' s'->Q .next s') :
  wpAny (model X.prog X.w) X.A (exec (.FunctionDef name params body [] none [] scope none name pos) X.env) Q X.xe s:=by
 refine nestDef_K hd0 hk0 ha ?_;have hg:s.heap.Ns Yaw X.mg:=I.mod.glob.keeps I.bk;obtain⟨bm,ob,b1,b2,b3,b4,b5,b6⟩:=hB;have b3s:=I.bk _ _ b3;have neG:bm≠Yaw:=λq=>by
  obtain⟨o,es,ep,e,hd,_⟩:=hg
  lia
 have noP:∀{ps:Array Value},s.heap.get? P=some (tabObj ps)->Yaw≠P/\bm≠P:=by
  intro ps hP;constructor
  ·intro q;obtain⟨o,es,ep,e,hd,_⟩:=hg
   lia
  lia
 have pinOk:∀{f:Addr} {fo:Obj} {H':Hp} {s':Shared},s.heap.objs.size<=f->s'.heap.get? f=some fo->H' f=none->(∀v,fo.data≠.cell v)->Inv X pins σ H' s'->Inv X (pins++[(f,fo)]) σ H' s':=λ{f fo H' s'} hf hg hn hd J=>
  J.pins_of λp hp=>(List.mem_append.mp hp).elim (λz=>J.pin p (Yas _ z)) λz=>by
   rw[List.mem_singleton.mp z];exact⟨hg,hn,Nat.ne_of_gt (Yap I.lt hf),I.nofs hf,hd⟩
 rcases hT with hP|⟨c',oc,hP,hc',hco⟩
 ·have gP:s.heap.get? P=some (tabObj #[]):=I.hok P _ hP;refine makeFunction_K (mg:=X.mg) (jc5 hfree) I.ok.glob hg hcd (hC.keeps I.bk) gP trivial rfl (noP gP).1 ⟨bm,ob,b1,b2,neG,(noP gP).2,b3s,b4,b5,b6⟩ λc' ctv doc h' tk hx1 hge hlt hrec htb=>?_;obtain⟨c2,oc,vs,t,e2,hoc,hdc,hvc⟩:=hrec;cases e2;have hcn:H c'=none:=I.hok.fresh hge;have hcP:c'≠P:=λz=>by lia
  have htb':h'.get? P=some (tabObj #[rawInt pos.line,rawInt pos.col,.ref c']):=by
   simp_all
  let fo:=fnMade name (YcJ X.env name name) params body scope (jci X.env.cells scope.names []) doc ((X.mg "__name__").getD .none) c' ctv
  let H':=upd (upd H c' (frzC oc)) P (.tbl #[rawInt pos.line,rawInt pos.col,.ref c'])
  have oth:∀b,b≠P->b≠c'->H' b=H b:=λb h1 h2=>by show upd _ _ _ b=_;rw[jae h1,jae h2]
  have hPP:H' P=some (.tbl #[rawInt pos.line,rawInt pos.col,.ref c']):=jah;have hcc:H' c'=some (frzC oc):=by show upd _ _ _ c'=_;rw[jae hcP,jah]
  have neP:∀b,H b=none->b≠P:=λb n z=>by lia
  have neC:∀b o,s.heap.get? b=some o->b≠c':=λb o e z=>absurd (Yam e) (Nat.not_lt.mpr (z ▸ hge));have kp:∀b o,b≠P->s.heap.get? b=some o->(h'.push fo).get? b=some o:=λb o hb e=>Yad _ (hx1 b o hb e);have trc:∀b u,H b=some u->b≠c':=λb u e z=>by lia
  have un:Un X.fs [] H H' s.heap (h'.push fo):=by
   refine⟨λb o e n _ _=>kp b o (neP b n) e,λb o e n _ _=>⟨o.slots,kp b o (neP b n) e⟩,λb o e n _=>?_,λb o e _=>?_,λb xs e=>?_,λb o u e=>?_,λb ps e=>?_⟩
   ·simp_all
   ·by_cases hb:b=P
    ·exact⟨_,by rw[hb];exact Yad _ htb'⟩
    simp_all
   ·grind
   ·grind
   ·by_cases hb:b=P
    ·simp_all
    simp_all
  have hok:HOk X.prog X.w H' (h'.push fo):=λb u e=>by
   by_cases hb:b=P
   ·subst hb;rw[hPP]at e;cases e;exact Yad _ htb'
   ·by_cases hbc:b=c'
    ·subst hbc;rw[hcc]at e;cases e;exact⟨Yad _ hoc,trivial,⟨_,Yad _ hoc⟩,λ_ _ _ _=>trivial⟩
    ·rw[oth b hb hbc]at e;refine(I.hok b u e).stay (λd v hd q=>kp d v ?_ q) (λd q=>?_) λd xs q=>?_
     ·lia
     ·grind
     grind
  have hfs:s.heap.objs.size<=h'.objs.size:=YbY (Ya0 hge hlt);have hfn':H' h'.objs.size=none:=by
   have hn:H h'.objs.size=none:=I.hok.fresh hfs
   grind
  have J:=pinOk (fo:=fo) (s':={ s with heap:=h'.push fo,toks:=tk }) hfs (YaA _ rfl) hfn' (λv z=>by cases z) (I.un (t':=tk) un hok)
  exact jbm J hN hi hx (v:=.ref h'.objs.size) rfl (λs' J'=>h _ c' oc doc ctv H' s' ⟨hcc,⟨vs,t,hdc,hvc⟩,.inr ⟨hP,hcn,rfl⟩⟩ J') hfn
 ·have gP:s.heap.get? P=some (tabObj #[rawInt pos.line,rawInt pos.col,.ref c']):=I.hok P _ hP;refine makeFunction_hit (mg:=X.mg) (cv:=.ref c') (jc5 hfree) I.ok.glob hg hcd (hC.keeps I.bk) gP trivial (by simp[codeAmong,rawInt]) ⟨bm,ob,b1,b2,neG,(noP gP).2,b3s,b4,b5,b6⟩ λctv doc h' tk hk hsz=>?_
  have kp:∀b o,s.heap.get? b=some o->(h'.push (fnMade name (YcJ X.env name name) params body scope (jci X.env.cells scope.names []) doc ((X.mg "__name__").getD .none) c' ctv)).get? b=some o:=λb o e=>Yad _ (hk b o e);have J:=pinOk (fo:=fnMade name (YcJ X.env name name) params body scope (jci X.env.cells scope.names []) doc ((X.mg "__name__").getD .none) c' ctv) (H':=H) (s':={ s with heap:=_,toks:=tk }) hsz (YaA _ rfl) (I.hok.fresh hsz) (λv z=>by cases z) (I.kept (t':=tk) kp)
  exact jbm J hN hi hx (v:=.ref h'.objs.size) rfl (λs' J'=>h _ c' oc doc ctv H s' ⟨hc',hco,.inl rfl⟩ J') hfn
def jkm  (tb:List Addr)(H:Hp):Prop:=∀b,if b∈tb then H b=some (.tbl #[]) else H b=none\/∃o xs,H b=some (.frz o (.lst xs))
theorem law_callT    {K:Yab}{CX:CXT}{k:Nat}{x:Str}{sp:Sp} 
  (hKl:(K.all λp=>p.2.cls != .type "list")=true) (htb:∀b∈tb,s₁.heap.get? b=some (tabObj #[])/\isCodeTable s₁.heap b/\K.lookup b=none) (hbm:BmAt mg s₁.heap)
  (KX:K.In s₁.heap) (hsys:∃o,K.lookup Ya3=some o/\o.cls=.type "dict") (hns:s₁.heap.Ns Yaw mg) (hb:s₁.heap.Ns Ydy mb) (hbb:∀x:Str,x ≠ "__name__" -> mb x=YbP x) (hlim:s₁.heap.NoLimit) (hg:s₁.gens=#[])
  (ha:s₁.heap.get? a=some { cls:=.type "list",data:=.seq vs.toArray }) (hi:IntsAre vs ns) (hl:ns.length<=Yag) (hr:Room k callerA)
  (F:∀base ,K.In base->base.Ns Yaw mg->BmAt mg base->FnOk P w K mg base CX k fa fd [x] sp) (hbind:∀(s:Shared) u ,BindsTo s fd ⟨[u],[]⟩ [(x,u)])
  (hsp:∀H (o:Obj),jkm tb H->H a=some (.frz o (.lst (ns.map V.int)))->sp [.ref a] H (λv _=>v=.bl true) λ_ _ _=>False)
  (hCX:∀H e s',CX [] H s₁ (λ_ _ _=>False) e s'->False) :
  codeAny (model P w) callerA (.call (.ref fa) ⟨[.ref a],[]⟩) (λr s'=>r=.ok (.ret (.bool true))/\OldK s₁.heap s'.heap/\s'.os=s₁.os/\AllBare s'.gens) s₁:=by
 have ka:K.lookup a=none:=by
  cases hk:K.lookup a with
  |none=>rfl
  |some o=>
   have e:=KX a o hk;rw[ha]at e;cases e;have:=List.all_eq_true.mp hKl (a,_) (mem_of_lookupK hk)
   lia
 let oa:Obj:={ cls:=.type "list",data:=.seq vs.toArray }
 have hat:a∉tb:=λz=>by
  simp_all
 obtain⟨H,hH⟩:∃H:Hp,H=λb=>if b∈tb then some (.tbl #[]) else if b=a then some (.frz oa (.lst (ns.map V.int))) else none:=⟨_,rfl⟩
 have H1:∀{b},b∈tb->H b=some (.tbl #[]):=λhb=>by lia
 have H2:H a=some (.frz oa (.lst (ns.map V.int))):=by
  lia
 have H3:∀{b},b∉tb->b≠a->H b=none:=λ{b} h1 h2=>by
  lia
 clear hH;have free:∀{b:Addr} {o:Obj},s₁.heap.get? b=some o->o.cls≠.none->(∀xs n,o.data≠.seq xs n)->H b=none:=λ{b o} e h1 h2=>by
  refine H3 (λz=>?_) λz=>?_
  ·grind
  grind
 have hok:HOk P w H s₁.heap:=λb u e=>by
  by_cases h1:b∈tb
  ·rw[H1 h1]at e;cases e;exact(htb b h1).1
  ·by_cases h2:b=a
   ·subst h2;rw[H2]at e;cases e;exact⟨ha,by simp_all,vs,_,jfj hi,ha⟩
   simp_all
 have nsK:∀{b:Addr} {m:Str->Option Value},s₁.heap.Ns b m->(hidT s₁.heap H).Ns b m:=λ{b m} ⟨o,es,ep,e,d,r⟩=>by
  refine⟨o,es,ep,je8 e (H3 (λz=>?_) λz=>?_),d,r⟩
  ·grind
  lia
 have hKb:K.In (hidT s₁.heap H):=λb o e=>je8 (KX b o e) (H3 (λz=>by grind) λz=>by lia)
 have hM:Mod K mg (hidT s₁.heap H):=⟨hKb,nsK hns,⟨mb,nsK hb,hbb⟩,let ⟨mc,h1,h2⟩:=hlim;⟨mc,nsK h1,h2⟩,hsys⟩
 have hBb:BmAt mg (hidT s₁.heap H):=by
  obtain⟨bm,ob,b1,b2,b3,b4,b5,b6⟩:=hbm;exact⟨bm,ob,b1,b2,je8 b3 (free b3 (by lia) (by lia)),b4,b5,b6⟩
 have e0:Env0 P w K mg (hidT s₁.heap H) callerA [] s₁ H:=⟨rfl,hM,λb o e=>jlU e,YdS (jiY _ _),trivial,λb hb=>(nomatch hb),hok,.of_eq hg⟩;have only:jkm tb H:=λb=>by
  grind
 refine YcZ ((F _ hKb (nsK hns) hBb).run callerA [] s₁ H ⟨[.ref a],[]⟩ [.ref a] [.ref a] _ _ hr e0 (hbind s₁ (.ref a)) (.cons rfl .nil) (hsp H oa only H2)) λr s' h=>?_
 match r,h with
 |.error e,h=>exact(hCX H e s' h).elim
 |.ok (.ret u),h=>
  obtain⟨v,H',os,bare,un,hok',r',q⟩:=h;have q':v=.bl true:=q;subst q';obtain rfl:u=Yen true:=r';refine⟨rfl,⟨λb o e=>?_,λb o e=>un.there b o e (by simp)⟩,os,bare⟩
  by_cases h1:b∈tb
  ·obtain⟨e1,ht,_⟩:=htb b h1;rw[e]at e1;cases e1;obtain⟨more,e2⟩:=un.tbls b _ (H1 h1);exact .inr (.inl ⟨ht,rfl,#[],more,rfl,hok' b _ e2⟩)
  ·by_cases h2:b=a
   ·subst h2;obtain⟨e2,_⟩:=hok' b _ (un.frzs b _ _ H2);rw[ha]at e;cases e;exact .inl e2
   ·exact .inl (un.keep b o e (H3 h1 h2) (by intro z;exact(nomatch z)) (by simp))
theorem walk_ofT  {l:YdK}{K:Params->Yab}{CX:World->CXT}{sp:World->Sp}{tbs:List (Str×Addr×Addr)}
  (hKl:∀w:World,((K w.params).all λp=>p.2.cls != .type "list")=true) (htb:∀(w:World),∀t∈tbs,(∃dr,(recsOf q).find? (λe=>e.name==t.1)=some dr)/\tabIn (K w.params) t.1=some (t.2.1,t.2.2)/\(K w.params).lookup t.2.2=none)
  (hn:l.most=some n) (hn2:n<=Yag) (hdf:d.params.defaults=[]) (hr:Room k callerA)
  (hY:∀(w:World) (h:Heap),YP w h->(K w.params).In h) (hsy:∀w:World,∃o,(K w.params).lookup Ya3=some o/\o.cls=.type "dict")
  (F:∀(w:World) mg fa (h:Heap),(K w.params).In h->h.Ns Yaw mg->mg d.name=some (.ref fa)->
   ∃fd ,(∀(s:Shared) u ,BindsTo s fd ⟨[u],[]⟩ [(x,u)])/\
    ∀base ,(K w.params).In base->base.Ns Yaw mg->BmAt mg base->FnOk l.prog w (K w.params) mg base (CX w) k fa fd [x] (sp w))
  (hsp:∀(w:World) H (o:Obj) a (ns:List Int),ns.length<=n->jkm (tbs.map (·.2.2)) H->H a=some (.frz o (.lst (ns.map V.int)))->sp w [.ref a] H (λv _=>v=.bl true) λ_ _ _=>False)
  (hCX:∀(w:World) H (s:Shared) (e:Value) s' ,CX w [] H s (λ_ _ _=>False) e s'->False) :
  YfQ q loose XP YP l.row.toRowW d [] (λf vs=>Yfq f vs):=by
 refine Att.attach_call hn hdf λw s₀ s₁ mg mb fa o pm cd doc a vs ns G Y ho hd hcd hmg hobj hints hlen hg=>?_;have kx:=hY w _ Y;obtain⟨fd,hb,hF⟩:=F w mg fa _ kx G.T.g hmg;refine law_callT (tb:=tbs.map (·.2.2)) (hKl w) (λb hb=>?_) ?_ kx (hsy w) G.T.g G.T.b G.T.builtins G.T.nolimit hg hobj hints (Yaf hlen hn2) hr hF hb (λH o hO hS=>hsp w H o a ns hlen hO hS) λH e s'=>hCX w H s₁ e s'
 ·obtain⟨t,ht,rfl⟩:=List.mem_map.mp hb;obtain⟨⟨dr,h1⟩,h2,h3⟩:=htb w t ht;obtain⟨c1,c2⟩:=tab_of G.T kx h1 h2;exact⟨c2,(c1.tab c2).isCodeTable,h3⟩
 ·obtain⟨bm,ob,b1,b2,b3,b4,b5,b6⟩:=G.T.bmain;exact⟨bm,ob,b1,b2,b3,b4,b5,b6⟩
end L2

namespace L2
open PySem PySem.Spec PyProof.Rows
open Sem (wp)
open AutoSeq1 (wpAny_loadPart')



end L2

namespace L2
open PySem PySem.Spec PyProof.Rows

theorem jiv  : OpR X (YaF .LtE) (λx y H Q=>∃i j,x=.str i/\y=.str j/\Q (.bl (!decide (j.cps.toList<i.cps.toList))) H):=by
 intro pins s σ H x y v u Q I rx ry h;obtain⟨i,j,rfl,rfl,q⟩:=h;obtain⟨t,rfl⟩:=rx;obtain⟨t',rfl⟩:=ry;exact PySem.P.le_str (jan I q rfl)
theorem jfg  : ja8 X (.type "int") (λxs H Q=>∃z n,xs=[.str z]/\PySem.intText? z=some n/\z.length<=640/\Q (.int n) H):=by
 intro pins s σ H xs us Q I r h;obtain⟨z,n,rfl,h1,h2,q⟩:=h;obtain⟨u,rfl,rx⟩:=jeQ r;obtain⟨t,rfl⟩:=rx;exact PySem.W.KIN.call_text h1 h2 ⟨.int n,H,I.tok _,⟨_,rfl⟩,q⟩
end L2

namespace L2
open PySem PySem.Spec PyProof.Rows Builtin Builtin.Str

end L2

namespace L2
open PySem PySem.Spec PyProof.Rows
section
variable {prog:Program}{w:World}{K:Type}[DecidableEq K]{knd:KeyKind prog w K}{A:Around}{E:Value->Shared->Prop}{s:Shared}
end



end L2

namespace L2
open PySem PySem.Spec PyProof.Rows
open Sem (wp)


end L2

namespace L2
open PySem PySem.Spec PyProof.Rows PySem.W


end L2

namespace L2
open PySem PySem.Spec PyProof.Rows



end L2

namespace L2
open PySem PySem.Spec PyProof.Rows PySem.SeqAt PySem.MeetsSeq

theorem jf3         b u (ho:s.heap.get? l=some o)(hc:o.cls=.type "dict")(hd:o.data=.dict es n)(hu:A.units<cLine):RcAt A s (.str b u) (.ref l) false:=λprog w E Q h=>by
 obtain⟨cls,dd,data,sl⟩:=o;simp only at hc hd;subst hc hd;exact rc_eq_decline_or (k:=false) (Yc6 s b u) ⟨_,ho,rfl⟩ (by decide) F.sub_dict_str F.slot_str_eq YfV
  (λ_ hq=>Ybu F.slot_str_eq (Yc6 s b u) F.entry_str_eq (F.args_str_eq_2 _ _) (jaX b u l es n dd sl) ⟨ho,hq⟩)
  (λ_ hq=>Ybu YfV ⟨_,ho,rfl⟩ F.entry_dict_eq (F.args_dict_eq_2 _ _) (jaY l es n dd sl b u) ⟨ho,hq⟩)
  (λ_ hq=>wpAny_of_eq (rfl:isSame (.str b u) (.ref l)=pure false) hq) (.inr hu) h
theorem EqAt.str_dict         b u (ho:s.heap.get? l=some o)(hc:o.cls=.type "dict")(hd:o.data=.dict es n)(hu:A.units<cLine):EqAt A s (.str b u) (.ref l) false:=λprog w E Q h=>by
 unfold eqBool;exact Yb8 (wpAny_ite_split (λq=>absurd (eq_of_beq q) nofun) λ_=>Yac (jf3 b u ho hc hd hu prog w E _ (YaX h)))
def rInS  (K:Yab)(neg:Bool):R2:=λx y H Q=>∃(a p:Addr) (zs:List Str),x=.ref a/\((∃xs,SqT K H a xs\/SqL K H a xs)\/∃kvs,H a=some (.dK kvs))/\y=.ref p/\SqT K H p (zs.map V.str)/\Q (.bl neg) H
theorem jgQ  : ∀{zs:List Str} {us } {w },Vals (zs.map V.str) us->w∈us->∃z t,w=.str z t
 |[],_,_,.nil,h=>nomatch h
 |_::_,_,_,.cons ⟨t,e⟩ q,h=>by
  rcases YaM.mp h with rfl|h
  ·exact⟨_,t,e⟩
  ·exact jgQ q h
theorem jkK   {σ:St}{zs:List Str}(hu:A.units<cLine)(I:Inv X pins σ H s)(ha:(∃xs,SqT X.K H a xs\/SqL X.K H a xs)\/∃kvs,H a=some (.dK kvs))(r:Vals (zs.map V.str) us):∀w,w∈us->Yeo A s w (.ref a) false:=by
 intro w hw;obtain⟨z,t,rfl⟩:=jgQ r hw;rcases ha with⟨xs,ha|ha⟩|⟨kvs,ha⟩
 ·obtain⟨its,rv,pa,_⟩:=I.tuple ha;exact .str_tuple z t (show s.heap.IsTuple a its.toArray from pa) hu
 ·obtain⟨its,rv,pa,_⟩:=I.list ha;exact .str_list z t pa.isList hu
 ·obtain⟨_,_,vs,_,o,es,ep,ho,hx,hd,_⟩:kvs.length<=Yag/\(a==Ya3)=false/\∃vs,KV kvs vs/\s.heap.DictOf (jar X.prog X.w) a vs:=I.hok a _ ha;exact EqAt.str_dict z t ho hx.1 hd hu
theorem jnE   (hr:Room k X.A):OpR X (YaF .In) (rInS X.K false):=by
 intro pins s σ H x y v u Q I rx ry h;obtain⟨a,p,zs,rfl,ha,rfl,hp,q⟩:=h;cases rx;cases ry;obtain⟨its,r,pl,_⟩:=I.tuple hp;have h1:=jkK (A:=X.A.in1) (by have:=hr.un;simp only[Around.in1]at *;lia) I ha r
 refine YdI (λ_=>false) pl (λw hw=>h1 w (by simp_all)) ⟨.bl _,H,I,rfl,?_⟩
 rw[show its.toArray.any (λ_=>false)=false by simp]
 exact q
theorem jit   (hr:Room k X.A):OpR X (YaF .NotIn) (rInS X.K true):=by
 intro pins s σ H x y v u Q I rx ry h;obtain⟨a,p,zs,rfl,ha,rfl,hp,q⟩:=h;cases rx;cases ry;obtain⟨its,r,pl,_⟩:=I.tuple hp;have h1:=jkK (A:=X.A.in1) (by have:=hr.un;simp only[Around.in1]at *;lia) I ha r
 refine Ydg (λ_=>false) pl (λw hw=>h1 w (by simp_all)) ⟨.bl _,H,I,rfl,?_⟩
 rw[show its.toArray.any (λ_=>false)=false by simp]
 exact q
theorem jhy   (hr:Room k X.A):OpR X (YaF .NotEq) (λx y H Q=>∃a b xs,x=.ref a/\y=.ref b/\SqL X.K H a xs/\SqL X.K H b []/\Q (.bl (!xs.isEmpty)) H):=by
 intro pins s σ H x y v u Q I rx ry h;obtain⟨a,b,xs,rfl,rfl,ha,hb,q⟩:=h;cases rx;cases ry;obtain⟨its,rv,pa,_⟩:=I.list ha;obtain⟨its2,rv2,pb,_⟩:=I.list hb;cases rv2;have hu:X.A.units<cLine:=hr.units0;have pa':s.heap.IsList a its.toArray:=pa.isList;have pb':s.heap.IsList b ([]:List Value).toArray:=pb.isList;cases rv with
 |nil=>
  refine YcE (SeqAt.RcNeAt.lists (e:=λ_=>true) pa' pb' rfl hu λj h1 _=>?_) ⟨.bl false,H,I,rfl,q⟩;simp at h1
 |cons r rr=>
  exact YcE (SeqAt.RcNeAt.lists_lengths pa' pb' (by simp) hu) ⟨.bl true,H,I,rfl,q⟩
end L2

namespace Z
open PySem L2
inductive U where
 |non|bl (b:Bool)|int (i:Int)|str (x:Str)|tup (xs:List U)|loc (a:Addr)|fn (n:Nat)|ty (n:String)
 |exc (c:Nat) (fs:List U)|own (n:Nat)|clo (n:Nat) (cs:List U)
inductive MO where
 |lst (xs:List U)|fro (xs:List U)|dK (kvs:List (Key×U))|dT (kvs:List (List Key×U))|frd (o:Obj) (kvs:List (List Key×U))|frk (o:Obj) (kvs:List (Key×U))
abbrev Gp:=Addr->Option MO
noncomputable def gup  (G:Gp)(a:Addr)(o:MO):Gp:=λb=>if b=a then some o else G b
structure New (G:Gp)(p:Addr)(o:MO)(G':Gp):Prop where
 no:G p=none
 eq:G'=gup G p o
structure Put (G:Gp)(a:Addr)(o:MO)(G':Gp):Prop where
 eq:G'=gup G a o
structure XV where
 c:Nat
 fs:List U
abbrev Sg:=List (Option U)
abbrev K1:=U->Gp->Prop
abbrev KX:=XV->Gp->Prop
def newO  (G:Gp)(o:MO)(Q:K1):Prop:=∀p G',New G p o G'->Q (.loc p) G'
def putO  (G:Gp)(a:Addr)(o:MO)(Q:Gp->Prop):Prop:=∀G',Put G a o G'->Q G'
theorem newO.at     (h:newO G o Q):∀p,G p=none->Q (.loc p) (gup G p o):=λp hp=>h p _ ⟨hp,rfl⟩
theorem putO.at      (h:putO G a o Q):Q (gup G a o):=h _ ⟨rfl⟩
structure En where
 nx:Sg->Gp->Prop
 rt:K1
 ex:XV->Sg->Gp->Prop
noncomputable def lsG  (G:Gp)(a:Addr):Option (List U):=match G a with
 |some (.lst xs)=>some xs
 |some (.fro xs)=>some xs
 |_=>none
noncomputable def kU  : U->Option Key
 |.int i=>some (.inl i)
 |.str x=>some (.inr x)
 |_=>none
noncomputable def kUs  : List U->Option (List Key)
 |[]=>some []
 |u::r=>match kU u,kUs r with
  |some k,some ks=>some (k::ks)
  |_,_=>none
noncomputable def Ku  : Key->U
 |.inl i=>.int i
 |.inr x=>.str x
section
variable {κ α:Type}[DecidableEq κ]
noncomputable def dGet (kvs:List (κ×α))(k:κ):Option α:=(kvs.find? λkv=>decide (kv.1=k)).map (·.2)
noncomputable def dPut (kvs:List (κ×α))(k:κ)(v:α):List (κ×α):=
 if (kvs.any λkv=>decide (kv.1=k))=true then kvs.map (λkv=>if kv.1=k then (kv.1,v) else kv) else kvs++[(k,v)]
def jcz (more:List (κ×α)):List (κ×α):=more.foldl (λacc kv=>dPut acc kv.1 kv.2) []
end
def cut  {α:Type}(xs:List α)(lo hi:Option Int):List α:=(xs.drop (HT.sIx xs.length 0 lo)).take (HT.sIx xs.length xs.length hi-HT.sIx xs.length 0 lo)
mutual
inductive DU (G:Gp):U->PyData->Prop
 |non:DU G .non .none
 |bl (b:Bool):DU G (.bl b) (.bool b)
 |int (i:Int):DU G (.int i) (.int i)
 |str (x:Str):DU G (.str x) (.str x)
 |tup {us:List U} {ds:List PyData}:DUs G us ds->DU G (.tup us) (.tuple ds)
 |lst {a:Addr} {us:List U} {ds:List PyData}:lsG G a=some us->DUs G us ds->DU G (.loc a) (.list ds)
 |dic {a:Addr}:G a=some (.dK [])->DU G (.loc a) (.dict [])
inductive DUs (G:Gp):List U->List PyData->Prop
 |nil:DUs G [] []
 |cons {u:U} {d:PyData} {us:List U} {ds:List PyData}:DU G u d->DUs G us ds->DUs G (u::us) (d::ds)
end
def addU  : U->U->Gp->K1->Prop
 |.int i,.int j,G,Q=>Q (.int (i+j)) G
 |.str x,.str y,G,Q=>x.length+y.length<=Yag/\Q (.str (x++y)) G
 |.tup xs,.tup ys,G,Q=>xs.length+ys.length<=Yag/\Q (.tup (xs++ys)) G
 |.loc a,.loc b,G,Q=>∃xs ys,G a=some (.lst xs)/\G b=some (.lst ys)/\xs.length+ys.length<=Yag/\newO G (.lst (xs++ys)) Q
 |.bl b,.int j,G,Q=>Q (.int ((if b=true then (1:Int) else 0)+j)) G
 |_,_,_,_=>False
def subU  : U->U->Gp->K1->Prop
 |.int i,.int j,G,Q=>Q (.int (i-j)) G
 |.bl b,.int j,G,Q=>Q (.int ((if b=true then (1:Int) else 0)-j)) G
 |.int i,.bl b,G,Q=>Q (.int (i-if b=true then (1:Int) else 0)) G
 |_,_,_,_=>False
def mulU  : U->U->Gp->K1->Prop
 |.int i,.int j,G,Q=>CMul i j/\Q (.int (i*j)) G
 |.loc a,.int k,G,Q=>∃xs,G a=some (.lst xs)/\-(2 ^ 63)<=k/\k<2 ^ 63/\xs.length*k.toNat<=Yag/\newO G (.lst (Yaa k.toNat xs).flatten) Q
 |.tup xs,.int k,G,Q=>xs≠[]/\0<=k/\k<2 ^ 62/\xs.length*k.toNat<=Yag/\Q (.tup (Yaa k.toNat xs).flatten) G
 |.str z,.int k,G,Q=>0<=k/\k<1000/\z.length<=1000/\Q (.str (repS z k.toNat)) G
 |_,_,_,_=>False
def jom  : U->U->Gp->K1->Prop
 |.int i,.int j,G,Q=>0<j/\j<1073741824/\Q (.int (i/j)) G
 |_,_,_,_=>False
def modU  : U->U->Gp->K1->Prop
 |.int i,.int j,G,Q=>0<j/\Q (.int (i%j)) G
 |_,_,_,_=>False
def powU  : U->U->Gp->K1->Prop
 |.int i,.int j,G,Q=>CPow i j/\Q (.int (i ^ j.toNat)) G
 |_,_,_,_=>False
def binU  : Yd5->U->U->Gp->K1->Prop
 |.Add=>addU
 |.Sub=>subU
 |.Mult=>mulU
 |.FloorDiv=>jom
 |.Mod=>modU
 |.Pow=>powU
 |_=>λ_ _ _ _=>False
def jgo  : Yd5->U->U->Gp->K1->Prop
 |.Add,.int i,.int j,G,Q=>Q (.int (i+j)) G
 |.Add,.str x,.str y,G,Q=>x.length+y.length<=Yag/\Q (.str (x++y)) G
 |.Sub,.int i,.int j,G,Q=>Q (.int (i-j)) G
 |.Mult,.int i,.int j,G,Q=>CMul i j/\Q (.int (i*j)) G
 |_,_,_,_,_=>False
def negU  : U->Gp->K1->Prop
 |.int i,G,Q=>Q (.int (-i)) G
 |_,_,_=>False
def Small  (d:PyData):Prop:=d.canLay0=true/\d.depth<=100
noncomputable def eqU  : U->U->Gp->(Bool->Prop)->Prop
 |.non,.non,_,k=>k true
 |.non,.bl _,_,k=>k false
 |.non,.int _,_,k=>k false
 |.non,.str _,_,k=>k false
 |.bl _,.non,_,k=>k false
 |.bl a,.bl b,_,k=>k (decide (a=b))
 |.bl _,.str _,_,k=>k false
 |.int _,.non,_,k=>k false
 |.int i,.int j,_,k=>k (decide (i=j))
 |.int _,.str _,_,k=>k false
 |.str _,.non,_,k=>k false
 |.str _,.bl _,_,k=>k false
 |.str _,.int _,_,k=>k false
 |.str x,.str y,_,k=>k (decide (x=y))
 |x,y,G,k=>∃d e,DU G x d/\DU G y e/\Small d/\Small e/\k (YaG d e)
def eqQ  : U->U->Gp->(Bool->Prop)->Prop
 |.loc a,.str y,G,k=>(∃kvs,G a=some (.dK kvs)/\k false)\/(∃xs,G a=some (.lst xs)/\k false)\/eqU (.loc a) (.str y) G k
 |.tup xs,.tup [],_,k=>k xs.isEmpty
 |.tup _,.str _,_,k=>k false
 |x,y,G,k=>eqU x y G k
def neQ  : U->U->Gp->(Bool->Prop)->Prop
 |.tup xs,.tup [],_,k=>k xs.isEmpty
 |.loc a,.loc b,G,k=>(∃us,G a=some (.lst us)/\G b=some (.lst [])/\k us.isEmpty)\/eqU (.loc a) (.loc b) G k
 |x,y,G,k=>eqU x y G k
def isU  : U->U->(Bool->Prop)->Prop
 |.non,.non,k=>k true
 |.bl a,.bl b,k=>k (decide (a=b))
 |.non,.bl _,k|.non,.int _,k|.non,.str _,k|.non,.tup _,k|.non,.loc _,k=>k false
 |.bl _,.non,k|.int _,.non,k|.str _,.non,k|.tup _,.non,k|.loc _,.non,k=>k false
 |.int _,.bl _,k|.str _,.bl _,k|.tup _,.bl _,k|.loc _,.bl _,k=>k false
 |_,_,_=>False
noncomputable def flat  : U->Bool
 |.non|.bl _|.int _|.str _=>true
 |_=>false
noncomputable def eqF  : U->U->Bool
 |.non,.non=>true
 |.bl a,.bl b=>a==b
 |.bl a,.int b=>(if a then 1 else 0)==b
 |.int a,.bl b=>a==(if b then 1 else 0)
 |.int a,.int b=>a==b
 |.str a,.str b=>a==b
 |_,_=>false
noncomputable def jht  : List U->Option (List Str)
 |[]=>some []
 |.str x::r=>(match jht r with|some l=>some (x::l)|none=>none)
 |_=>none
def inU  : U->U->Gp->(Bool->Prop)->Prop
 |.str x,.str y,_,k=>k (!(Yb5 y x 0 y.length 1).isEmpty)
 |.tup xs,.tup ys,G,k=>((jht ys).isSome=true/\k false)\/∃d ds,DU G (.tup xs) d/\DUs G ys ds/\Small d/\(∀e∈ds,Small e)/\k (ds.any λe=>YaG e d)
 |.loc a,.tup ys,G,k=>(jht ys).isSome=true/\((∃xs,G a=some (.lst xs))\/∃kvs,G a=some (.dK kvs))/\k false
 |x,.tup ys,_,k=>flat x=true/\ys.all flat=true/\k (ys.any λy=>eqF y x)
 |x,.loc a,G,k=>match G a with
  |some (.lst ys)=>(flat x=true/\ys.all flat=true/\k (ys.any λy=>eqF y x))\/
    ∃d ds,DU G x d/\DUs G ys ds/\Small d/\(∀e∈ds,Small e)/\k (ds.any λe=>YaG e d)
  |some (.fro ys)=>flat x=true/\ys.all flat=true/\k (ys.any λy=>eqF y x)
  |some (.dK kvs)=>match kU x with
   |some y=>k (dGet kvs y).isSome
   |none=>False
  |some (.dT kvs)=>match x with
   |.tup xs=>match kUs xs with
    |some y=>k (dGet kvs y).isSome
    |none=>False
   |_=>False
  |some (.frk _ kvs)=>match kU x with
   |some y=>k (dGet kvs y).isSome
   |none=>False
  |_=>False
 |_,_,_,_=>False
def ordU  : CmpOp->U->U->(Bool->Prop)->Prop
 |.Lt,.int i,.int j,k=>k (decide (i<j))
 |.LtE,.int i,.int j,k=>k (decide (i<=j))
 |.LtE,.str x,.str y,k=>k (!decide (y.cps.toList<x.cps.toList))
 |.Gt,.int i,.int j,k=>k (decide (j<i))
 |.GtE,.int i,.int j,k=>k (decide (j<=i))
 |_,_,_,_=>False
def cmpU  : CmpOp->U->U->Gp->(Bool->Prop)->Prop
 |.Eq,x,y,G,k=>eqQ x y G k
 |.NotEq,x,y,G,k=>neQ x y G λb=>k (!b)
 |.Is,x,y,_,k=>isU x y k
 |.IsNot,x,y,_,k=>isU x y λb=>k (!b)
 |.In,x,y,G,k=>inU x y G k
 |.NotIn,x,y,G,k=>inU x y G λb=>k (!b)
 |o,x,y,_,k=>ordU o x y k
def truU  : U->Gp->(Bool->Prop)->Prop
 |.non,_,k=>k false
 |.bl b,_,k=>k b
 |.int i,_,k=>k (i != 0)
 |.str x,_,k=>x.length<=Yag/\k ((x.length:Int) != 0)
 |.tup xs,_,k=>k (!xs.isEmpty)
 |.loc a,G,k=>match G a with
  |some (.lst xs)=>k (!xs.isEmpty)
  |some (.fro xs)=>k (!xs.isEmpty)
  |some (.dK kvs)=>k (!kvs.isEmpty)
  |_=>False
 |_,_,_=>False
def ixU  : U->U->Gp->K1->Prop
 |.tup xs,.int i,G,Q=>match atI xs i with
  |some u=>Q u G
  |none=>False
 |.str x,.int i,G,Q=>x.length<=Yag/\match atI x.cps.toList i with
  |some c=>Q (.str ⟨#[c]⟩) G
  |none=>False
 |.loc a,y,G,Q=>match G a with
  |some (.lst xs)=>(match y with|.int i=>(match atI xs i with|some u=>Q u G|none=>False)|_=>False)
  |some (.fro xs)=>(match y with|.int i=>(match atI xs i with|some u=>Q u G|none=>False)|_=>False)
  |some (.dK kvs)=>(match kU y with|some k=>(match dGet kvs k with|some u=>Q u G|none=>False)|none=>False)
  |some (.dT kvs)=>(match y with|.tup ys=>(match kUs ys with|some k=>(match dGet kvs k with|some u=>Q u G|none=>False)|none=>False)|_=>False)
  |some (.frk _ kvs)=>(match kU y with|some k=>(match dGet kvs k with|some u=>Q u G|none=>False)|none=>False)
  |_=>False
 |_,_,_,_=>False
def slU  : U->Option Int->Option Int->Gp->K1->Prop
 |.tup xs,lo,hi,G,Q=>Q (.tup (cut xs lo hi)) G
 |.str x,lo,hi,G,Q=>x.length<=Yag/\Q (.str (YeZ x lo hi)) G
 |.loc a,lo,hi,G,Q=>match lsG G a with
  |some xs=>newO G (.lst (cut xs lo hi)) Q
  |none=>False
 |_,_,_,_,_=>False
def revU  : U->U->Gp->K1->Prop
 |.tup xs,.int i,G,Q=>i=-1/\Q (.tup xs.reverse) G
 |.loc a,.int i,G,Q=>match lsG G a with
  |some xs=>(i=1\/i=-1)/\newO G (.lst (if i=1 then xs else xs.reverse)) Q
  |none=>False
 |_,_,_,_=>False
def setU  : U->U->U->Gp->(Gp->Prop)->Prop
 |.loc a,y,v,G,Q=>match G a with
  |some (.lst xs)=>(match y with|.int i=>(match ixN xs.length i with|some j=>putO G a (.lst (xs.set j v)) Q|none=>False)|_=>False)
  |some (.dK kvs)=>(match kU y with|some k=>kvs.length<Yag/\putO G a (.dK (dPut kvs k v)) Q|none=>False)
  |some (.dT kvs)=>(match y with|.tup ys=>(match kUs ys with|some k=>kvs.length<Yag/\putO G a (.dT (dPut kvs k v)) Q|none=>False)|_=>False)
  |_=>False
 |_,_,_,_,_=>False
inductive Blt|len|repr|min|max|sum|all|any|sorted|int|str|isi
 deriving DecidableEq
inductive Mth|append|extend|insert|pop|reverse|index|join|get|split|setd|clear|count|upper
 deriving DecidableEq
noncomputable def jfH  : List U->Option (List Int)
 |[]=>some []
 |.int i::r=>(match jfH r with|some l=>some (i::l)|none=>none)
 |_=>none
noncomputable def jeo  : List U->Option (List Bool)
 |[]=>some []
 |.bl x::r=>(match jeo r with|some l=>some (x::l)|none=>none)
 |_=>none
noncomputable def tyN  : U->Gp->Option String
 |.non,_=>some "NoneType"
 |.bl _,_=>some "bool"
 |.int _,_=>some "int"
 |.str _,_=>some "str"
 |.tup _,_=>some "tuple"
 |.loc a,G=>match G a with
  |some (.lst _)=>some "list"
  |some (.dK _)=>some "dict"
  |some (.dT _)=>some "dict"
  |_=>none
 |_,_=>none
def isiU  (x:U)(G:Gp)(t:String):Option Bool:=match tyN x G with
 |some n=>if t∈["bool", "int", "str", "list", "tuple", "dict"] then some (n==t||(n == "bool" && t == "int")) else none
 |none=>none
def lenU  : List U->Gp->K1->Prop
 |[.tup xs],G,Q=>Q (.int xs.length) G
 |[.str x],G,Q=>x.length<=Yag/\Q (.int x.length) G
 |[.loc a],G,Q=>(match G a with
  |some (.lst xs)=>Q (.int xs.length) G
  |some (.fro xs)=>Q (.int xs.length) G
  |some (.dK kvs)=>Q (.int kvs.length) G
  |_=>False)
 |_,_,_=>False
def jhu  : List U->Gp->K1->Prop
 |[u],G,Q=>∃d,DU G u d/\Fits 16000000 60 d/\Q (.str d.shown) G
 |_,_,_=>False
def minU  : List U->Gp->K1->Prop
 |[.int i,.int j],G,Q=>Q (.int (if j<i then j else i)) G
 |_,_,_=>False
def jnV  (xs:List U)(G:Gp)(Q:K1):Prop:=match jfH xs with
 |some ns=>ns≠[]/\∀z∈ns,(∀y∈ns,y<=z)->Q (.int z) G
 |none=>False
def maxU  : List U->Gp->K1->Prop
 |[.int i,.int j],G,Q=>Q (.int (if j>i then j else i)) G
 |[.loc a],G,Q=>(match G a with
  |some (.lst xs)=>jnV xs G Q
  |_=>False)
 |[.tup xs],G,Q=>jnV xs G Q
 |_,_,_=>False
def sumU  : List U->Gp->K1->Prop
 |[.loc a],G,Q=>(match G a with
  |some (.lst xs)=>(match jfH xs with|some ns=>Q (.int ns.sum) G|none=>False)
  |_=>False)
 |_,_,_=>False
def allU  : List U->Gp->K1->Prop
 |[.loc a],G,Q=>(match G a with
  |some (.lst xs)=>(match jeo xs with|some bs=>Q (.bl (bs.all id)) G|none=>False)
  |_=>False)
 |_,_,_=>False
def intU  : List U->Gp->K1->Prop
 |[.int i],G,Q=>Q (.int i) G
 |[.bl b],G,Q=>Q (.int (if b then 1 else 0)) G
 |[.str z],G,Q=>∃n,PySem.intText? z=some n/\z.length<=640/\Q (.int n) G
 |_,_,_=>False
def jhO  : List U->Gp->K1->Prop
 |[x,.ty t],G,Q=>(match isiU x G t with|some b=>Q (.bl b) G|none=>False)
 |_,_,_=>False
def bltU  : Blt->List U->Gp->K1->Prop
 |.len=>lenU
 |.repr=>jhu
 |.min=>minU
 |.max=>λ_ _ _=>False
 |.sum=>sumU
 |.all=>allU
 |.any=>λ_ _ _=>False
 |.sorted=>λ_ _ _=>False
 |.int=>intU
 |.str=>λ_ _ _=>False
 |.isi=>jhO
def jgG  : U->List U->Gp->K1->Prop
 |.loc a,[v],G,Q=>(match G a with
  |some (.lst xs)=>xs.length<Yag/\putO G a (.lst (xs++[v])) (Q .non)
  |_=>False)
 |_,_,_,_=>False
def jgs  : U->List U->Gp->K1->Prop
 |.loc a,[.loc b],G,Q=>(match G a,G b with
  |some (.lst xs),some (.lst ys)=>xs.length+ys.length<=Yag/\putO G a (.lst (xs++ys)) (Q .non)
  |_,_=>False)
 |_,_,_,_=>False
def popU  : U->List U->Gp->K1->Prop
 |.loc a,[],G,Q=>(match G a with
  |some (.lst xs)=>(match xs[xs.length-1]? with|some v=>putO G a (.lst xs.dropLast) (Q v)|none=>False)
  |_=>False)
 |.loc a,[.int i],G,Q=>(match G a with
  |some (.lst xs)=>-(2 ^ 63)<=i/\i<2 ^ 63/\(match YfK i xs.length with
   |some k=>(match xs[k]? with|some v=>putO G a (.lst (xs.eraseIdx k)) (Q v)|none=>False)
   |none=>False)
  |_=>False)
 |_,_,_,_=>False
def getU  : U->List U->Gp->K1->Prop
 |.loc a,[y,d],G,Q=>(match G a with
  |some (.dK kvs)=>(match kU y with
   |some k=>Q ((dGet kvs k).getD d) G
   |none=>False)
  |some (.dT kvs)=>∃k:List Key,y=.tup (k.map Ku)/\Q ((dGet kvs k).getD d) G
  |_=>False)
 |_,_,_,_=>False
def jaW  : Mth->U->List U->Gp->K1->Prop
 |.append=>jgG
 |.extend=>jgs
 |.insert=>λ_ _ _ _=>False
 |.pop=>popU
 |.reverse=>λ_ _ _ _=>False
 |.index=>λ_ _ _ _=>False
 |.join=>λ_ _ _ _=>False
 |.get=>getU
 |.split=>λ_ _ _ _=>False
 |.setd=>λ_ _ _ _=>False
 |.clear=>λ_ _ _ _=>False
 |.count=>λ_ _ _ _=>False
 |.upper=>λ_ _ _ _=>False
noncomputable def mtU  : Mth->U->Gp->Option (String×String)
 |.append,x,G=>(match x with|.loc a=>(match G a with|some (.lst _)=>some ("list", "list.append")|_=>none)|_=>none)
 |.extend,x,G=>(match x with|.loc a=>(match G a with|some (.lst _)=>some ("list", "list.extend")|_=>none)|_=>none)
 |.insert,_,_=>none
 |.pop,x,G=>(match x with|.loc a=>(match G a with|some (.lst _)=>some ("list", "list.pop")|_=>none)|_=>none)
 |.reverse,_,_=>none
 |.index,_,_=>none
 |.join,_,_=>none
 |.get,x,G=>(match x with|.loc a=>(match G a with|some (.dK _)=>some ("dict", "dict.get")|some (.dT _)=>some ("dict", "dict.get")|_=>none)|_=>none)
 |.split,_,_=>none
 |.setd,_,_=>none
 |.clear,_,_=>none
 |.count,_,_=>none
 |.upper,_,_=>none
noncomputable def clsA  : List (Str×List Str):=[("PlanError",[]),("NoPaper",["word", "at"]),("TooMany",["word"]),("NoRing",["word"]),("NoText",["row", "word"]),("NoRow",["row"])]
def clsN  (c:Nat):Str:=(clsA.getD c ("",[])).1
def clsF  (c:Nat):List Str:=(clsA.getD c ("",[])).2
inductive HL where
 |is1 (c:Nat)|isi (cs:List Nat)|isiV|v (i:Nat)
inductive HA where
 |str (x:Str)|att (f:Str)
inductive HV where
 |cond (k:Bool) (a:Bool×HL) (as:List (Bool×HL))|one (a:HA)|bl (b:Bool)|tup (as:List HA)|lst (as:List HA)
inductive HS where
 |asg (i:Nat) (e:HV)|ifa (k:Bool) (a:Bool×HL) (as:List (Bool×HL)) (i:Nat) (e:HV)
section
variable (x:XV)
noncomputable def litH (ς:Sg):HL->Option Bool
 |.is1 c=>some (decide (x.c=c))
 |.isi cs=>some (cs.contains x.c)
 |.isiV=>some true
 |.v i=>match ς[i]? with
  |some (some (.bl b))=>some b
  |_=>none
def lit1 (ς:Sg)(p:Bool×HL):Option Bool:=match litH x ς p.2 with
 |some b=>some (if p.1=true then !b else b)
 |none=>none
noncomputable def jcE (ς:Sg)(k:Bool):Bool×HL->List (Bool×HL)->Option Bool
 |a,[]=>lit1 x ς a
 |a,b::r=>match lit1 x ς a with
  |some t=>if t=k then jcE ς k b r else some t
  |none=>none
def atH:HA->Option U
 |.str y=>some (.str y)
 |.att f=>((clsF x.c).zip x.fs).lookup f
noncomputable def atsH:List HA->Option (List U)
 |[]=>some []
 |a::r=>match atH x a,atsH r with
  |some u,some us=>some (u::us)
  |_,_=>none
def hvH (ς:Sg):HV->Gp->K1->Prop
 |.cond k a as,G,Q=>match jcE x ς k a as with
  |some b=>Q (.bl b) G
  |none=>False
 |.one a,G,Q=>match atH x a with
  |some u=>Q u G
  |none=>False
 |.bl b,G,Q=>Q (.bl b) G
 |.tup as,G,Q=>match atsH x as with
  |some us=>Q (.tup us) G
  |none=>False
 |.lst as,G,Q=>match atsH x as with
  |some us=>newO G (.lst us) Q
  |none=>False
def hsH:List HS->Sg->Gp->(Sg->Gp->Prop)->Prop
 |[],ς,G,k=>k ς G
 |.asg i e::r,ς,G,k=>hvH x ς e G λu G1=>hsH r (ς.set i (some u)) G1 k
 |.ifa q a as i e::r,ς,G,k=>match jcE x ς q a as with
  |some true=>hvH x ς e G λu G1=>hsH r (ς.set i (some u)) G1 k
  |some false=>hsH r ς G k
  |none=>False
end
mutual
inductive Tg where
 |n (i:Nat)|t (ts:Tgs)
inductive Tgs where
 |nil|cons (t:Tg) (ts:Tgs)
end
mutual
inductive E where
 |v (i:Nat)|non|bl (b:Bool)|int (i:Int)|str (x:Str)|g (n:Nat)|bin (o:Yd5) (a b:E)|neg (a:E)|not (a:E)|bop (k:Bool) (a:E) (es:Es)|cmp (o:CmpOp) (a b:E)|cmp2 (o p:CmpOp) (a b c:E)|ife (c a b:E)|tup (es:Es)|lst (es:Es)|dic (es:Es)|ix (a b:E)|sl (a:E) (lo hi:Eo)|rev (a st:E)|call (n:Nat) (es:Es)|app (i:Nat) (es:Es)|blt (b:Blt) (es:Es)|meth (m:Mth) (o:E) (es:Es)|ty (n:String)|lc (pick:List (Option Nat)) (t:Tg) (it:It) (ifs:Es) (e:E)|mkT (e:E)
inductive Eo where
 |no|so (e:E)
inductive Es where
 |nil|cons (e:E) (es:Es)
inductive It where
 |e (e:E)|r1 (e:E)
end
mutual
inductive S where
 |expr (e:E)|asg (t:Tg) (e:E)|asgC (i:Nat) (e:E)|setS (o i e:E)|par (is:List Nat) (es:Es)|aug (i:Nat) (o:Yd5) (e:E)|ite (c:E) (a b:Ss)|fr (t:Tg) (it:It) (b:Ss)|wh (c:E) (b:Ss)|ret (e:E)|raise (c:Nat) (es:Es)|tr (b:Ss) (c:Nat) (n:Nat) (h:List HS)
inductive Ss where
 |nil|cons (s:S) (ss:Ss)
end
mutual
noncomputable def tgU:Tg->U->Sg->(Sg->Prop)->Prop
 |.n i,u,ς,k=>k (ς.set i (some u))
 |.t ts,u,ς,k=>match u with
  |.tup us=>tgsU ts us ς k
  |_=>False
noncomputable def tgsU:Tgs->List U->Sg->(Sg->Prop)->Prop
 |.nil,us,ς,k=>us=[]/\k ς
 |.cons t ts,us,ς,k=>match us with
  |[]=>False
  |u::r=>tgU t u ς λς'=>tgsU ts r ς' k
end
abbrev Cl:=Nat->List U->Gp->K1->KX->Prop
def slot  (ς:Sg)(i:Nat)(k:U->Prop):Prop:=match ς[i]? with
 |some (some u)=>k u
 |_=>False
noncomputable def jdd  (pick:List (Option Nat))(ς:Sg):Sg:=pick.map λo=>o.bind λj=>(ς[j]?).join
def jfb  (ok:Gp->Prop)(b:U->Gp->(Option U->Gp->Prop)->Prop):List U->List U->Gp->(List U->Gp->Prop)->Prop
 |[],acc,G,k=>ok G/\k acc G
 |x::xs,acc,G,k=>ok G/\b x G λo G'=>jfb ok b xs (match o with|some u=>acc++[u]|none=>acc) G' k
def forL  (ok:Gp->Prop)(b:U->Sg->Gp->(Sg->Gp->Prop)->Prop):List U->Sg->Gp->(Sg->Gp->Prop)->Prop
 |[],ς,G,k=>ok G/\k ς G
 |x::xs,ς,G,k=>ok G/\b x ς G λς' G'=>forL ok b xs ς' G' k
noncomputable def rngU  (i:Int)(n:Nat):List U:=(Ya9 n).map λk:Nat=>.int (i+k)
def itU  : U->Gp->(List U->(Gp->Prop)->Prop)->Prop
 |.tup xs,_,k=>k xs λ_=>True
 |.loc a,G,k=>match lsG G a with
  |some xs=>k xs λG'=>lsG G' a=some xs
  |none=>False
 |_,_,_=>False
def fpU  : U->(Str->Prop)->Prop
 |.str z,k=>z.length<=10000/\k z
 |.int i,k=>i.natAbs.log2<1920/\k (toString i:String)
 |_,_=>False
def glU  (gs:List U)(n:Nat)(k:U->Prop):Prop:=match gs[n]? with
 |some u=>k u
 |none=>False
abbrev UE:=Sg->Gp->K1->KX->Prop
abbrev UT:=Sg->Gp->(Bool->Gp->Prop)->KX->Prop
abbrev UA:=Sg->Gp->(List U->Gp->Prop)->KX->Prop
def truT  (t:UE):UT:=λς G Q X=>t ς G (λx G1=>truU x G1 λb=>Q b G1) X
noncomputable abbrev tp  (t:UE):UE×UT:=(t,truT t)
noncomputable def comb  : Bool->UE×UT->UE×UT->UE×UT
 |true,p,q=>(λς G Q X=>p.1 ς G (λx G1=>truU x G1 λc=>if c=true then q.1 ς G1 Q X else Q x G1) X,λς G Q X=>p.2 ς G (λc G1=>if c=true then q.2 ς G1 Q X else Q false G1) X)
 |false,p,q=>(λς G Q X=>p.1 ς G (λx G1=>truU x G1 λc=>if c=true then Q x G1 else q.1 ς G1 Q X) X,λς G Q X=>p.2 ς G (λc G1=>if c=true then Q true G1 else q.2 ς G1 Q X) X)
section
variable (gs:List U)(Δ:Cl)
mutual
noncomputable def den:E->UE×UT
 |.v i=>tp λς G Q _=>slot ς i λu=>Q u G
 |.non=>tp λ_ G Q _=>Q .non G
 |.bl b=>tp λ_ G Q _=>Q (.bl b) G
 |.int i=>tp λ_ G Q _=>Q (.int i) G
 |.str x=>tp λ_ G Q _=>Q (.str x) G
 |.g n=>tp λ_ G Q _=>glU gs n λu=>Q u G
 |.bin o a b=>tp λς G Q X=>(den a).1 ς G (λx G1=>(den b).1 ς G1 (λy G2=>binU o x y G2 Q) X) X
 |.neg a=>tp λς G Q X=>(den a).1 ς G (λx G1=>negU x G1 Q) X
 |.not a=>(λς G Q X=>(den a).1 ς G (λx G1=>truU x G1 λb=>Q (.bl (!b)) G1) X,
   λς G Q X=>(den a).2 ς G (λb G1=>Q (!b) G1) X)
 |.bop k a es=>denB k (den a) es
 |.cmp o a b=>tp λς G Q X=>(den a).1 ς G (λx G1=>(den b).1 ς G1 (λy G2=>cmpU o x y G2 λc=>Q (.bl c) G2) X) X
 |.cmp2 o p a b c=>tp λς G Q X=>(den a).1 ς G (λx G1=>(den b).1 ς G1 (λy G2=>cmpU o x y G2 λt=>if t=true then (den c).1 ς G2 (λz G3=>cmpU p y z G3 λt'=>Q (.bl t') G3) X else Q (.bl false) G2) X) X
 |.ife c a b=>(λς G Q X=>(den c).2 ς G (λt G1=>if t=true then (den a).1 ς G1 Q X else (den b).1 ς G1 Q X) X,
   λς G Q X=>(den c).2 ς G (λt G1=>if t=true then (den a).2 ς G1 Q X else (den b).2 ς G1 Q X) X)
 |.tup es=>tp λς G Q X=>jaw es ς G (λus G1=>us.length<=Yag/\Q (.tup us) G1) X
 |.lst es=>tp λς G Q X=>jaw es ς G (λus G1=>us.length<=Yag/\newO G1 (.lst us) Q) X
 |.dic es=>tp λς G Q X=>denD es ς G (λkvs G1=>kvs.length<=15/\newO G1 (.dK (jcz kvs)) Q) X
 |.ix a b=>tp λς G Q X=>(den a).1 ς G (λx G1=>(den b).1 ς G1 (λy G2=>ixU x y G2 Q) X) X
 |.sl a lo hi=>tp λς G Q X=>(den a).1 ς G (λx G1=>denO lo ς G1 (λl G2=>denO hi ς G2 (λh G3=>slU x l h G3 Q) X) X) X
 |.rev a b=>tp λς G Q X=>(den a).1 ς G (λx G1=>(den b).1 ς G1 (λy G2=>revU x y G2 Q) X) X
 |.call n es=>tp λς G Q X=>jaw es ς G (λus G1=>Δ n us G1 Q X) X
 |.app _ _=>tp λ_ _ _ _=>False
 |.blt b es=>tp λς G Q X=>jaw es ς G (λus G1=>bltU b us G1 Q) X
 |.meth m o es=>tp λς G Q X=>(den o).1 ς G (λx G1=>match mtU m x G1 with
   |some _=>jaw es ς G1 (λus G2=>jaW m x us G2 Q) X
   |none=>False) X
 |.ty n=>tp λ_ G Q _=>Q (.ty n) G
 |.lc pick t it ifs e=>tp λς G Q X=>denI it ς G (λxs ok G1=>xs.length<=Yag/\jfb ok (λx G2 k=>tgU t x (jdd pick ς) λτ=>denC ifs τ G2 (λb G3=>if b=true then (den e).1 τ G3 (λu G4=>k (some u) G4) (λ_ _=>False) else k none G3)) xs [] G1
   λus G5=>newO G5 (.lst us) Q) X
 |.mkT e=>tp λς G Q X=>(den e).1 ς G (λx G1=>itU x G1 λxs _=>Q (.tup xs) G1) X
noncomputable def denB (k:Bool)(p:UE×UT):Es->UE×UT
 |.nil=>p
 |.cons e es=>comb k p (denB k (den e) es)
noncomputable def denC:Es->Sg->Gp->(Bool->Gp->Prop)->Prop
 |.nil,_,G,Q=>Q true G
 |.cons e es,ς,G,Q=>(den e).2 ς G (λb G1=>if b=true then denC es ς G1 Q else Q false G1) (λ_ _=>False)
noncomputable def denO:Eo->Sg->Gp->(Option Int->Gp->Prop)->KX->Prop
 |.no,_,G,Q,_=>Q none G
 |.so e,ς,G,Q,X=>(den e).1 ς G (λx G1=>match x with|.int i=>Q (some i) G1|_=>False) X
noncomputable def jaw:Es->Sg->Gp->(List U->Gp->Prop)->KX->Prop
 |.nil,_,G,Q,_=>Q [] G
 |.cons e es,ς,G,Q,X=>(den e).1 ς G (λx G1=>jaw es ς G1 (λxs G2=>Q (x::xs) G2) X) X
noncomputable def denF:Es->Sg->Gp->(List Str->Gp->Prop)->KX->Prop
 |.nil,_,G,Q,_=>Q [] G
 |.cons e es,ς,G,Q,X=>(den e).1 ς G (λx G1=>fpU x λz=>denF es ς G1 (λzs G2=>Q (z::zs) G2) X) X
noncomputable def denD:Es->Sg->Gp->(List (Key×U)->Gp->Prop)->KX->Prop
 |.nil,_,G,Q,_=>Q [] G
 |.cons e (.cons f es),ς,G,Q,X=>(den e).1 ς G (λx G1=>(den f).1 ς G1 (λy G2=>match kU x with
   |some k=>denD es ς G2 (λkvs G3=>Q ((k,y)::kvs) G3) X
   |none=>False) X) X
 |.cons _ .nil,_,_,_,_=>False
noncomputable def denI:It->Sg->Gp->(List U->(Gp->Prop)->Gp->Prop)->KX->Prop
 |.e e,ς,G,Q,X=>(den e).1 ς G (λx G1=>itU x G1 λxs ok=>Q xs ok G1) X
 |.r1 e,ς,G,Q,X=>(den e).1 ς G (λx G1=>match x with
   |.int j=>-(2 ^ 62)<=j/\j<2 ^ 62/\Q (rngU 0 j.toNat) (λ_=>True) G1
   |_=>False) X
end
def denE (e:E):UE:=(den gs Δ e).1
def denT (e:E):UT:=(den gs Δ e).2
mutual
noncomputable def denS:S->En->Sg->Gp->Prop
 |.expr e,D,ς,G=>denE gs Δ e ς G (λ_ G1=>D.nx ς G1) λx G1=>D.ex x ς G1
 |.asg t e,D,ς,G=>denE gs Δ e ς G (λu G1=>tgU t u ς λς'=>D.nx ς' G1) λx G1=>D.ex x ς G1
 |.asgC i e,D,ς,G=>denE gs Δ e ς G (λu G1=>D.nx (ς.set i (some u)) G1) λx G1=>D.ex x ς G1
 |.setS o i e,D,ς,G=>denE gs Δ e ς G (λv G1=>denE gs Δ o ς G1 (λx G2=>denE gs Δ i ς G2 (λy G3=>setU x y v G3 λG4=>D.nx ς G4) λx G1=>D.ex x ς G1) λx G1=>D.ex x ς G1) λx G1=>D.ex x ς G1
 |.par is es,D,ς,G=>jaw gs Δ es ς G (λus G1=>us.length=is.length/\D.nx ((is.zip us).foldl (λs p=>s.set p.1 (some p.2)) ς) G1) λx G1=>D.ex x ς G1
 |.aug i o e,D,ς,G=>slot ς i λx=>denE gs Δ e ς G (λy G1=>jgo o x y G1 λz G2=>D.nx (ς.set i (some z)) G2) λx G1=>D.ex x ς G1
 |.ite c a b,D,ς,G=>denT gs Δ c ς G (λt G1=>if t=true then jam a D ς G1 else jam b D ς G1) λx G1=>D.ex x ς G1
 |.fr t it b,D,ς,G=>denI gs Δ it ς G (λxs ok G1=>forL ok (λx ς1 G2 k=>tgU t x ς1 λς2=>jam b { D with nx:=k } ς2 G2) xs ς G1 D.nx) λx G1=>D.ex x ς G1
 |.wh c b,D,ς,G=>∃W:Nat->Sg->Gp->Prop,(∃m,W m ς G)/\∀m ς1 G1,W m ς1 G1->
   denT gs Δ c ς1 G1 (λt G2=>if t=true then jam b { D with nx:=λς' G'=>∃m',m'<m/\W m' ς' G' } ς1 G2 else D.nx ς1 G2) λx G1=>D.ex x ς1 G1
 |.ret e,D,ς,G=>denE gs Δ e ς G D.rt λx G1=>D.ex x ς G1
 |.raise c es,D,ς,G=>jaw gs Δ es ς G (λus G1=>us.length=(clsF c).length/\D.ex ⟨c,us⟩ ς G1) λx G1=>D.ex x ς G1
 |.tr b c n h,D,ς,G=>jam b { D with ex:=λx ς1 G1=>(c=0\/x.c=c)/\hsH x h (ς1.set n none) G1 λς2 G2=>D.nx (ς2.set n none) G2 } ς G
noncomputable def jam:Ss->En->Sg->Gp->Prop
 |.nil,D,ς,G=>D.nx ς G
 |.cons s ss,D,ς,G=>denS s { D with nx:=λς' G'=>jam ss D ς' G' } ς G
end
end
structure Fun where
 name:Str
 ps:List Str
 N:List Str
 body:Ss
structure Nst where
 P:Addr
 ff:Nat
 vi:Nat
 fi:Nat
 si:Nat
 caps:List Nat
 fni:Nat
 fn:Str
 as':List Str
 sn:Str
 e1:E
 e2:E
structure Tab where
 funs:List Fun
 gs:List U
 gn:List Str:=[]
 cs:List Nat:=[]
 vf:List Fun:=[]
 ns:List (Nat×Nst):=[]
noncomputable def jad  (n:Nat)(us:List U):Sg:=us.map some++Yaa (n-us.length) none
def jac  (T:Tab):Nat->Cl
 |0,_,_,_,_,_=>False
 |k+1,n,us,G,Q,X=>match (T.funs++T.vf)[n]? with
  |some d=>us.length=d.ps.length/\jam T.gs (jac T k) d.body ⟨λ_ G'=>Q .non G',Q,λx _ G'=>X x G'⟩ (jad d.N.length us) G
  |none=>False
mutual
noncomputable def RU (K:Yab)(H:Hp):U->V->Prop
 |.non,v=>v=.non
 |.bl b,v=>v=.bl b
 |.int i,v=>v=.int i
 |.str x,v=>v=.str x
 |.tup xs,v=>∃a vs,v=.ref a/\H a=some (.tup vs)/\RUs K H xs vs
 |.loc a,v=>v=.ref a
 |.fn _,_=>False
 |.ty n,v=>v=.ty n
 |.exc _ _,_=>False
 |.own _,_=>False
 |.clo _ _,_=>False
noncomputable def RUs (K:Yab)(H:Hp):List U->List V->Prop
 |[],vs=>vs=[]
 |u::us,vs=>∃v vr,vs=v::vr/\RU K H u v/\RUs K H us vr
end
def RKs  {κ:Type}(K:Yab)(H:Hp):List (κ×U)->List (κ×V)->Prop
 |[],l=>l=[]
 |(k,u)::r,l=>∃v l',l=(k,v)::l'/\RU K H u v/\RKs K H r l'
def MOk  (K:Yab)(H:Hp)(a:Addr):MO->Prop
 |.lst us=>∃vs,H a=some (.lst vs)/\RUs K H us vs
 |.fro us=>∃o vs,H a=some (.frz o (.lst vs))/\RUs K H us vs
 |.dK kvs=>∃l,H a=some (.dK l)/\RKs K H kvs l
 |.dT kvs=>∃l,H a=some (.dT l)/\RKs K H kvs l
 |.frd o kvs=>∃l,H a=some (.frz o (.dT l))/\RKs K H kvs l
 |.frk o kvs=>∃l,H a=some (.frz o (.dK l))/\RKs K H kvs l
noncomputable def tabs  : List (Addr×Pos×Str):=[(270,⟨132,4,138,68⟩,("lets_moved" : Str) ++ ".<locals>." ++ "fault_of")]
def jfX  (H:Hp):Prop:=∀t∈tabs,jkV H t.1 t.2.1 t.2.2
structure HR (K:Yab)(H:Hp)(G:Gp):Prop where
 mo:∀a o,G a=some o->MOk K H a o
 tab:jfX H
instance {K:Yab} {H:Hp} {G:Gp}:CoeFun (HR K H G) λ_=>∀a o,G a=some o->MOk K H a o:=⟨HR.mo⟩
noncomputable def noTb  : HO->Bool
 |.tbl _=>false
 |_=>true
structure Fr (H:Hp)(G:Gp)(H':Hp)(G':Gp):Prop where
 go:∀a o,H a=some o->G a=none->(nt:noTb o=true:=by rfl)->H' a=some o/\G' a=none
instance {H H':Hp} {G G':Gp}:CoeFun (Fr H G H' G') λ_=>∀a o,H a=some o->G a=none->(nt:noTb o=true:=by rfl)->H' a=some o/\G' a=none:=⟨@Fr.go H G H' G'⟩
def SR  (K:Yab)(H:Hp)(ς:Sg)(σ:St):Prop:=ς.length=σ.length/\∀(i:Nat) (u:U),ς[i]?=some (some u)->∃v,σ[i]?=some (some v)/\RU K H u v
section
variable {K:Yab}{H H' H1 H2:Hp}{G G' G1 G2:Gp}
theorem Fr.refl   H G:Fr H G H G:=⟨λ_ _ h g _=>⟨h,g⟩⟩
theorem Fr.trans  (a:Fr H G H1 G1)(b:Fr H1 G1 H2 G2):Fr H G H2 G2:=⟨λc o h g nt=>let ⟨h1,g1⟩:=a c o h g nt;b c o h1 g1 nt⟩
structure TS (H H':Hp):Prop where
 tup:∀a xs,H a=some (.tup xs)->H' a=some (.tup xs)
 cod:∀a o,H a=some (frzC o)->H' a=some (frzC o)
instance:CoeFun (TS H H') λ_=>∀a xs,H a=some (.tup xs)->H' a=some (.tup xs):=⟨TS.tup⟩
theorem TS.trans  (a:TS H H1)(b:TS H1 H2):TS H H2:=⟨λc xs h=>b.tup c xs (a.tup c xs h),λc o h=>b.cod c o (a.cod c o h)⟩
mutual
theorem RU.ts (t:TS H H'):∀{u:U} {v:V},RU K H u v->RU K H' u v
 |.non,_,h=>h
 |.bl _,_,h=>h
 |.int _,_,h=>h
 |.str _,_,h=>h
 |.tup xs,_,h=>by
  obtain⟨a,vs,e,q,r⟩:=h
  exact⟨a,vs,e,t _ _ q,RUs.ts t r⟩
 |.loc _,_,h=>h
 |.fn _,_,h=>h
 |.ty _,_,h=>h
 |.exc _ _,_,h=>h
 |.own _,_,h=>h
 |.clo _ _,_,h=>h
theorem RUs.ts (t:TS H H'):∀{us:List U} {vs:List V},RUs K H us vs->RUs K H' us vs
 |[],_,h=>h
 |_::_,_,h=>by
  obtain⟨v,vr,e,r,rs⟩:=h
  exact⟨v,vr,e,RU.ts t r,RUs.ts t rs⟩
end
theorem RKs.ts   (t:TS H H'):∀{kvs:List (κ×U)} {l },RKs K H kvs l->RKs K H' kvs l
 |[],_,h=>h
 |(_,_)::_,_,h=>by
  obtain⟨v,l',e,r,rs⟩:=h;exact⟨v,l',e,r.ts t,RKs.ts t rs⟩
theorem SR.ts    (t:TS H H')(h:SR K H ς σ):SR K H' ς σ:=⟨h.1,λi u e=>let ⟨v,e1,r⟩:=h.2 i u e;⟨v,e1,r.ts t⟩⟩
theorem HR.tupNone  (h:HR K H G)(e:H a=some (.tup xs)):G a=none:=by
 cases q:G a with
 |none=>rfl
 |some o=>
  have m:=h a o q;cases o with
  |lst us=>obtain⟨_,e2,_⟩:=m;lia
  |fro us=>obtain⟨_,_,e2,_⟩:=m;lia
  |dK us=>obtain⟨_,e2,_⟩:=m;lia
  |dT us=>obtain⟨_,e2,_⟩:=m;lia
  |frd _ us=>obtain⟨_,e2,_⟩:=m;lia
  |frk _ us=>obtain⟨_,e2,_⟩:=m;lia
theorem HR.codNone  (h:HR K H G)(e:H a=some (frzC ob)):G a=none:=by
 cases q:G a with
 |none=>rfl
 |some o=>
  have m:=h a o q;cases o with
  |lst us=>obtain⟨_,e2,_⟩:=m;lia
  |fro us=>obtain⟨_,_,e2,_⟩:=m;lia
  |dK us=>obtain⟨_,e2,_⟩:=m;lia
  |dT us=>obtain⟨_,e2,_⟩:=m;lia
  |frd _ us=>obtain⟨_,e2,_⟩:=m;lia
  |frk _ us=>obtain⟨_,e2,_⟩:=m;lia
theorem HR.tblNone  (h:HR K H G)(e:H a=some (.tbl ps)):G a=none:=by
 cases q:G a with
 |none=>rfl
 |some o=>
  have m:=h a o q;cases o with
  |lst us=>obtain⟨_,e2,_⟩:=m;lia
  |fro us=>obtain⟨_,_,e2,_⟩:=m;lia
  |dK us=>obtain⟨_,e2,_⟩:=m;lia
  |dT us=>obtain⟨_,e2,_⟩:=m;lia
  |frd _ us=>obtain⟨_,e2,_⟩:=m;lia
  |frk _ us=>obtain⟨_,e2,_⟩:=m;lia
theorem Fr.ts  (f:Fr H G H' G')(h:HR K H G):TS H H':=⟨λa xs e=>(f a _ e (h.tupNone e)).1,λa o e=>(f a _ e (h.codNone e)).1⟩
theorem jfX.upd  (h:jfX H)(h1:∀ps,H p≠some (.tbl ps))(h2:∀ob,H p≠some (frzC ob)):jfX (L2.upd H p o):=λt ht=>by
 rcases h t ht with e|⟨c,oc,e1,e2,q⟩
 ·exact .inl (by rw[jae (λz=>h1 _ (z ▸ e))];exact e)
 ·exact .inr ⟨c,oc,by rw[jae (λz=>h1 _ (z ▸ e1))];exact e1,by rw[jae (λz=>h2 _ (z ▸ e2))];exact e2,q⟩
theorem jfX.new  (h:jfX H)(e:H p=none):jfX (L2.upd H p o):=h.upd (λps z=>by lia) λob z=>by lia
theorem HR.tabW  (h:HR K H G){mo:MO}(g:G p=some mo):jfX (L2.upd H p o):=h.tab.upd (λps z=>by rw[h.tblNone z]at g;cases g) λob z=>by rw[h.codNone z]at g;cases g
theorem MOk.there    (m:MOk K H a o):∃ho,H a=some ho:=by
 cases o with
 |lst _=>obtain⟨_,e,_⟩:=m;simp_all
 |fro _=>obtain⟨_,_,e,_⟩:=m;simp_all
 |dK _=>obtain⟨_,e,_⟩:=m;simp_all
 |dT _=>obtain⟨_,e,_⟩:=m;simp_all
 |frd _ _=>obtain⟨_,e,_⟩:=m;simp_all
 |frk _ _=>obtain⟨_,e,_⟩:=m;simp_all
theorem MOk.keep    (m:MOk K H a o)(e:H' a=H a)(t:TS H H'):MOk K H' a o:=by
 cases o with
 |lst _=>obtain⟨vs,q,r⟩:=m;exact⟨vs,e.trans q,r.ts t⟩
 |fro _=>obtain⟨ob,vs,q,r⟩:=m;exact⟨ob,vs,e.trans q,r.ts t⟩
 |dK _=>obtain⟨l,q,r⟩:=m;exact⟨l,e.trans q,r.ts t⟩
 |dT _=>obtain⟨l,q,r⟩:=m;exact⟨l,e.trans q,r.ts t⟩
 |frd _ _=>obtain⟨l,q,r⟩:=m;exact⟨l,e.trans q,r.ts t⟩
 |frk _ _=>obtain⟨l,q,r⟩:=m;exact⟨l,e.trans q,r.ts t⟩
theorem HR.nope  (h:HR K H G)(e:H a=none):G a=none:=by
 cases q:G a with
 |none=>rfl
 |some o=>
  obtain⟨_,e2⟩:=(h a o q).there
  lia
theorem jaz    : gup G a o a=some o:=by unfold gup;lia
theorem jb9    (h:b≠a):gup G a o b=G b:=by unfold gup;lia
theorem TS.new    (e:H p=none):TS H (upd H p o):=⟨λa xs h=>by rw[jae (jaj h e)];exact h,λa ob h=>by rw[jae (jaj h e)];exact h⟩
theorem HR.newT  (h:HR K H G)(e:H p=none):HR K (upd H p (.tup xs)) G:=⟨λa o q=>by
 have m:=h a o q;obtain⟨ho,e2⟩:=m.there;exact m.keep (jae (jaj e2 e)) (TS.new e),h.tab.new e⟩
theorem Fr.new    (e:H p=none):Fr H G (upd H p o) G:=⟨λa ob h g _=>⟨by rw[jae (jaj h e)];exact h,g⟩⟩
theorem HR.newO  (h:HR K H G){mo:MO}(e:H p=none)(m:MOk K (upd H p o) p mo):HR K (upd H p o) (gup G p mo):=⟨λa ob q=>by
 by_cases z:a=p
 ·subst z;rw[jaz]at q
  lia
 ·rw[jb9 z]at q;exact(h a ob q).keep (jae z) (TS.new e),h.tab.new e⟩
theorem Fr.newO     (e:H p=none):Fr H G (upd H p o) (gup G p mo):=⟨λa ob h g _=>by
 have z:a≠p:=jaj h e;exact⟨by rw[jae z];exact h,by rw[jb9 z];exact g⟩⟩
theorem TS.write  (h:HR K H G)(g:G p=some mo):TS H (upd H p o):=⟨λa xs e=>by
 have z:a≠p:=λz=>by subst z;rw[h.tupNone e]at g;cases g
 rw[jae z];exact e,λa ob e=>by
 have z:a≠p:=λz=>by subst z;rw[h.codNone e]at g;cases g
 rw[jae z];exact e⟩
theorem HR.write  (h:HR K H G){mo mo':MO}(g:G p=some mo)(m:MOk K (upd H p o) p mo'):HR K (upd H p o) (gup G p mo'):=⟨λa ob q=>by
 by_cases z:a=p
 ·subst z;rw[jaz]at q
  lia
 ·rw[jb9 z]at q;exact(h a ob q).keep (jae z) (TS.write h g),h.tabW g⟩
theorem Fr.write     (g:G p=some mo):Fr H G (upd H p o) (gup G p mo'):=⟨λa ob h n _=>by
 have z:a≠p:=λz=>by lia
 exact⟨by rw[jae z];exact h,by rw[jb9 z];exact n⟩⟩
theorem RUs.length  : ∀{us } {vs },RUs K H us vs->us.length=vs.length
 |[],_,h=>by cases h;rfl
 |_::_,_,h=>by
  obtain⟨v,vr,rfl,_,rs⟩:=h;simp[rs.length]
theorem RUs.append  : ∀{us ws } {vs xs },RUs K H us vs->RUs K H ws xs->RUs K H (us++ws) (vs++xs)
 |[],_,_,_,h,h'=>by cases h;exact h'
 |_::_,_,_,_,h,h'=>by
  obtain⟨v,vr,rfl,r,rs⟩:=h;exact⟨v,vr++_,rfl,r,rs.append h'⟩
theorem RUs.get  : ∀{us } {vs } {i:Nat} {u },RUs K H us vs->us[i]?=some u->∃v,vs[i]?=some v/\RU K H u v
 |[],_,_,_,_,e=>by simp at e
 |_::_,_,0,_,h,e=>by
  obtain⟨v,vr,rfl,r,_⟩:=h
  simp_all
 |_::_,_,i+1,_,h,e=>by
  obtain⟨v,vr,rfl,_,rs⟩:=h;obtain⟨w,h1,h2⟩:=rs.get (i:=i) (by simpa using e)
  simp_all
theorem RUs.take  : ∀{us } {vs } n ,RUs K H us vs->RUs K H (us.take n) (vs.take n)
 |_,_,0,_=>rfl
 |[],_,_+1,h=>by cases h;rfl
 |_::_,_,n+1,h=>by
  obtain⟨v,vr,rfl,r,rs⟩:=h;exact⟨v,vr.take n,rfl,r,rs.take n⟩
theorem RUs.drop  : ∀{us } {vs } n ,RUs K H us vs->RUs K H (us.drop n) (vs.drop n)
 |_,_,0,h=>h
 |[],_,_+1,h=>by cases h;rfl
 |_::_,_,n+1,h=>by
  obtain⟨v,vr,rfl,_,rs⟩:=h;exact rs.drop n
theorem RUs.set    (r:RU K H u v):∀{us } {vs } i ,RUs K H us vs->RUs K H (us.set i u) (vs.set i v)
 |[],_,_,h=>by cases h;rfl
 |_::_,_,0,h=>by
  obtain⟨w,vr,rfl,_,rs⟩:=h;exact⟨v,vr,rfl,r,rs⟩
 |_::_,_,i+1,h=>by
  obtain⟨w,vr,rfl,q,rs⟩:=h;exact⟨w,vr.set i v,rfl,q,rs.set r i⟩
theorem RUs.reverse  : ∀{us } {vs },RUs K H us vs->RUs K H us.reverse vs.reverse
 |[],_,h=>by cases h;rfl
 |_::_,_,h=>by
  obtain⟨v,vr,rfl,r,rs⟩:=h;rw[YcU,YcU];exact rs.reverse.append ⟨v,[],rfl,r,rfl⟩
theorem RUs.rep    (h:RUs K H us vs):∀k ,RUs K H (Yaa k us).flatten (Yaa k vs).flatten
 |0=>rfl
 |k+1=>by
  rw[Ya4,Ya4,Yb0,Yb0];exact h.append (h.rep k)
theorem RUs.erase  : ∀{us } {vs } i ,RUs K H us vs->RUs K H (us.eraseIdx i) (vs.eraseIdx i)
 |[],_,_,h=>by cases h;rfl
 |_::_,_,0,h=>by
  obtain⟨v,vr,rfl,_,rs⟩:=h;exact rs
 |_::_,_,i+1,h=>by
  obtain⟨v,vr,rfl,r,rs⟩:=h;exact⟨v,_,rfl,r,rs.erase i⟩
theorem RUs.dropLast    (h:RUs K H us vs):RUs K H us.dropLast vs.dropLast:=by
 rw[YeT,YeT,h.length];exact h.take _
theorem RUs.atI {us:List U}{vs:List V}{i:Int}{u:U}(h:RUs K H us vs)(e:atI us i=some u):∃v,L2.atI vs i=some v/\RU K H u v:=by
 unfold L2.atI at e ⊢;rw[h.length]at e;cases q:ixN vs.length i with
 |none=>simp_all
 |some j=>
  rw[q]at e;exact h.get e
theorem RUs.cut    (h:RUs K H us vs) lo hi:RUs K H (Z.cut us lo hi) (cutV vs lo hi):=by
 unfold Z.cut cutV;rw[h.length];exact(h.drop _).take _
theorem RUs.isEmpty    (h:RUs K H us vs):us.isEmpty=vs.isEmpty:=by
 cases us with
 |nil=>cases h;rfl
 |cons u us=>obtain⟨v,vr,rfl,_⟩:=h;rfl
theorem RUs.ints  : ∀{us } {vs } {ns },RUs K H us vs->jfH us=some ns->vs=ns.map V.int
 |[],_,_,h,e=>by cases h;cases e;rfl
 |u::us,_,ns,h,e=>by
  obtain⟨v,vr,rfl,r,rs⟩:=h;cases u with
  |int i=>
   cases r;rw[jfH]at e;cases q:jfH us with
   |none=>lia
   |some l=>rw[q]at e;cases e;rw[rs.ints q];rfl
  |_=>cases e
theorem RUs.strs  : ∀{us } {vs } {ns },RUs K H us vs->jht us=some ns->vs=ns.map V.str
 |[],_,_,h,e=>by cases h;cases e;rfl
 |u::us,_,ns,h,e=>by
  obtain⟨v,vr,rfl,r,rs⟩:=h;cases u with
  |str i=>
   cases r;rw[jht]at e;cases q:jht us with
   |none=>lia
   |some l=>rw[q]at e;cases e;rw[rs.strs q];rfl
  |_=>cases e
theorem RUs.bools  : ∀{us } {vs } {ns },RUs K H us vs->jeo us=some ns->vs=ns.map V.bl
 |[],_,_,h,e=>by cases h;cases e;rfl
 |u::us,_,ns,h,e=>by
  obtain⟨v,vr,rfl,r,rs⟩:=h;cases u with
  |bl i=>
   cases r;rw[jeo]at e;cases q:jeo us with
   |none=>lia
   |some l=>rw[q]at e;cases e;rw[rs.bools q];rfl
  |_=>cases e
theorem HR.lst  (h:HR K H G)(e:G a=some (.lst us)):∃vs,H a=some (.lst vs)/\RUs K H us vs:=h a _ e
theorem HR.ls  (h:HR K H G)(e:lsG G a=some us):∃vs,SqL K H a vs/\RUs K H us vs:=by
 unfold lsG at e;split at e
 ·rename_i xs q;cases e;obtain⟨vs,q2,r⟩:=h a _ q;exact⟨vs,.inl (.inl q2),r⟩
 ·rename_i xs q;cases e;obtain⟨o,vs,q2,r⟩:=h a _ q;exact⟨vs,.inl (.inr ⟨o,q2⟩),r⟩
 lia
theorem HR.rd  (h:HR K H G)(e:lsG G a=some us):∃vs,Rd H a (.lst vs)/\RUs K H us vs:=by
 unfold lsG at e;split at e
 ·rename_i xs q;cases e;obtain⟨vs,q2,r⟩:=h a _ q;exact⟨vs,.inl q2,r⟩
 ·rename_i xs q;cases e;obtain⟨o,vs,q2,r⟩:=h a _ q;exact⟨vs,.inr ⟨o,q2⟩,r⟩
 lia
end
mutual
theorem DU.dv {K:Yab}{H:Hp}{G:Gp}(h:HR K H G):∀{u:U} {d:PyData} {v:V},DU G u d->RU K H u v->DV K H v d
 |_,_,_,.non,r=>by cases r;exact .non
 |_,_,_,.bl b,r=>by cases r;exact .bl b
 |_,_,_,.int i,r=>by cases r;exact .int i
 |_,_,_,.str x,r=>by cases r;exact .str x
 |_,_,_,.tup q,r=>by
  obtain⟨a,vs,rfl,s,rs⟩:=r
  exact .tup (.of s) (DUs.dv h q rs)
 |_,_,_,.lst e q,r=>by
  cases r
  obtain⟨vs,s,rs⟩:=h.rd e
  exact .lst s (DUs.dv h q rs)
 |_,_,_,.dic e,r=>by
  cases r
  obtain⟨l,q,rs⟩:=h _ _ e
  cases rs
  exact .dic q
theorem DUs.dv {K:Yab}{H:Hp}{G:Gp}(h:HR K H G):∀{us:List U} {ds:List PyData} {vs:List V},DUs G us ds->RUs K H us vs->DVs K H vs ds
 |_,_,_,.nil,r=>by cases r;exact .nil
 |_,_,_,.cons a b,r=>by
  obtain⟨v,vr,rfl,r1,rs⟩:=r
  exact .cons (DU.dv h a r1) (DUs.dv h b rs)
end
end Z

namespace L2
open PySem
theorem PE.imp     (h:PE X e t)(i:∀σ H Q,t' σ H Q->t σ H Q):PE X e t':=λpins s σ H Q I q=>h pins s σ H Q I (i σ H Q q)
theorem PT.imp     (h:PT X e t)(i:∀σ H Q,t' σ H Q->t σ H Q):PT X e t':=λpins s σ H Q I q=>h pins s σ H Q I (i σ H Q q)
theorem PW.imp     (h:PW X e t)(i:∀σ H Q,t' σ H Q->t σ H Q):PW X e t':=λw pins s σ H Q I q=>h w pins s σ H Q I (i σ H Q q)
theorem PA.imp     (h:PA X e t)(i:∀σ H Q,t' σ H Q->t σ H Q):PA X e t':=λpos pins s σ H Q I q=>h pos pins s σ H Q I (i σ H Q q)
theorem PO.imp     (h:PO X e t)(i:∀σ H Q,t' σ H Q->t σ H Q):PO X e t':=λpins s σ H Q I q=>h pins s σ H Q I (i σ H Q q)
theorem PS.imp     (h:PS X e t)(i:∀D σ H,t' D σ H->t D σ H):PS X e t':=λpins s σ H D I q=>h pins s σ H D I (i D σ H q)
theorem PSs.imp     (h:PSs X e t)(i:∀D σ H,t' D σ H->t D σ H):PSs X e t':=λpins s σ H D I q=>h pins s σ H D I (i D σ H q)
end L2
namespace Z
open PySem L2
noncomputable def gK  (K:Yab):Str->Option Value:=λx=>(Ya6 K Yaw x).join
def XD  (K:Yab)(H:Hp)(C dx:Addr)(x:XV):Prop:=1<=x.c/\x.c<6/\XCls K (gK K) (clsN x.c) (clsF x.c) C/\∃l,H dx=some (.xd l)/\l.map (·.1)=clsF x.c/\RUs K H x.fs (l.map (·.2))
def XAt  (X:Cx)(H:Hp)(s:Shared)(e:Value)(x:XV):Prop:=∃ea C dx,e=.ref ea/\Lies X.s₀.heap.objs.size X.pn H s.heap ea (.ref C) (some dx)/\XD X.K H C dx x
section
variable (X:Cx)
def LX (σ:St)(H:Hp)(G:Gp)(E:KX):Prop:=∀(pins:List (Addr×Obj)) (e:Value) (s':Shared) (x:XV) (G':Gp) (H':Hp),Inv X pins σ H' s'->XAt X H' s' e x->HR X.K H' G'->Fr H G H' G'->E x G'->X.xe e s'
def LV (H:Hp)(G:Gp)(Q:K1)(Q0:VK):Prop:=∀w v G' H',RU X.K H' w v->HR X.K H' G'->Fr H G H' G'->Q w G'->Q0 v H'
def lE (t:UE):TE:=λσ H Q0=>∃ς G Q E,SR X.K H ς σ/\HR X.K H G/\t ς G Q E/\LV X H G Q Q0/\LX X σ H G E
def lT (t:UT):TT:=λσ H Q0=>∃ς G Q E,SR X.K H ς σ/\HR X.K H G/\t ς G Q E/\(∀b G' H',HR X.K H' G'->Fr H G H' G'->Q b G'->Q0 b H')/\LX X σ H G E
def lA (t:UA):TA:=λσ H Q0=>∃ς G Q E,SR X.K H ς σ/\HR X.K H G/\t ς G Q E/\(∀ws vs G' H',RUs X.K H' ws vs->HR X.K H' G'->Fr H G H' G'->Q ws G'->Q0 vs H')/\LX X σ H G E
def lO (t:Sg->Gp->(Option Int->Gp->Prop)->KX->Prop):TO:=λσ H Q0=>∃ς G Q E,SR X.K H ς σ/\HR X.K H G/\t ς G Q E/\(∀o G' H',HR X.K H' G'->Fr H G H' G'->Q o G'->Q0 o H')/\LX X σ H G E
end
section
variable {X:Cx}{σ:St}{H H1 H2:Hp}{G G1 G2:Gp}
theorem LX.fr  {E:KX}(h:LX X σ H G E)(f:Fr H G H1 G1):LX X σ H1 G1 E:=λpins e s' x G' H' I a hr f' q=>h pins e s' x G' H' I a hr (f.trans f') q
theorem LV.fr    (h:LV X H G Q Q0)(f:Fr H G H1 G1):LV X H1 G1 Q Q0:=λw v G' H' r hr f' q=>h w v G' H' r hr (f.trans f') q
theorem LV.here    (h:LV X H G Q Q0)(r:RU X.K H w v)(hr:HR X.K H G)(q:Q w G):Q0 v H:=h w v G H r hr (Fr.refl _ _) q
theorem LV.bl    (h:LV X H G Q Q0)(hr:HR X.K H G)(q:Q (.bl b) G):Q0 (.bl b) H:=h.here (w:=.bl b) rfl hr q
theorem LV.int    (h:LV X H G Q Q0)(hr:HR X.K H G)(q:Q (.int b) G):Q0 (.int b) H:=h.here (w:=.int b) rfl hr q
theorem LV.str    (h:LV X H G Q Q0)(hr:HR X.K H G)(q:Q (.str b) G):Q0 (.str b) H:=h.here (w:=.str b) rfl hr q
theorem LV.tup    (h:LV X H G Q Q0)(e:H p=none)(r:RUs X.K H us vs)(hr:HR X.K H G)(q:Q (.tup us) G):Q0 (.ref p) (upd H p (.tup vs)):=
 h (.tup us) (.ref p) G _ ⟨p,vs,rfl,jah,r.ts (TS.new e)⟩ (hr.newT e) (Fr.new e) q
theorem LV.lst    (h:LV X H G Q Q0)(e:H p=none)(r:RUs X.K H us vs)(hr:HR X.K H G)(q:newO G (.lst us) Q):Q0 (.ref p) (upd H p (.lst vs)):=
 h (.loc p) (.ref p) _ _ rfl (hr.newO (mo:=.lst us) e ⟨vs,jah,r.ts (TS.new e)⟩) (Fr.newO e) (q.at p (hr.nope e))
theorem LV.wl    (h:LV X H G Q Q0)(g:G p=some mo)(r:RUs X.K H us vs)(hr:HR X.K H G)(rw':RU X.K H w v)(q:putO G p (.lst us) (Q w)):Q0 v (upd H p (.lst vs)):=
 h w v _ _ (rw'.ts (TS.write hr g)) (hr.write (mo':=.lst us) g ⟨vs,jah,r.ts (TS.write hr g)⟩) (Fr.write g) q.at
end

theorem lE.two  {R:V->V->Hp->Prop}{k:U->U->Gp->K1->Prop}(h:lE X (λς G Q E=>ta ς G (λx G1=>tb ς G1 (λy G2=>k x y G2 Q) E) E) σ H Q0)
  (f:∀x y v v' G H' Q,RU X.K H' x v->RU X.K H' y v'->HR X.K H' G->k x y G Q->LV X H' G Q Q0->R v v' H'):lE X ta σ H λv H1=>lE X tb σ H1 λv' H2=>R v v' H2:=by
 obtain⟨ς,G,Q,E,hς,hG,h,lv,lx⟩:=h;refine⟨ς,G,_,E,hς,hG,h,λx v G1 H1 rx hG1 f1 h1=>?_,lx⟩;refine⟨ς,G1,_,E,hς.ts (f1.ts hG),hG1,h1,λy v' G2 H2 ry hG2 f2 h2=>?_,lx.fr f1⟩;exact f x y v v' G2 H2 Q (rx.ts (f2.ts hG1)) ry hG2 h2 (lv.fr (f1.trans f2))
theorem lE.one  {R:V->Hp->Prop}{k:U->Gp->K1->Prop}(h:lE X (λς G Q E=>ta ς G (λx G1=>k x G1 Q) E) σ H Q0)
  (f:∀x v G H' Q,RU X.K H' x v->HR X.K H' G->k x G Q->LV X H' G Q Q0->R v H'):lE X ta σ H R:=by
 obtain⟨ς,G,Q,E,hς,hG,h,lv,lx⟩:=h;exact⟨ς,G,_,E,hς,hG,h,λx v G1 H1 rx hG1 f1 h1=>f x v G1 H1 Q rx hG1 h1 (lv.fr f1),lx⟩
theorem lE.many    {k:List U->Gp->K1->Prop}(h:lE X (λς G Q E=>ta ς G (λx G1=>k x G1 Q) E) σ H Q0)
  (f:∀x v G H' Q,RUs X.K H' x v->HR X.K H' G->k x G Q->LV X H' G Q Q0->R v H'):lA X ta σ H R:=by
 obtain⟨ς,G,Q,E,hς,hG,h,lv,lx⟩:=h;exact⟨ς,G,_,E,hς,hG,h,λx v G1 H1 rx hG1 f1 h1=>f x v G1 H1 Q rx hG1 h1 (lv.fr f1),lx⟩

theorem joH    (hN:X.N[i]?=some x)(hv:Vis X.env.scope x)(hd:(x==("__debug__" : Str))=false)(hcd:(x==("__classdict__" : Str))=false):PE X (.Name x pos) (lE X λς G Q _=>slot ς i λu=>Q u G):=by
 refine(jb2 hN hv hd hcd).imp λσ H Q0 h=>?_;obtain⟨ς,G,Q,E,hς,hG,h,lv,_⟩:=h;unfold slot at h;split at h
 ·rename_i u e;obtain⟨v,e1,r⟩:=hς.2 i u e;exact⟨v,e1,lv.here r hG h⟩
 lia
theorem jc8     (h:PE X e (tC v))(r:∀H,RU X.K H u v):PE X e (lE X λ_ G Q _=>Q u G):=
 h.imp λ_ _ _ ⟨_,_,_,_,_,hG,q,lv,_⟩=>lv.here (r _) hG q
def OpU  (X:Cx)(f:Value->Value->Sem Value)(b:U->U->Gp->K1->Prop):Prop:=
 ∃r:R2,OpR X f r/\∀x y v v' G H Q Q0,RU X.K H x v->RU X.K H y v'->HR X.K H G->b x y G Q->LV X H G Q Q0->r v v' H Q0

theorem joV    (ho:OpU X (Ya8 o) k)(ha:PE X a (lE X ta))(hb:PE X b (lE X tb)) :
  PE X (.BinOp a o b pos) (lE X λς G Q E=>ta ς G (λx G1=>tb ς G1 (λy G2=>k x y G2 Q) E) E):=by
 obtain⟨r,h1,h2⟩:=ho;exact(jpm h1 ha hb).imp λσ H Q0 h=>lE.two h λx y v v' G H' Q rx ry hG q lv=>h2 x y v v' G H' Q Q0 rx ry hG q lv
theorem jnw  : OpU X (Ya8 .Add) addU:=by
 refine⟨_,jnJ.or (jhA.or ((jlK (X:=X)).or (jnI.or jlL))),?_⟩;intro x y v v' G H Q Q0 rx ry hG h lv;cases x<;>try exact h.elim
 ·cases y<;>try exact h.elim
  cases rx;cases ry;exact .inr (.inr (.inr (.inr ⟨_,_,rfl,rfl,lv.int hG h⟩)))
 ·cases y<;>try exact h.elim
  cases rx;cases ry;exact .inl ⟨_,_,rfl,rfl,lv.int hG h⟩
 ·cases y<;>try exact h.elim
  cases rx;cases ry;exact .inr (.inl ⟨_,_,rfl,rfl,h.1,lv.str hG h.2⟩)
 ·cases y<;>try exact h.elim
  rename_i xs ys;obtain⟨a,vs,rfl,s1,r1⟩:=rx;obtain⟨b,ws,rfl,s2,r2⟩:=ry;obtain⟨hl,q⟩:=h;refine .inr (.inr (.inl ⟨a,b,vs,ws,rfl,rfl,.of s1,.of s2,by rw[<- r1.length,<- r2.length];exact hl,λz=>?_,λ_ z=>?_,λ_ _ p hp=>?_⟩))
  ·have:xs=[]:=by have:=r1.length;simp_all
   subst this;exact lv.here (w:=.tup ys) ⟨b,ws,rfl,s2,r2⟩ hG q
  ·have:ys=[]:=by have:=r2.length;simp_all
   subst this;rw[Ybb]at q;exact lv.here (w:=.tup xs) ⟨a,vs,rfl,s1,r1⟩ hG q
  ·exact lv.tup hp (r1.append r2) hG q
 ·cases y<;>try exact h.elim
  cases rx;cases ry;obtain⟨xs,ys,g1,g2,hl,q⟩:=h;obtain⟨vs,e1,r1⟩:=hG.lst g1;obtain⟨ws,e2,r2⟩:=hG.lst g2;exact .inr (.inr (.inr (.inl ⟨_,_,vs,ws,rfl,rfl,e1,e2,by rw[<- r1.length,<- r2.length];exact hl,λp hp=>lv.lst hp (r1.append r2) hG q⟩)))
theorem jnr  : OpU X (Ya8 .Sub) subU:=by
 refine⟨_,jnx.or (jlF (X:=X)),?_⟩;intro x y v v' G H Q Q0 rx ry hG h lv;cases x<;>try exact h.elim
 all_goals cases y<;>try exact h.elim
 all_goals cases rx;cases ry
 ·exact .inr (.inl ⟨_,_,rfl,rfl,lv.int hG h⟩)
 ·exact .inr (.inr ⟨_,_,rfl,rfl,lv.int hG h⟩)
 ·exact .inl ⟨_,_,rfl,rfl,lv.int hG h⟩
theorem jnt  : OpU X (Ya8 .Mult) mulU:=by
 refine⟨_,jnB.or (jny.or ((jlG (X:=X)).or jlH)),?_⟩;intro x y v v' G H Q Q0 rx ry hG h lv;cases x<;>try exact h.elim
 all_goals cases y<;>try exact h.elim
 ·cases rx;cases ry;exact .inl ⟨_,_,rfl,rfl,h.1,lv.int hG h.2⟩
 ·cases rx;cases ry;exact .inr (.inr (.inr ⟨_,_,rfl,rfl,h.1,h.2.1,h.2.2.1,lv.str hG h.2.2.2⟩))
 ·rename_i xs k;obtain⟨a,vs,rfl,s1,r1⟩:=rx;cases ry;obtain⟨h0,h1,h2,hl,q⟩:=h;refine .inr (.inr (.inl ⟨a,k,vs,rfl,rfl,.of s1,?_,h1,h2,by rw[<- r1.length];exact hl,λz=>?_,λ_ p hp=>lv.tup hp (r1.rep _) hG q⟩))
  ·intro z;subst z;exact h0 (by have:=r1.length;simp_all)
  ·subst z;have e:(Yaa (Yel 1) xs).flatten=xs:=by simp
   rw[e]at q;exact lv.here (w:=.tup xs) ⟨a,vs,rfl,s1,r1⟩ hG q
 ·cases rx;cases ry;obtain⟨xs,g1,h1,h2,hl,q⟩:=h;obtain⟨vs,e1,r1⟩:=hG.lst g1;exact .inr (.inl ⟨_,_,vs,rfl,rfl,e1,h1,h2,by rw[<- r1.length];exact hl,λp hp=>lv.lst hp (r1.rep _) hG q⟩)
theorem jlE  : OpU X (Ya8 .FloorDiv) jom:=by
 refine⟨_,jlI,?_⟩;intro x y v v' G H Q Q0 rx ry hG h lv;cases x<;>try exact h.elim
 cases y<;>try exact h.elim
 ·cases rx;cases ry;exact⟨_,_,rfl,rfl,⟨h.1,h.2.1⟩,lv.int hG h.2.2⟩
theorem jnu  : OpU X (Ya8 .Mod) modU:=by
 refine⟨_,jnC,?_⟩;intro x y v v' G H Q Q0 rx ry hG h lv;cases x<;>try exact h.elim
 cases y<;>try exact h.elim
 ·cases rx;cases ry;exact⟨_,_,rfl,rfl,h.1,lv.int hG h.2⟩
theorem jns  : OpU X (Ya8 .Pow) powU:=by
 refine⟨_,jnz,?_⟩;intro x y v v' G H Q Q0 rx ry hG h lv;cases x<;>try exact h.elim
 cases y<;>try exact h.elim
 ·cases rx;cases ry;exact⟨_,_,rfl,rfl,h.1,lv.int hG h.2⟩
theorem jnv   o:OpU X (Ya8 o) (binU o):=by
 cases o with
 |Add=>exact jnw
 |Sub=>exact jnr
 |Mult=>exact jnt
 |FloorDiv=>exact jlE
 |Mod=>exact jnu
 |Pow=>exact jns
 |_=>exact⟨λ_ _ _ _=>False,λ_ _ _ _ _ _ _ _ _ _ _ _ h=>h.elim,λ_ _ _ _ _ _ _ _ _ _ _ h _=>h⟩
theorem joO  (ha:PE X a (lE X ta)):PE X (.UnaryOp .USub a pos) (lE X λς G Q E=>ta ς G (λx G1=>negU x G1 Q) E):=by
 refine(jpk jmA ha).imp λσ H Q0 h=>lE.one h λx v G H' Q rx hG q lv=>?_;cases x<;>try exact q.elim
 cases rx;exact⟨_,rfl,lv.int hG q⟩
def CmU  (X:Cx)(o:CmpOp):Prop:=
 ∃r:R2,OpR X (YaF o) r/\∀x y v v' G H (k:Bool->Prop) (Q0:VK),RU X.K H x v->RU X.K H y v'->HR X.K H G->cmpU o x y G k->(∀c,k c->Q0 (.bl c) H)->r v v' H Q0

def rIs  (neg:Bool):R2:=λx y H Q=>((x=.non\/∃b,x=.bl b)\/(y=.non\/∃b,y=.bl b))/\Q (.bl (if neg then !decide (x=y) else decide (x=y))) H
theorem jgU    (rx:RelV x v)(ry:RelV y u)(h:(x=.non\/∃b,x=.bl b)\/(y=.non\/∃b,y=.bl b)):plainIs v u=true/\(v==u)=decide (x=y):=by
 rcases h with(rfl|⟨b,rfl⟩)|(rfl|⟨b,rfl⟩)
 ·cases rx;cases y with
  |non=>cases ry;exact⟨rfl,by simp⟩
  |bl c=>cases ry;exact⟨rfl,by simp⟩
  |int _=>obtain⟨t,rfl⟩:=ry;exact⟨rfl,by simp⟩
  |str _=>obtain⟨t,rfl⟩:=ry;exact⟨rfl,by simp⟩
  |byt _=>obtain⟨t,rfl⟩:=ry;exact⟨rfl,by simp⟩
  |flt _=>obtain⟨t,rfl⟩:=ry;exact⟨rfl,by simp⟩
  |ref _=>cases ry;exact⟨rfl,by simp⟩
  |ty _=>cases ry;exact⟨rfl,by simp⟩
 ·cases rx;cases y with
  |non=>cases ry;exact⟨rfl,by simp⟩
  |bl c=>cases ry;exact⟨rfl,by lia⟩
  |int _=>obtain⟨t,rfl⟩:=ry;exact⟨rfl,by simp⟩
  |str _=>obtain⟨t,rfl⟩:=ry;exact⟨rfl,by simp⟩
  |byt _=>obtain⟨t,rfl⟩:=ry;exact⟨rfl,by simp⟩
  |flt _=>obtain⟨t,rfl⟩:=ry;exact⟨rfl,by simp⟩
  |ref _=>cases ry;exact⟨rfl,by simp⟩
  |ty _=>cases ry;exact⟨rfl,by simp⟩
 ·cases ry;cases x with
  |non=>cases rx;exact⟨rfl,by simp⟩
  |bl c=>cases rx;exact⟨rfl,by simp⟩
  |int _=>obtain⟨t,rfl⟩:=rx;exact⟨rfl,by simp⟩
  |str _=>obtain⟨t,rfl⟩:=rx;exact⟨rfl,by simp⟩
  |byt _=>obtain⟨t,rfl⟩:=rx;exact⟨rfl,by simp⟩
  |flt _=>obtain⟨t,rfl⟩:=rx;exact⟨rfl,by simp⟩
  |ref _=>cases rx;exact⟨rfl,by simp⟩
  |ty _=>cases rx;exact⟨rfl,by simp⟩
 ·cases ry;cases x with
  |non=>cases rx;exact⟨rfl,by simp⟩
  |bl c=>cases rx;exact⟨rfl,by lia⟩
  |int _=>obtain⟨t,rfl⟩:=rx;exact⟨rfl,by simp⟩
  |str _=>obtain⟨t,rfl⟩:=rx;exact⟨rfl,by simp⟩
  |byt _=>obtain⟨t,rfl⟩:=rx;exact⟨rfl,by simp⟩
  |flt _=>obtain⟨t,rfl⟩:=rx;exact⟨rfl,by simp⟩
  |ref _=>cases rx;exact⟨rfl,by simp⟩
  |ty _=>cases rx;exact⟨rfl,by simp⟩
theorem jnD  : OpR X (YaF .Is) (rIs false):=by
 intro pins s σ H x y v u Q I rx ry h;obtain⟨c,q⟩:=h;obtain⟨h1,h2⟩:=jgU rx ry c;refine wpAny_is_plain h1 ⟨.bl _,H,I,?_,q⟩;rw[h2];rfl
theorem jiw  : OpR X (YaF .IsNot) (rIs true):=by
 intro pins s σ H x y v u Q I rx ry h;obtain⟨c,q⟩:=h;obtain⟨h1,h2⟩:=jgU rx ry c;refine wpAny_isNot_plain h1 ⟨.bl _,H,I,?_,q⟩;rw[h2];rfl
theorem jkI       (rx:RU K H x v)(ry:RU K H y v')(h:isU x y k):((v=.non\/∃b,v=.bl b)\/(v'=.non\/∃b,v'=.bl b))/\k (decide (v=v')):=by
 have e:∀{a b:V},a≠b->k false->k (decide (a=b)):=λn q=>by lia
 cases x<;>try exact h.elim
 ·cases y
  case non=>have h':k true:=h;cases rx;cases ry;lia
  all_goals first
   |exact h.elim
   |(cases rx;obtain⟨a,vs,rfl,_⟩:=ry;exact⟨.inl (.inl rfl),e (λz=>nomatch z) h⟩)
   |(cases rx;cases ry;exact⟨.inl (.inl rfl),e (λz=>nomatch z) h⟩)
 ·cases y<;>first
   |exact h.elim
   |(cases rx;cases ry;exact⟨.inr (.inl rfl),e (λz=>nomatch z) h⟩)
   |(cases rx;cases ry;rename_i b c;exact⟨.inl (.inr ⟨_,rfl⟩),by rw[decide_eq_decide.mpr (⟨λz=>V.bl.inj z,λz=>z ▸ rfl⟩:V.bl b=.bl c↔b=c)];exact h⟩)
 ·cases y<;>first
   |exact h.elim
   |(cases rx;cases ry;exact⟨.inr (.inl rfl),e (λz=>nomatch z) h⟩)
   |(cases rx;cases ry;exact⟨.inr (.inr ⟨_,rfl⟩),e (λz=>nomatch z) h⟩)
 ·cases y<;>first
   |exact h.elim
   |(cases rx;cases ry;exact⟨.inr (.inl rfl),e (λz=>nomatch z) h⟩)
   |(cases rx;cases ry;exact⟨.inr (.inr ⟨_,rfl⟩),e (λz=>nomatch z) h⟩)
 ·cases y<;>first
   |exact h.elim
   |(cases ry;obtain⟨a,vs,rfl,_⟩:=rx;exact⟨.inr (.inl rfl),e (λz=>nomatch z) h⟩)
   |(cases ry;obtain⟨a,vs,rfl,_⟩:=rx;exact⟨.inr (.inr ⟨_,rfl⟩),e (λz=>nomatch z) h⟩)
 ·cases y<;>first
   |exact h.elim
   |(cases rx;cases ry;exact⟨.inr (.inl rfl),e (λz=>nomatch z) h⟩)
   |(cases rx;cases ry;exact⟨.inr (.inr ⟨_,rfl⟩),e (λz=>nomatch z) h⟩)
theorem jkN  {X: Cx}(rx:RU X.K H x v)(ry:RU X.K H y v')(hG:HR X.K H G)(h:eqU x y G k) :
  (scal v v'=true/\k (decide (v=v')))\/∃d e,DV X.K H v d/\DV X.K H v' e/\d.canLay0=true/\e.canLay0=true/\d.depth<=100/\k (YaG d e):=by
 have g:(∃d e,DU G x d/\DU G y e/\Small d/\Small e/\k (YaG d e))->(scal v v'=true/\k (decide (v=v')))\/∃d e,DV X.K H v d/\DV X.K H v' e/\d.canLay0=true/\e.canLay0=true/\d.depth<=100/\k (YaG d e):=
  λ⟨d,e,h1,h2,⟨s1,s2⟩,⟨s3,_⟩,q⟩=>.inr ⟨d,e,h1.dv hG rx,h2.dv hG ry,s1,s3,s2,q⟩
 have e:∀{p:Prop} [Decidable p],¬p->k false->k (decide p):=λn q=>by lia
 cases x<;>try exact g h
 all_goals
  cases y<;>first
   |exact g h
   |(cases rx;cases ry;exact .inl ⟨rfl,e (λz=>V.noConfusion z) h⟩)
   |(cases rx;cases ry;exact .inl ⟨rfl,by simp only[V.bl.injEq,V.int.injEq,V.str.injEq];exact h⟩)
theorem jdY      (r:RUs K H us vs):vs.isEmpty=us.isEmpty:=by
 have:=r.length;cases us<;>cases vs<;>simp_all
theorem jmo  {X: Cx}(rx:RU X.K H x v)(ry:RU X.K H y v')(hG:HR X.K H G)(h:eqQ x y G k):eqU x y G k\/(∃a z kvs,v=.ref a/\v'=.str z/\H a=some (.dK kvs)/\k false)\/(∃a b xs,v=.ref a/\v'=.ref b/\SqT X.K H a xs/\SqT X.K H b []/\k xs.isEmpty)\/∃a z xs,v=.ref a/\v'=.str z/\(SqT X.K H a xs\/SqL X.K H a xs)/\k false:=by
 cases x<;>try exact .inl h
 all_goals cases y<;>try exact .inl h
 ·obtain⟨a,vs,rfl,s1,r1⟩:=rx;cases ry;exact .inr (.inr (.inr ⟨a,_,vs,rfl,rfl,.inl (.of s1),h⟩))
 ·rename_i ys;cases ys<;>try exact .inl h
  obtain⟨a,vs,rfl,s1,r1⟩:=rx;obtain⟨b,ws,rfl,s2,r2⟩:=ry;cases r2;refine .inr (.inr (.inl ⟨a,b,vs,rfl,rfl,.of s1,.of s2,?_⟩));rw[jdY r1];exact h
 ·rcases h with⟨kvs,g,q⟩|⟨xs,g,q⟩|h
  ·cases rx;cases ry;obtain⟨l,e,rs⟩:=hG _ _ g;exact .inr (.inl ⟨_,_,l,rfl,rfl,e,q⟩)
  ·cases rx;cases ry;obtain⟨vs,e,rs⟩:=hG.lst g;exact .inr (.inr (.inr ⟨_,_,vs,rfl,rfl,.inr (.of e),q⟩))
  ·exact .inl h
theorem jlX  {X: Cx}(rx:RU X.K H x v)(ry:RU X.K H y v')(hG:HR X.K H G)(h:neQ x y G k):eqU x y G k\/(∃a b xs,v=.ref a/\v'=.ref b/\SqT X.K H a xs/\SqT X.K H b []/\k xs.isEmpty)\/∃a b xs,v=.ref a/\v'=.ref b/\SqL X.K H a xs/\SqL X.K H b []/\k xs.isEmpty:=by
 cases x<;>try exact .inl h
 case loc a=>
  cases y<;>try exact .inl h
  rcases h with⟨us,g1,g2,q⟩|h
  ·obtain⟨vs,e1,r1⟩:=hG.lst g1;obtain⟨ws,e2,r2⟩:=hG.lst g2;cases r2;cases rx;cases ry;refine .inr (.inr ⟨_,_,vs,rfl,rfl,.of e1,.of e2,?_⟩);rw[jdY r1];exact q
  ·exact .inl h
 cases y<;>try exact .inl h
 rename_i ys;cases ys<;>try exact .inl h
 obtain⟨a,vs,rfl,s1,r1⟩:=rx;obtain⟨b,ws,rfl,s2,r2⟩:=ry;cases r2;refine .inr (.inl ⟨a,b,vs,rfl,rfl,.of s1,.of s2,?_⟩);rw[jdY r1];exact h
theorem jfF       (r:RU K H x v)(e:kU x=some k):v=kV k:=by
 cases x with
 |int i=>cases r;cases e;rfl
 |str i=>cases r;cases e;rfl
 |_=>cases e
theorem jg7    : ∀{xs } {vs } {ks },RUs K H xs vs->kUs xs=some ks->vs=ks.map kV
 |[],_,_,r,e=>by cases r;cases e;rfl
 |x::xs,_,ks,r,e=>by
  obtain⟨v,vr,rfl,r1,rs⟩:=r;rw[kUs]at e;cases h1:kU x with
  |none=>lia
  |some k=>
   cases h2:kUs xs with
   |none=>lia
   |some l=>
    rw[h1,h2]at e;cases e;rw[jfF r1 h1,jg7 rs h2];rfl
theorem je9      (r:RU K H x v)(e:flat x=true):jdM v=true:=by
 cases x<;>first|(cases r;rfl)|exact absurd (show false=true from e) (by decide)
theorem jdT    : ∀{xs } {vs },RUs K H xs vs->xs.all flat=true->vs.all jdM=true
 |[],_,r,_=>by cases r;rfl
 |x::xs,_,r,e=>by
  obtain⟨v,vr,rfl,r1,rs⟩:=r;rw[Yba,Yah]at e;rw[Yba,je9 r1 e.1,jdT rs e.2];rfl
theorem joo      (r:RU K H x v)(r':RU K H y v')(e:flat x=true)(e':flat y=true):eqV v v'=eqF x y:=by
 cases x<;>first|(exact absurd (show false=true from e) (by decide))|(cases y<;>first|(exact absurd (show false=true from e') (by decide))|(cases r;cases r';rfl))
theorem jhn      (r:RU K H x v)(e:flat x=true):∀{xs } {vs },RUs K H xs vs->xs.all flat=true->inV v vs=xs.any λy=>eqF y x
 |[],_,rs,_=>by cases rs;rfl
 |y::xs,_,rs,e'=>by
  obtain⟨v',vr,rfl,r1,rs⟩:=rs;rw[Yba,Yah]at e';have ih:=jhn r e rs e'.2;unfold inV at ih ⊢;rw[Ybr,Ybr,joo r1 r e'.1 e,ih]
theorem jc7 {κ:Type}[DecidableEq κ]{K:Yab}{H:Hp}(k:κ):∀{kvs:List (κ×U)} {l:List (κ×V)},RKs K H kvs l->match dGet kvs k with|some u=>∃v,valV l k=some v/\RU K H u v|none=>valV l k=none
 |[],_,r=>by cases r;exact rfl
 |(k',u)::kvs,_,r=>by
  obtain⟨v,l',rfl,r1,rs⟩:=r;by_cases e:k'=k
  ·subst e;have:dGet ((k',u)::kvs) k'=some u:=by simp[dGet,Ybj]
   rw[this];exact⟨v,jdN rfl,r1⟩
  ·have:dGet ((k',u)::kvs) k=dGet kvs k:=by simp[dGet,Ybj,e]
   rw[this,jdO (p:=(k',v)) e];exact jc7 k rs
theorem jd6   [DecidableEq κ](k:κ)(r:RKs K H kvs l):(valV l k).isSome=(dGet kvs k).isSome:=by
 have:=jc7 k r
 grind
def rDIn  (neg:Bool):R2:=λx y H Q=>∃a o,y=.ref a/\DGet H a x o/\Q (.bl (if neg then !o.isSome else o.isSome)) H
theorem jnH  (hu:X.A.units+1<cLine):OpR X (YaF .In) (rDIn false):=by
 intro pins s σ H x y v u Q I rx ry h;obtain⟨a,o,rfl,g,q⟩:=h;cases ry;exact d_in hu I g rx λs' I'=>⟨.bl o.isSome,H,I',rfl,q⟩
theorem jiz  (hu:X.A.units+1<cLine):OpR X (YaF .NotIn) (rDIn true):=by
 intro pins s σ H x y v u Q I rx ry h;obtain⟨a,o,rfl,g,q⟩:=h;cases ry;exact jmq hu I g rx λs' I'=>⟨.bl (!o.isSome),H,I',rfl,q⟩
theorem jkJ  {X: Cx}(rx:RU X.K H x v)(ry:RU X.K H y v')(hG:HR X.K H G)(h:inU x y G k) :
  (∃i j,v=.str i/\v'=.str j/\k (!(Yb5 j i 0 j.length 1).isEmpty))\/(∃p xs,v'=.ref p/\(SqL X.K H p xs\/SqT X.K H p xs)/\jdM v=true/\xs.all jdM=true/\k (inV v xs))\/
   (∃a o,v'=.ref a/\DGet H a v o/\k o.isSome)\/(∃(p:Addr) (vs:List V) (d:PyData) (ds:List PyData),v'=.ref p/\(SqL X.K H p vs\/SqT X.K H p vs)/\DV X.K H v d/\DVs X.K H vs ds/\d.canLay0=true/\d.depth<=100/\(∀e∈ds,e.canLay0=true)/\k (ds.any λe=>YaG e d))\/∃(a p:Addr) (zs:List Str),v=.ref a/\((∃xs,SqT X.K H a xs\/SqL X.K H a xs)\/∃kvs,H a=some (.dK kvs))/\v'=.ref p/\SqT X.K H p (zs.map V.str)/\k false:=by
 unfold inU at h;split at h
 ·cases rx;cases ry;exact .inl ⟨_,_,rfl,rfl,h⟩
 ·obtain⟨a,vs,rfl,e,rs⟩:=ry;rcases h with⟨hz,q⟩|⟨d,ds,hd,hds,sd,sds,q⟩
  ·obtain⟨zs,hz⟩:=Option.isSome_iff_exists.mp hz;obtain⟨b,ws,rfl,e2,_⟩:=rx;exact .inr (.inr (.inr (.inr ⟨b,a,zs,rfl,.inl ⟨ws,.inl (.of e2)⟩,rfl,rs.strs hz ▸ .of e,q⟩)))
  ·exact .inr (.inr (.inr (.inl ⟨a,vs,d,ds,rfl,.inr (.of e),hd.dv hG rx,hds.dv hG rs,sd.1,sd.2,λe he=>(sds e he).1,q⟩)))
 ·obtain⟨a,vs,rfl,e,rs⟩:=ry;obtain⟨hz,hl,q⟩:=h;obtain⟨zs,hz⟩:=Option.isSome_iff_exists.mp hz;cases rx;refine .inr (.inr (.inr (.inr ⟨_,a,zs,rfl,?_,rfl,rs.strs hz ▸ .of e,q⟩)));rcases hl with⟨xs,g⟩|⟨kvs,g⟩
  ·obtain⟨ws,e2,_⟩:=hG.lst g;exact .inl ⟨ws,.inr (.of e2)⟩
  ·obtain⟨l,e2,_⟩:=hG _ _ g;exact .inr ⟨l,e2⟩
 ·obtain⟨a,vs,rfl,e,rs⟩:=ry;obtain⟨f1,f2,q⟩:=h;exact .inr (.inl ⟨a,vs,rfl,.inr (.of e),je9 rx f1,jdT rs f2,by rw[jhn rx f1 rs f2];exact q⟩)
 ·cases ry;rename_i a;split at h
  ·rename_i ys g;obtain⟨vs,e,rs⟩:=hG.lst g;rcases h with⟨f1,f2,q⟩|⟨d,ds,hd,hds,sd,sds,q⟩
   ·exact .inr (.inl ⟨a,vs,rfl,.inl (.of e),je9 rx f1,jdT rs f2,by rw[jhn rx f1 rs f2];exact q⟩)
   ·exact .inr (.inr (.inr (.inl ⟨a,vs,d,ds,rfl,.inl (.of e),hd.dv hG rx,hds.dv hG rs,sd.1,sd.2,λe he=>(sds e he).1,q⟩)))
  ·rename_i ys g;obtain⟨ob,vs,e,rs⟩:=hG a _ g;obtain⟨f1,f2,q⟩:=h;exact .inr (.inl ⟨a,vs,rfl,.inl (.inl (.inr ⟨ob,e⟩)),je9 rx f1,jdT rs f2,by rw[jhn rx f1 rs f2];exact q⟩)
  ·rename_i kvs g;obtain⟨l,e,rs⟩:=hG a _ g;split at h
   ·rename_i y ek;have:=jfF rx ek;subst this;exact .inr (.inr (.inl ⟨a,_,rfl,DGet.k e,by rw[jd6 y rs];exact h⟩))
   lia
  ·rename_i kvs g;obtain⟨l,e,rs⟩:=hG a _ g;split at h
   ·rename_i xs;obtain⟨b,vs,rfl,eb,rb⟩:=rx;split at h
    ·rename_i y ek;have:=jg7 rb ek;subst this;exact .inr (.inr (.inl ⟨a,_,rfl,DGet.t e eb,by rw[jd6 y rs];exact h⟩))
    lia
   lia
  ·rename_i o kvs g;obtain⟨l,e,rs⟩:=hG a _ g;split at h
   ·rename_i y ek;have:=jfF rx ek;subst this;exact .inr (.inr (.inl ⟨a,_,rfl,.inl ⟨l,y,.inr ⟨o,e⟩,rfl,rfl⟩,by rw[jd6 y rs];exact h⟩))
   lia
  lia
 lia
theorem jeY     (h:ordU o x y k):(∃i j,x=.int i/\y=.int j)\/(o=.LtE/\∃i j,x=.str i/\y=.str j):=by
 cases o<;>try exact h.elim
 all_goals cases x<;>try exact h.elim
 all_goals cases y<;>try exact h.elim
 all_goals lia
theorem jeM   (hr:Room k X.A) o:CmU X o:=by
 have hu:X.A.units+1<cLine:=by have:=hr.un;lia
 cases o with
 |Eq=>
  refine⟨_,jpu.or ((jnG hr).or ((jeZ hr).or ((jhz hr).or (jfw hr)))),λx y v v' G H k Q0 rx ry hG h q=>?_⟩;rcases jmo rx ry hG h with h|⟨a,z,kvs,h1,h2,h3,h4⟩|⟨a,b,xs,h1,h2,h3,h4,h5⟩|⟨a,z,xs,h1,h2,h3,h4⟩
  ·rcases jkN rx ry hG h with⟨h1,h2⟩|⟨d,e,h1,h2,h3,h4,h5,h6⟩
   ·exact .inl ⟨h1,q _ h2⟩
   ·exact .inr (.inl ⟨d,e,h1,h2,h3,h4,h5,q _ h6⟩)
  ·exact .inr (.inr (.inl ⟨a,z,kvs,h1,h2,h3,q _ h4⟩))
  ·exact .inr (.inr (.inr (.inl ⟨a,b,xs,h1,h2,h3,h4,q _ h5⟩)))
  ·exact .inr (.inr (.inr (.inr ⟨a,z,xs,h1,h2,h3,q _ h4⟩)))
 |NotEq=>
  refine⟨_,jpp.or ((jnA hr).or ((jhx hr).or (jhy hr))),λx y v v' G H k Q0 rx ry hG h q=>?_⟩;rcases jlX rx ry hG h with h|⟨a,b,xs,h1,h2,h3,h4,h5⟩|⟨a,b,xs,h1,h2,h3,h4,h5⟩
  ·rcases jkN rx ry hG h with⟨h1,h2⟩|⟨d,e,h1,h2,h3,h4,h5,h6⟩
   ·exact .inl ⟨h1,q _ h2⟩
   ·exact .inr (.inl ⟨d,e,h1,h2,h3,h4,h5,q _ h6⟩)
  ·exact .inr (.inr (.inl ⟨a,b,xs,h1,h2,h3,h4,q _ h5⟩))
  ·exact .inr (.inr (.inr ⟨a,b,xs,h1,h2,h3,h4,q _ h5⟩))
 |Is=>
  refine⟨_,jnD,λx y v v' G H k Q0 rx ry hG h q=>?_⟩;obtain⟨h1,h2⟩:=jkI rx ry h;exact⟨h1,q _ h2⟩
 |IsNot=>
  refine⟨_,jiw,λx y v v' G H k Q0 rx ry hG h q=>?_⟩;obtain⟨h1,h2⟩:=jkI rx ry h;exact⟨h1,q _ h2⟩
 |In=>
  refine⟨_,jix.or ((jiy (X:=X)).or ((jnH hu).or ((jnF hr).or (jnE hr)))),λx y v v' G H k Q0 rx ry hG h q=>?_⟩;rcases jkJ rx ry hG h with⟨i,j,h1,h2,h3⟩|⟨p,xs,h1,h2,h3,h4,h5⟩|⟨a,o,h1,h2,h3⟩|⟨p,vs,d,ds,h1,h2,h3,h4,h5,h6,h7,h8⟩|⟨a,p,zs,h1,h2,h3,h4,h5⟩
  ·grind
  ·exact .inr (.inl ⟨p,xs,h1,h2,h3,h4,q _ h5⟩)
  ·exact .inr (.inr (.inl ⟨a,o,h1,h2,q _ h3⟩))
  ·exact .inr (.inr (.inr (.inl ⟨p,vs,d,ds,h1,h2,h3,h4,h5,h6,h7,q _ h8⟩)))
  ·exact .inr (.inr (.inr (.inr ⟨a,p,zs,h1,h2,h3,h4,q _ h5⟩)))
 |NotIn=>
  refine⟨_,jfu.or ((jfv (X:=X)).or ((jiz hu).or ((jiu hr).or (jit hr)))),λx y v v' G H k Q0 rx ry hG h q=>?_⟩;rcases jkJ rx ry hG h with⟨i,j,h1,h2,h3⟩|⟨p,xs,h1,h2,h3,h4,h5⟩|⟨a,o,h1,h2,h3⟩|⟨p,vs,d,ds,h1,h2,h3,h4,h5,h6,h7,h8⟩|⟨a,p,zs,h1,h2,h3,h4,h5⟩
  ·grind
  ·exact .inr (.inl ⟨p,xs,h1,h2,h3,h4,q _ h5⟩)
  ·exact .inr (.inr (.inl ⟨a,o,h1,h2,q _ h3⟩))
  ·exact .inr (.inr (.inr (.inl ⟨p,vs,d,ds,h1,h2,h3,h4,h5,h6,h7,q _ h8⟩)))
  ·exact .inr (.inr (.inr (.inr ⟨a,p,zs,h1,h2,h3,h4,q _ h5⟩)))
 |Lt=>
  refine⟨_,jpq,λx y v v' G H k Q0 rx ry hG h q=>?_⟩;obtain⟨i,j,rfl,rfl⟩|⟨z,_⟩:=jeY h
  rotate_left
  ·cases z
  cases rx;cases ry;exact⟨_,_,rfl,rfl,q _ h⟩
 |LtE=>
  refine⟨_,jpr.or jiv,λx y v v' G H k Q0 rx ry hG h q=>?_⟩;obtain⟨i,j,rfl,rfl⟩|⟨_,i,j,rfl,rfl⟩:=jeY h
  ·cases rx;cases ry;exact .inl ⟨_,_,rfl,rfl,q _ h⟩
  ·cases rx;cases ry;exact .inr ⟨_,_,rfl,rfl,q _ h⟩
 |Gt=>
  refine⟨_,jps,λx y v v' G H k Q0 rx ry hG h q=>?_⟩;obtain⟨i,j,rfl,rfl⟩|⟨z,_⟩:=jeY h
  rotate_left
  ·cases z
  cases rx;cases ry;exact⟨_,_,rfl,rfl,q _ h⟩
 |GtE=>
  refine⟨_,jpt,λx y v v' G H k Q0 rx ry hG h q=>?_⟩;obtain⟨i,j,rfl,rfl⟩|⟨z,_⟩:=jeY h
  rotate_left
  ·cases z
  cases rx;cases ry;exact⟨_,_,rfl,rfl,q _ h⟩

theorem joT   (ho:CmU X o)(ha:PE X a (lE X ta))(hb:PE X b (lE X tb))(hm:YdZ o b=false) :
  PE X (.Compare a [o] [b] pos) (lE X λς G Q E=>ta ς G (λx G1=>tb ς G1 (λy G2=>cmpU o x y G2 λc=>Q (.bl c) G2) E) E):=by
 obtain⟨r,h1,h2⟩:=ho;exact(jlC h1 ha hb hm).imp λσ H Q0 h=>lE.two h λx y v v' G H' Q rx ry hG q lv=>h2 x y v v' G H' _ Q0 rx ry hG q λc q=>lv.bl hG q
theorem jmG   (ho:CmU X o)(ho':CmU X o')(ha:PE X a (lE X ta))(hb:PE X b (lE X tb))(hc:PE X c (lE X tc))(hm:YfM [o,o'] [b,c]=false) :
  PE X (.Compare a [o,o'] [b,c] pos) (lE X λς G Q E=>ta ς G (λx G1=>tb ς G1 (λy G2=>cmpU o x y G2 λt=>if t=true then tc ς G2 (λz G3=>cmpU o' y z G3 λt'=>Q (.bl t') G3) E else Q (.bl false) G2) E) E):=by
 obtain⟨r,h1,h2⟩:=ho;obtain⟨r',h1',h2'⟩:=ho';refine(jjS h1 h1' ha hb hc hm).imp λσ H Q0 h=>?_;obtain⟨ς,G,Q,E,hς,hG,h,lv,lx⟩:=h;refine⟨ς,G,_,E,hς,hG,h,λx v G1 H1 rx hG1 f1 h1=>?_,lx⟩;refine⟨ς,G1,_,E,hς.ts (f1.ts hG),hG1,h1,λy v' G2 H2 ry hG2 f2 h3=>?_,lx.fr f1⟩;refine h2 x y v v' G2 H2 _ _ (rx.ts (f2.ts hG1)) ry hG2 h3 λt q=>⟨t,rfl,?_⟩;cases t with
 |false=>
  rw[if_neg Yai]at q ⊢;exact(lv.fr (f1.trans f2)).bl hG2 q
 |true=>
  rw[if_pos rfl]at q ⊢;refine⟨ς,G2,_,E,(hς.ts (f1.ts hG)).ts (f2.ts hG1),hG2,q,λz v3 G3 H3 rz hG3 f3 h4=>?_,lx.fr (f1.trans f2)⟩;exact h2' y z v' v3 G3 H3 _ Q0 (ry.ts (f3.ts hG2)) rz hG3 h4 λc q=>(lv.fr ((f1.trans f2).trans f3)).bl hG3 q
theorem jeR  {X: Cx}(rx:RU X.K H x v)(hG:HR X.K H G)(h:truU x G k):∃b,TruV X.K v H b/\k b:=by
 cases x<;>try exact h.elim
 ·cases rx;exact⟨_,rfl,h⟩
 ·cases rx;exact⟨_,rfl,h⟩
 ·cases rx;exact⟨_,rfl,h⟩
 ·cases rx;exact⟨_,⟨h.1,rfl⟩,h.2⟩
 ·obtain⟨a,vs,rfl,e,rs⟩:=rx;exact⟨_,.inr (.inl ⟨vs,.of e,rfl⟩),by rw[<- rs.isEmpty];exact h⟩
 ·cases rx;unfold truU at h;dsimp only at h;split at h
  ·rename_i g;obtain⟨vs,e,rs⟩:=hG.lst g;exact⟨_,.inl ⟨vs,.of e,rfl⟩,by rw[<- rs.isEmpty];exact h⟩
  ·rename_i g;obtain⟨ob,vs,e,rs⟩:=hG _ _ g;exact⟨_,.inl ⟨vs,.inl (.inr ⟨ob,e⟩),rfl⟩,by rw[<- rs.isEmpty];exact h⟩
  ·rename_i kvs g;obtain⟨l,e,rs⟩:=hG _ _ g;refine⟨_,.inr (.inr ⟨l,e,rfl⟩),?_⟩;cases kvs with
   |nil=>cases rs;exact h
   |cons p r=>obtain⟨v,l',rfl,_⟩:=rs;exact h
  lia
theorem joL  (ha:PE X a (lE X ta))(he:∀whole,isTrue a X.env whole=(do let v <- whole;standAt a.pos;holding [v] (truthy v))):PT X a (lT X λς G Q E=>ta ς G (λx G1=>truU x G1 λb=>Q b G1) E):=by
 refine(jjG ha he).imp λσ H Q0 h=>?_;obtain⟨ς,G,Q,E,hς,hG,h,lv,lx⟩:=h;refine⟨ς,G,_,E,hς,hG,h,λx v G1 H1 rx hG1 f1 h1=>?_,lx⟩;obtain⟨b,h2,h3⟩:=jeR rx hG1 h1
 grind
theorem jmF   (ho:CmU X o)(ha:PE X a (lE X ta))(hb:PE X b (lE X tb))(hm:YdZ o b=false) :
  PT X (.Compare a [o] [b] pos) (lT X λς G Q E=>ta ς G (λx G1=>tb ς G1 (λy G2=>cmpU o x y G2 λc=>truU (.bl c) G2 λc=>Q c G2) E) E):=by
 obtain⟨r,h1,h2⟩:=ho;refine(jlo h1 ha hb hm).imp λσ H Q0 h=>?_;obtain⟨ς,G,Q,E,hς,hG,h,lv,lx⟩:=h;refine⟨ς,G,_,E,hς,hG,h,λx v G1 H1 rx hG1 f1 h1=>?_,lx⟩;refine⟨ς,G1,_,E,hς.ts (f1.ts hG),hG1,h1,λy v' G2 H2 ry hG2 f2 h3=>?_,lx.fr f1⟩;exact h2 x y v v' G2 H2 _ _ (rx.ts (f2.ts hG1)) ry hG2 h3 λt q=>⟨t,rfl,lv t G2 H2 hG2 (f1.trans f2) q⟩
theorem jk6   (ho:CmU X o)(ho':CmU X o')(ha:PE X a (lE X ta))(hb:PE X b (lE X tb))(hc:PE X c (lE X tc))(hm:YfM [o,o'] [b,c]=false) :
  PT X (.Compare a [o,o'] [b,c] pos) (lT X λς G Q E=>ta ς G (λx G1=>tb ς G1 (λy G2=>cmpU o x y G2 λt=>if t=true then tc ς G2 (λz G3=>cmpU o' y z G3 λt'=>truU (.bl t') G3 λc=>Q c G3) E else truU (.bl false) G2 λc=>Q c G2) E) E):=by
 obtain⟨r,h1,h2⟩:=ho;obtain⟨r',h1',h2'⟩:=ho';refine(jjH h1 h1' ha hb hc hm).imp λσ H Q0 h=>?_;obtain⟨ς,G,Q,E,hς,hG,h,lv,lx⟩:=h;refine⟨ς,G,_,E,hς,hG,h,λx v G1 H1 rx hG1 f1 h1=>?_,lx⟩;refine⟨ς,G1,_,E,hς.ts (f1.ts hG),hG1,h1,λy v' G2 H2 ry hG2 f2 h3=>?_,lx.fr f1⟩;refine h2 x y v v' G2 H2 _ _ (rx.ts (f2.ts hG1)) ry hG2 h3 λt q=>⟨t,rfl,?_⟩;cases t with
 |false=>
  rw[if_neg Yai]at q ⊢;exact⟨false,rfl,lv false G2 H2 hG2 (f1.trans f2) q⟩
 |true=>
  rw[if_pos rfl]at q ⊢;refine⟨ς,G2,_,E,(hς.ts (f1.ts hG)).ts (f2.ts hG1),hG2,q,λz v3 G3 H3 rz hG3 f3 h4=>?_,lx.fr (f1.trans f2)⟩;exact h2' y z v' v3 G3 H3 _ _ (ry.ts (f3.ts hG2)) rz hG3 h4 λc q=>⟨c,rfl,lv c G3 H3 hG3 ((f1.trans f2).trans f3) q⟩
theorem jlD  {rest:List Expr}(ha:PE X a sa)(hb:PE X (.BoolOp .And (b::rest) pos) sb):PE X (.BoolOp .And (a::b::rest) pos) (λσ H Q=>sa σ H λx H1=>∃k,TruV X.K x H1 k/\if k=true then sb σ H1 Q else Q x H1):=by
 intro pins s σ H Q I h;refine PyProof.Rows.BoolOp_and (thn (ha pins s σ H _ I h) λv s1 ⟨x,H1,I1,r1,k,hk,q1⟩=>?_);refine thn (jgM pins s1 σ H1 x v (λc H2=>c=k/\H2=H1) I1 r1 ⟨k,hk,rfl,rfl⟩) λc s2 ⟨H2,I2,e1,e2⟩=>?_;subst e1 e2;cases c with
 |true=>exact hb pins s2 σ H2 Q I2 q1
 |false=>exact⟨x,H2,I2,r1,q1⟩
theorem jnj  {rest:List Expr}(ha:PE X a sa)(hb:PE X (.BoolOp .Or (b::rest) pos) sb):PE X (.BoolOp .Or (a::b::rest) pos) (λσ H Q=>sa σ H λx H1=>∃k,TruV X.K x H1 k/\if k=true then Q x H1 else sb σ H1 Q):=by
 intro pins s σ H Q I h;refine PyProof.Rows.BoolOp_or (thn (ha pins s σ H _ I h) λv s1 ⟨x,H1,I1,r1,k,hk,q1⟩=>?_);refine thn (jgM pins s1 σ H1 x v (λc H2=>c=k/\H2=H1) I1 r1 ⟨k,hk,rfl,rfl⟩) λc s2 ⟨H2,I2,e1,e2⟩=>?_;subst e1 e2;cases c with
 |true=>exact⟨x,H2,I2,r1,q1⟩
 |false=>exact hb pins s2 σ H2 Q I2 q1
theorem joX  {rest:List Expr}(ha:PE X a (lE X ta))(hb:PE X (.BoolOp .And (b::rest) pos) (lE X tb)):PE X (.BoolOp .And (a::b::rest) pos) (lE X λς G Q E=>ta ς G (λx G1=>truU x G1 λc=>if c=true then tb ς G1 Q E else Q x G1) E):=by
 refine(jlD ha hb).imp λσ H Q0 h=>?_;obtain⟨ς,G,Q,E,hς,hG,h,lv,lx⟩:=h;refine⟨ς,G,_,E,hς,hG,h,λx v G1 H1 rx hG1 f1 h1=>?_,lx⟩;obtain⟨k,h2,h3⟩:=jeR rx hG1 h1;refine⟨k,h2,?_⟩;cases k with
 |true=>rw[if_pos rfl]at h3 ⊢;exact⟨ς,G1,Q,E,hς.ts (f1.ts hG),hG1,h3,lv.fr f1,lx.fr f1⟩
 |false=>rw[if_neg Yai]at h3 ⊢;exact(lv.fr f1).here rx hG1 h3
theorem u_or  {rest:List Expr}(ha:PE X a (lE X ta))(hb:PE X (.BoolOp .Or (b::rest) pos) (lE X tb)):PE X (.BoolOp .Or (a::b::rest) pos) (lE X λς G Q E=>ta ς G (λx G1=>truU x G1 λc=>if c=true then Q x G1 else tb ς G1 Q E) E):=by
 refine(jnj ha hb).imp λσ H Q0 h=>?_;obtain⟨ς,G,Q,E,hς,hG,h,lv,lx⟩:=h;refine⟨ς,G,_,E,hς,hG,h,λx v G1 H1 rx hG1 f1 h1=>?_,lx⟩;obtain⟨k,h2,h3⟩:=jeR rx hG1 h1;refine⟨k,h2,?_⟩;cases k with
 |true=>rw[if_pos rfl]at h3 ⊢;exact(lv.fr f1).here rx hG1 h3
 |false=>rw[if_neg Yai]at h3 ⊢;exact⟨ς,G1,Q,E,hς.ts (f1.ts hG),hG1,h3,lv.fr f1,lx.fr f1⟩
theorem joN  (ha:PE X a (lE X ta)):PE X (.UnaryOp .Not a pos) (lE X λς G Q E=>ta ς G (λx G1=>truU x G1 λb=>Q (.bl (!b)) G1) E):=by
 intro pins s σ H Q0 I h;obtain⟨ς,G,Q,E,hς,hG,h,lv,lx⟩:=h;refine PyProof.Rows.UnaryOp_ (thn (ha pins s σ H (λv H1=>∃k,TruV X.K v H1 k/\Q0 (.bl (!k)) H1) I ⟨ς,G,_,E,hς,hG,h,λx v G1 H1 rx hG1 f1 h1=>?_,lx⟩) λv s1 ⟨x,H1,I1,r1,k,hk,q1⟩=>?_)
 ·obtain⟨k,h2,h3⟩:=jeR rx hG1 h1;exact⟨k,h2,(lv.fr f1).bl hG1 h3⟩
 ·refine PyProof.Rows.not_of (thn (jgM pins s1 σ H1 x v (λc H2=>c=k/\H2=H1) I1 r1 ⟨k,hk,rfl,rfl⟩) λc s2 ⟨H2,I2,e1,e2⟩=>?_);subst e1 e2;exact⟨.bl (!c),H2,I2,rfl,q1⟩
theorem jmD  {tB: UT}(hc:PT X c (lT X tA)){tC:UT}(ha:PT X a (lT X tB))(hb:PT X b (lT X tC)):PT X (.IfExp c a b pos) (lT X λς G Q E=>tA ς G (λt G1=>if t=true then tB ς G1 Q E else tC ς G1 Q E) E):=by
 intro pins s σ H Q0 I h;obtain⟨ς,G,Q,E,hς,hG,h,lv,lx⟩:=h;show wpAny _ _ (do if <- isTrue c X.env (eval c X.env) then isTrue a X.env (eval a X.env) else isTrue b X.env (eval b X.env)) _ _ s
 refine Yac (thn (hc pins s σ H (λt H1=>∃G1,HR X.K H1 G1/\Fr H G H1 G1/\if t=true then tB ς G1 Q E else tC ς G1 Q E) I ⟨ς,G,_,E,hς,hG,h,λt G1 H1 hG1 f1 h1=>⟨G1,hG1,f1,h1⟩,lx⟩) λt s1 ⟨H1,I1,G1,hG1,f1,h1⟩=>?_)
 cases t with
 |true=>exact ha pins s1 σ H1 Q0 I1 ⟨ς,G1,Q,E,hς.ts (f1.ts hG),hG1,h1,λb G2 H2 hG2 f2 h2=>lv b G2 H2 hG2 (f1.trans f2) h2,lx.fr f1⟩
 |false=>exact hb pins s1 σ H1 Q0 I1 ⟨ς,G1,Q,E,hς.ts (f1.ts hG),hG1,h1,λb G2 H2 hG2 f2 h2=>lv b G2 H2 hG2 (f1.trans f2) h2,lx.fr f1⟩
theorem jmC  (ha:PT X a (lT X tA)):PT X (.UnaryOp .Not a pos) (lT X λς G Q E=>tA ς G (λb G1=>Q (!b) G1) E):=by
 refine(jkv ha).imp λσ H Q0 h=>?_;obtain⟨ς,G,Q,E,hς,hG,h,lv,lx⟩:=h;exact⟨ς,G,_,E,hς,hG,h,λb G1 H1 hG1 f1 h1=>lv (!b) G1 H1 hG1 f1 h1,lx⟩
theorem jmI  {tB: UT}{rest:List Expr}(ha:PT X a (lT X tA))(hb:PW X (.BoolOp .And (b::rest) pos) (lT X tB)):PW X (.BoolOp .And (a::b::rest) pos) (lT X λς G Q E=>tA ς G (λc G1=>if c=true then tB ς G1 Q E else Q false G1) E):=by
 refine(pw_and ha hb).imp λσ H Q0 h=>?_;obtain⟨ς,G,Q,E,hς,hG,h,lv,lx⟩:=h;refine⟨ς,G,_,E,hς,hG,h,λc G1 H1 hG1 f1 h1=>?_,lx⟩;cases c with
 |false=>grind
 |true=>rw[if_pos rfl]at h1 ⊢;exact⟨ς,G1,Q,E,hς.ts (f1.ts hG),hG1,h1,λb G2 H2 hG2 f2 h2=>lv b G2 H2 hG2 (f1.trans f2) h2,lx.fr f1⟩
theorem joM  {tB: UT}{rest:List Expr}(ha:PT X a (lT X tA))(hb:PW X (.BoolOp .Or (b::rest) pos) (lT X tB)):PW X (.BoolOp .Or (a::b::rest) pos) (lT X λς G Q E=>tA ς G (λc G1=>if c=true then Q true G1 else tB ς G1 Q E) E):=by
 refine(pw_or ha hb).imp λσ H Q0 h=>?_;obtain⟨ς,G,Q,E,hς,hG,h,lv,lx⟩:=h;refine⟨ς,G,_,E,hς,hG,h,λc G1 H1 hG1 f1 h1=>?_,lx⟩;cases c with
 |true=>grind
 |false=>rw[if_neg Yai]at h1 ⊢;exact⟨ς,G1,Q,E,hς.ts (f1.ts hG),hG1,h1,λb G2 H2 hG2 f2 h2=>lv b G2 H2 hG2 (f1.trans f2) h2,lx.fr f1⟩
theorem joR  (hc:PT X c (lT X tA))(ha:PE X a (lE X ta))(hb:PE X b (lE X tb)):PE X (.IfExp c a b pos) (lE X λς G Q E=>tA ς G (λt G1=>if t=true then ta ς G1 Q E else tb ς G1 Q E) E):=by
 refine(jjQ hc ha hb).imp λσ H Q0 h=>?_;obtain⟨ς,G,Q,E,hς,hG,h,lv,lx⟩:=h;refine⟨ς,G,_,E,hς,hG,h,λc G1 H1 hG1 f1 h1=>?_,lx⟩;cases c with
 |true=>rw[if_pos rfl]at h1 ⊢;exact⟨ς,G1,Q,E,hς.ts (f1.ts hG),hG1,h1,lv.fr f1,lx.fr f1⟩
 |false=>rw[if_neg Yai]at h1 ⊢;exact⟨ς,G1,Q,E,hς.ts (f1.ts hG),hG1,h1,lv.fr f1,lx.fr f1⟩
end Z

namespace L2
open PySem PySem.Spec PyProof.Rows

def joZ  (K:Yab)(te tst:TE):TE:=λσ H Q=>te σ H λx H1=>tst σ H1 λy H2=>(∃a xs,x=.ref a/\SqL K H2 a xs/\
 ((y=.int 1/\∀p,H2 p=none->Q (.ref p) (upd H2 p (.lst xs)))\/(y=.int (-1)/\∀p,H2 p=none->Q (.ref p) (upd H2 p (.lst xs.reverse)))))\/
 ∃a xs,x=.ref a/\SqT K H2 a xs/\y=.int (-1)/\∀p,H2 p=none->Q (.ref p) (upd H2 p (.tup xs.reverse))
theorem jlA  {st: Expr}(he:PE X e te)(hs:PE X st tst):PE X (.Subscript e (.Slice none none (some st) p2) pos) (joZ X.K te tst):=by
 intro pins s σ H Q I h;refine Subscript_ (thn (he pins s σ H _ I h) λv s1 ⟨x,H1,I1,r1,q1⟩=>?_);refine wpAny_Slice ?_;rw[Yfn,evalPart_some];refine Yal (Yal ?_);refine thn (hs pins s1 σ H1 _ I1 q1) λu s3 ⟨y,H3,I3,r3,q3⟩=>?_;have I4:Inv X pins σ H3 { s3 with heap:=s3.heap.push { cls:=.type "slice",data:=.fields #[.none,.none,u] } }:=I3.kept (t':=s3.toks) λb ob q=>Yad _ q
 rcases q3 with⟨a,xs,rfl,hx,q3⟩|⟨a,xs,rfl,hx,rfl,q⟩
 ·cases r1;obtain⟨its,r,ht,hz⟩:=I4.list hx;have hlen:=r.length;show wpAny (model X.prog X.w) X.A (YdV e (.Slice none none (some st) p2) (.ref a) (.ref s3.heap.objs.size)) (EP X pins σ Q) X.xe { s3 with heap:=s3.heap.push { cls:=.type "slice",data:=.fields #[.none,.none,u] } }
  refine tail_any (ops:=[.ref a,.ref s3.heap.objs.size]) ht.isList.typeIs slot_list_getitem.lookup ?_ (by with_unfolding_all rfl)
  rcases q3 with⟨rfl,q⟩|⟨rfl,q⟩
  ·obtain⟨t,rfl⟩:=r3;refine Yc5 ht.isList (Heap.IsSliceOf.new ..) .none .none (.int 1 t) (by decide) ?_ (by simp_all)
   rw[jkl];refine⟨.ref _,_,I4.laid (t':=s3.toks) (o:=.lst xs) (λb ob q=>Yad _ q) (Yae _) ?_,rfl,q _ (I4.hok.fresh (Yae _))⟩;exact⟨hz,_,0,r,YaA _ rfl⟩
  ·obtain⟨t,rfl⟩:=r3;refine Yc5 ht.isList (Heap.IsSliceOf.new ..) .none .none (.int (-1) t) (by decide) ?_ (by simp_all)
   rw[jjD];refine⟨.ref _,_,I4.laid (t':=s3.toks) (o:=.lst xs.reverse) (λb ob q=>Yad _ q) (Yae _) ?_,rfl,q _ (I4.hok.fresh (Yae _))⟩;exact⟨by simp_all,_,0,r.rev,YaA _ rfl⟩
 ·cases r1;obtain⟨t,rfl⟩:=r3;obtain⟨its,r,ht,hz⟩:=I4.tuple hx;have hlen:=r.length;show wpAny (model X.prog X.w) X.A (YdV e (.Slice none none (some st) p2) (.ref a) (.ref s3.heap.objs.size)) (EP X pins σ Q) X.xe { s3 with heap:=s3.heap.push { cls:=.type "slice",data:=.fields #[.none,.none,.int (-1) t] } }
  refine tail_any (ops:=[.ref a,.ref s3.heap.objs.size]) ht.typeIs YaS.lookup ?_ (by with_unfolding_all rfl)
  refine HT.getItem_tuple_rev ht (Heap.IsSliceOf.new ..) ?_ (by lia)
  refine⟨.ref _,_,I4.laid (t':=s3.toks) (o:=.tup xs.reverse) (λb ob q=>Yad _ q) (Yae _) ?_,rfl,q _ (I4.hok.fresh (Yae _))⟩;exact⟨by simp_all,_,r.rev,TupD.new _ _⟩
end L2
namespace Z
open PySem L2
section
variable {X:Cx}{pos:Pos}{a b e:Expr}{es:List Expr}{ta tb te:UE}{ts:UA}
theorem jju  : PA X [] (lA X λ_ G Q _=>Q [] G):=by
 refine jdZ.imp λσ H Q0 h=>?_;obtain⟨ς,G,Q,E,hς,hG,h,lv,lx⟩:=h;exact lv [] [] G H rfl hG (Fr.refl _ _) h
theorem jgL  (ha:PE X e (lE X te))(hr:PA X es (lA X ts))(hs:Yat (e::es) X.env=(false,eval e X.env)::Yat es X.env):PA X (e::es) (lA X λς G Q E=>te ς G (λx G1=>ts ς G1 (λxs G2=>Q (x::xs) G2) E) E):=by
 refine(jaN ha hr hs).imp λσ H Q0 h=>?_;obtain⟨ς,G,Q,E,hς,hG,h,lv,lx⟩:=h;refine⟨ς,G,_,E,hς,hG,h,λx v G1 H1 rx hG1 f1 h1=>?_,lx⟩;refine⟨ς,G1,_,E,hς.ts (f1.ts hG),hG1,h1,λxs vs G2 H2 rxs hG2 f2 h2=>?_,lx.fr f1⟩;exact lv (x::xs) (v::vs) G2 H2 ⟨v,vs,rfl,rx.ts (f2.ts hG1),rxs⟩ hG2 (f1.trans f2) h2
theorem joI   (h:PA X es (lA X ts)):PE X (.Tuple es k pos) (lE X λς G Q E=>ts ς G (λus G1=>us.length<=Yag/\Q (.tup us) G1) E):=
 (jip h).imp λσ H Q0 h=>lE.many h λus vs G H' Q r hG q lv=>⟨by rw[<- r.length];exact q.1,λp hp=>lv.tup hp r hG q.2⟩
theorem joQ  (h:PA X es (lA X ts)):PE X (.List es pos) (lE X λς G Q E=>ts ς G (λus G1=>us.length<=Yag/\newO G1 (.lst us) Q) E):=
 (jkx h).imp λσ H Q0 h=>lE.many h λus vs G H' Q r hG q lv=>⟨by rw[<- r.length];exact q.1,λp hp=>lv.lst hp r hG q.2⟩
def rDix  : R2:=λx y H Q=>∃a v,x=.ref a/\DGet H a y (some v)/\Q v H
theorem jl9  (hu:X.A.units+1<cLine):IxR X rDix:=by
 intro value slice pins s σ H x y v u Q I rx ry h hs;obtain⟨a,w,rfl,g,q⟩:=h;cases rx;exact PyProof.Rows.tail_any (jgy I g) PySem.F.slot_dict_getitem.lookup (jjc hu I g ry λw' s3 I3 rw'=>⟨w,H,I3,rw',q⟩) hs
theorem jkH {H:Hp}{G:Gp}{y:U}{v':V}{Q:K1}{Q0:VK}{a:Addr}{xs:List U}{vs:List V}(h:match y with|.int i=>(match atI xs i with|some u=>Q u G|none=>False)|_=>False)
  (ry:RU X.K H y v') (hG:HR X.K H G) (lv:LV X H G Q Q0) (sq:SqL X.K H a vs) (rs:RUs X.K H xs vs):rIx X.K (.ref a) v' H Q0:=by
 cases y with
 |int i=>
  cases ry;dsimp only at h;split at h
  ·rename_i u e;obtain⟨w,e2,r⟩:=rs.atI e;exact .inl ⟨_,vs,_,w,rfl,rfl,sq,e2,lv.here r hG h⟩
  lia
 |_=>lia
theorem jod        (rx:RU X.K H x v)(ry:RU X.K H y v')(hG:HR X.K H G)(h:ixU x y G Q)(lv:LV X H G Q Q0):rIx X.K v v' H Q0\/rDix v v' H Q0:=by
 cases x<;>try exact h.elim
 ·cases y<;>try exact h.elim
  cases rx;cases ry;obtain⟨h1,h⟩:=h;split at h
  ·rename_i c e1;exact .inl (.inr (.inr ⟨_,_,c,rfl,rfl,h1,e1,lv.str hG h⟩))
  lia
 ·cases y<;>try exact h.elim
  obtain⟨a,vs,rfl,e,rs⟩:=rx;cases ry;unfold ixU at h;dsimp only at h;split at h
  ·rename_i u e1;obtain⟨w,e2,r⟩:=rs.atI e1;exact .inl (.inr (.inl ⟨a,vs,_,w,rfl,rfl,.of e,e2,lv.here r hG h⟩))
  lia
 ·cases rx;unfold ixU at h;dsimp only at h;split at h
  ·rename_i g;obtain⟨vs,e,rs⟩:=hG.lst g;exact .inl (jkH h ry hG lv (.of e) rs)
  ·rename_i g;obtain⟨ob,vs,e,rs⟩:=hG _ _ g;exact .inl (jkH h ry hG lv (.inl (.inr ⟨ob,e⟩)) rs)
  ·rename_i kvs g;obtain⟨l,e,rs⟩:=hG _ _ g;split at h
   ·rename_i k ek;have:=jfF ry ek;subst this;split at h
    ·rename_i u eu;have:=jc7 k rs;rw[eu]at this;obtain⟨w,e2,r⟩:=this;exact .inr ⟨_,w,rfl,by rw[<- e2];exact DGet.k e,lv.here r hG h⟩
    lia
   lia
  ·rename_i kvs g;obtain⟨l,e,rs⟩:=hG _ _ g;split at h
   ·rename_i ys;obtain⟨b,bs,rfl,eb,rb⟩:=ry;split at h
    ·rename_i k ek;have:=jg7 rb ek;subst this;split at h
     ·rename_i u eu;have:=jc7 k rs;rw[eu]at this;obtain⟨w,e2,r⟩:=this;exact .inr ⟨_,w,rfl,by rw[<- e2];exact DGet.t e eb,lv.here r hG h⟩
     lia
    lia
   lia
  ·rename_i o kvs g;obtain⟨l,e,rs⟩:=hG _ _ g;split at h
   ·rename_i k ek;have:=jfF ry ek;subst this;split at h
    ·rename_i u eu;have:=jc7 k rs;rw[eu]at this;obtain⟨w,e2,r⟩:=this;exact .inr ⟨_,w,rfl,by rw[<- e2];exact .inl ⟨l,k,.inr ⟨o,e⟩,rfl,rfl⟩,lv.here r hG h⟩
    lia
   lia
  lia
theorem u_ix  (hu:X.A.units+1<cLine)(ha:PE X a (lE X ta))(hb:PE X b (lE X tb))(hs:jgH b):PE X (.Subscript a b pos) (lE X λς G Q E=>ta ς G (λx G1=>tb ς G1 (λy G2=>ixU x y G2 Q) E) E):=
 (jpo ((joc (X:=X)).or (jl9 hu)) ha hb hs).imp λσ H Q0 h=>lE.two h λx y v v' G H' Q rx ry hG q lv=>jod rx ry hG q lv
theorem u_no  : PO X none (lO X λ_ G Q _=>Q none G):=jlv.imp λσ H Q0 h=>by
 obtain⟨ς,G,Q,E,hς,hG,h,lv,lx⟩:=h;exact lv none G H hG (Fr.refl _ _) h
theorem u_so (ha:PE X e (lE X te)):PO X (some e) (lO X λς G Q E=>te ς G (λx G1=>match x with|.int i=>Q (some i) G1|_=>False) E):=(jlu ha).imp λσ H Q0 h=>by
 obtain⟨ς,G,Q,E,hς,hG,h,lv,lx⟩:=h;refine⟨ς,G,_,E,hς,hG,h,λx v G1 H1 rx hG1 f1 h1=>?_,lx⟩;dsimp only at h1;split at h1
 ·cases rx
  grind
 lia
theorem u_sl     (ha:PE X e (lE X te))(hl:PO X lo (lO X tl))(hh:PO X hi (lO X th)) :
  PE X (.Subscript e (.Slice lo hi none p2) pos) (lE X λς G Q E=>te ς G (λx G1=>tl ς G1 (λl G2=>th ς G2 (λh G3=>slU x l h G3 Q) E) E) E):=by
 refine(jjP (SlR.or (jlg (X:=X)) (SlR.or jlh jmV)) ha hl hh).imp λσ H Q0 h=>?_;obtain⟨ς,G,Q,E,hς,hG,h,lv,lx⟩:=h;refine⟨ς,G,_,E,hς,hG,h,λx v G1 H1 rx hG1 f1 h1=>?_,lx⟩;refine⟨ς,G1,_,E,hς.ts (f1.ts hG),hG1,h1,λl G2 H2 hG2 f2 h2=>?_,lx.fr f1⟩;refine⟨ς,G2,_,E,(hς.ts (f1.ts hG)).ts (f2.ts hG1),hG2,h2,λu G3 H3 hG3 f3 h3=>?_,lx.fr (f1.trans f2)⟩;have lv3:=lv.fr ((f1.trans f2).trans f3);have rx3:=rx.ts ((f2.ts hG1).trans (f3.ts hG2));cases x<;>try exact h3.elim
 ·cases rx3;exact .inr (.inr ⟨_,rfl,h3.1,lv3.str hG3 h3.2⟩)
 ·obtain⟨a,vs,rfl,ea,rs⟩:=rx3;by_cases z:HT.sIx vs.length 0 l=0/\HT.sIx vs.length vs.length u=vs.length
  ·refine .inl (.inr ⟨a,vs,rfl,.of ea,z,?_⟩);refine lv3.here (w:=.tup _) ⟨a,vs,rfl,ea,?_⟩ hG3 h3;have e2:cutV vs l u=vs:=by unfold cutV;simp_all
   have:=rs.cut l u
   lia
  ·exact .inl (.inl ⟨a,vs,rfl,.of ea,z,λp hp=>lv3.tup hp (rs.cut l u) hG3 h3⟩)
 ·cases rx3;unfold slU at h3;dsimp only at h3;split at h3
  ·rename_i us eu;obtain⟨vs,sq,rs⟩:=hG3.ls eu;exact .inr (.inl ⟨_,vs,rfl,sq,λp hp=>lv3.lst hp (rs.cut l u) hG3 h3⟩)
  lia
theorem jmB    (ha:PE X a (lE X ta))(hb:PE X st (lE X tb)):PE X (.Subscript a (.Slice none none (some st) p2) pos) (lE X λς G Q E=>ta ς G (λx G1=>tb ς G1 (λy G2=>revU x y G2 Q) E) E):=by
 refine(jlA ha hb).imp λσ H Q0 h=>lE.two h λx y v v' G H' Q rx ry hG q lv=>?_;cases x<;>try exact q.elim
 all_goals cases y<;>try exact q.elim
 ·obtain⟨a,vs,rfl,ea,rs⟩:=rx;cases ry;obtain⟨rfl,q⟩:=q;exact .inr ⟨a,vs,rfl,.of ea,rfl,λp hp=>lv.tup hp rs.reverse hG q⟩
 ·cases rx;cases ry;unfold revU at q;dsimp only at q;split at q
  ·rename_i us eu;obtain⟨vs,sq,rs⟩:=hG.ls eu;obtain⟨hi,q⟩:=q;rcases hi with rfl|rfl
   ·exact .inl ⟨_,vs,rfl,sq,.inl ⟨rfl,λp hp=>lv.lst hp rs hG q⟩⟩
   ·exact .inl ⟨_,vs,rfl,sq,.inr ⟨rfl,λp hp=>lv.lst hp rs.reverse hG q⟩⟩
  lia
end
end Z

namespace L2
open PySem PySem.Spec PyProof.Rows
section
variable {X:Cx}
theorem jkh  (hc:X.calm=true):ja8 X (.builtin "all") (λxs H Q=>∃(p:Addr) (bs:List Bool),xs=[.ref p]/\SqL X.K H p (bs.map V.bl)/\Q (.bl (bs.all id)) H):=by
 rintro pins s σ H xs us Q I r ⟨p,bs,rfl,hq,q⟩;obtain⟨u,rfl,rx⟩:=jeQ r;cases rx;obtain⟨its,fp,wr,P,S,hl,W,st,tr,kp⟩:=jhX hc I hq true;exact call_all_walk (wpAny_pyIter_list hl ⟨_,fp,wr,_,P,S,_,rfl,W,st,tr,λh' tk hk=>⟨.bl _,H,I.kept (kp h' hk),congrArg Yen (LSm.range_all bs),q⟩⟩)
end
end L2
namespace Z
open PySem L2
noncomputable def bltN  : Blt->Str
 |.len => "len" |.repr => "repr" |.min => "min" |.max => "max" |.sum => "sum" |.all => "all" |.any => "any" |.sorted => "sorted" |.int => "int" |.str => "str" |.isi => "isinstance"
noncomputable def bltV  : Blt->Value
 |.len=>.builtin "len" |.repr=>.builtin "repr" |.min=>.builtin "min" |.max=>.builtin "max" |.sum=>.builtin "sum" |.all=>.builtin "all" |.any=>.builtin "any" |.sorted=>.builtin "sorted" |.int=>.type "int" |.str=>.type "str" |.isi=>.builtin "isinstance"

theorem RUs.one      (r:RUs K H [u] vs):∃v,vs=[v]/\RU K H u v:=by
 obtain⟨v,vr,rfl,r1,rs⟩:=r;cases rs
 lia
theorem RUs.two      (r:RUs K H [u,w] vs):∃v v',vs=[v,v']/\RU K H u v/\RU K H w v':=by
 obtain⟨v,vr,rfl,r1,rs⟩:=r;obtain⟨v',rfl,r2⟩:=rs.one
 lia
theorem jl4   K:∀t∈["NoneType", "bool", "int", "str", "list", "tuple", "dict"],∀c∈["bool", "int", "str", "list", "tuple", "dict"],Yc9 K (.type t) (.type c)=some (t==c||(t == "bool" && c == "int")):=by
 simp only[List.forall_mem_cons,Yau,false_implies,implies_true,and_true];refine⟨?_,?_,?_,?_,?_,?_,?_⟩<;>refine⟨?_,?_,?_,?_,?_,?_⟩<;>rfl
theorem jk8     (h:tyN x G=some n):n∈["NoneType", "bool", "int", "str", "list", "tuple", "dict"]:=by
 unfold tyN at h;split at h<;>first|(cases h;decide)|(split at h<;>first|(cases h;decide)|cases h)|cases h
theorem jma  {X: Cx}(r:RU X.K H x v)(hG:HR X.K H G)(h:isiU x G t=some b):∃tv,TyOf X.K H v tv/\Yc9 X.K tv (.type t)=some b:=by
 unfold isiU at h;split at h
 ·rename_i n en;split at h
  ·rename_i ht;cases h;refine⟨.type n,?_,jl4 X.K n (jk8 en) t ht⟩;unfold tyN at en;split at en
   ·cases en;cases r;exact .non
   ·cases en;cases r;exact .bl _
   ·cases en;cases r;exact .int _
   ·cases en;cases r;exact .str _
   ·cases en;obtain⟨a,ws,rfl,e,_⟩:=r;exact .tup e
   ·cases r;split at en
    ·rename_i g;cases en;obtain⟨ws,e,_⟩:=hG.lst g;exact .lst e
    ·rename_i g;cases en;obtain⟨ws,e,_⟩:=hG _ _ g;exact .dK e
    ·rename_i g;cases en;obtain⟨ws,e,_⟩:=hG _ _ g;exact .dT e
    lia
   lia
  lia
 lia
def BlU  (X:Cx)(b:Blt):Prop:=∃r,ja8 X (bltV b) r/\∀us vs G H Q Q0,RUs X.K H us vs->HR X.K H G->bltU b us G Q->LV X H G Q Q0->r vs H Q0
theorem joz   (hr:Room k X.A)(hc:X.calm=true) b:BlU X b:=by
 cases b with
 |len=>
  refine⟨_,ja8.or (jkg (X:=X)) jjj,λus vs G H Q Q0 r hG h lv=>?_⟩
  change lenU us G Q at h
  obtain _|⟨x,t⟩:=us<;>try exact h.elim
  cases x<;>try exact h.elim
  all_goals obtain _|⟨_,_⟩:=t<;>try exact h.elim
  all_goals obtain⟨v,rfl,r1⟩:=r.one
  ·cases r1;exact .inl ⟨_,_,rfl,⟨h.1,rfl⟩,lv.int hG h.2⟩
  ·obtain⟨a,ws,rfl,e,rs⟩:=r1;exact .inl ⟨_,_,rfl,.inr ⟨ws,.of e,rfl⟩,by rw[<- rs.length];exact lv.int hG h⟩
  ·cases r1;unfold lenU at h;dsimp only at h;split at h
   ·rename_i g;obtain⟨ws,e,rs⟩:=hG.lst g;exact .inl ⟨_,_,rfl,.inl ⟨ws,.of e,rfl⟩,by rw[<- rs.length];exact lv.int hG h⟩
   ·rename_i g;obtain⟨ob,ws,e,rs⟩:=hG _ _ g;exact .inl ⟨_,_,rfl,.inl ⟨ws,.inl (.inr ⟨ob,e⟩),rfl⟩,by rw[<- rs.length];exact lv.int hG h⟩
   ·rename_i kvs g;obtain⟨l,e,rs⟩:=hG _ _ g;refine .inr ⟨_,l,rfl,e,?_⟩;have:∀{kvs:List (Key×U)} {l:List (Key×V)},RKs X.K H kvs l->kvs.length=l.length:=by
     intro kvs
     induction kvs with
     |nil=>intro l r;cases r;rfl
     |cons p q ih=>intro l r;obtain⟨v,l',rfl,_,rs⟩:=r;simp[ih rs]
    rw[<- this rs];exact lv.int hG h
   ·exact h.elim
 |repr=>
  refine⟨_,jhW hr,λus vs G H Q Q0 r hG h lv=>?_⟩
  change jhu us G Q at h
  obtain _|⟨x,_|⟨_,_⟩⟩:=us<;>try exact h.elim
  obtain⟨v,rfl,r1⟩:=r.one;obtain⟨d,h1,h2,h3⟩:=h;exact⟨v,d,rfl,h1.dv hG r1,h2,lv.str hG h3⟩
 |min=>
  refine⟨_,jji hc,λus vs G H Q Q0 r hG h lv=>?_⟩
  change minU us G Q at h
  obtain _|⟨x,t⟩:=us<;>try exact h.elim
  cases x<;>try exact h.elim
  obtain _|⟨y,t⟩:=t<;>try exact h.elim
  cases y<;>try exact h.elim
  obtain _|⟨_,_⟩:=t<;>try exact h.elim
  obtain⟨v,v',rfl,r1,r2⟩:=r.two;cases r1;cases r2;exact⟨_,_,rfl,lv.int hG h⟩
 |max=>exact⟨λ_ _ _=>False,λ_ _ _ _ _ _ _ _ _ h=>h.elim,λ_ _ _ _ _ _ _ _ h _=>h.elim⟩
 |sum=>
  refine⟨_,jkf hc,λus vs G H Q Q0 r hG h lv=>?_⟩
  change sumU us G Q at h
  obtain _|⟨x,t⟩:=us<;>try exact h.elim
  cases x<;>try exact h.elim
  all_goals obtain _|⟨_,_⟩:=t<;>try exact h.elim
  obtain⟨v,rfl,r1⟩:=r.one;cases r1;unfold sumU at h;dsimp only at h;split at h
  ·rename_i g;obtain⟨ws,e,rs⟩:=hG.lst g;split at h
   ·rename_i ns en;have:=rs.ints en;subst this;exact⟨_,ns,rfl,.of e,lv.int hG h⟩
   ·exact h.elim
  ·exact h.elim
 |any=>exact⟨λ_ _ _=>False,λ_ _ _ _ _ _ _ _ _ h=>h.elim,λ_ _ _ _ _ _ _ _ h _=>h.elim⟩
 |all=>
  refine⟨_,jkh hc,λus vs G H Q Q0 r hG h lv=>?_⟩
  change allU us G Q at h
  obtain _|⟨x,t⟩:=us<;>try exact h.elim
  cases x<;>try exact h.elim
  all_goals obtain _|⟨_,_⟩:=t<;>try exact h.elim
  obtain⟨v,rfl,r1⟩:=r.one;cases r1;unfold allU at h;dsimp only at h;split at h
  ·rename_i g;obtain⟨ws,e,rs⟩:=hG.lst g;split at h
   ·rename_i ns en;have:=rs.bools en;subst this;exact⟨_,ns,rfl,.of e,lv.bl hG h⟩
   ·exact h.elim
  ·exact h.elim
 |sorted=>exact⟨λ_ _ _=>False,λ_ _ _ _ _ _ _ _ _ h=>h.elim,λ_ _ _ _ _ _ _ _ h _=>h.elim⟩
 |int=>
  refine⟨_,jjn.or jfg,λus vs G H Q Q0 r hG h lv=>?_⟩
  change intU us G Q at h
  obtain _|⟨x,t⟩:=us<;>try exact h.elim
  cases x<;>try exact h.elim
  all_goals obtain _|⟨_,_⟩:=t<;>try exact h.elim
  all_goals obtain⟨v,rfl,r1⟩:=r.one
  all_goals cases r1
  ·exact .inl (.inr ⟨_,rfl,lv.int hG h⟩)
  ·exact .inl (.inl ⟨_,rfl,lv.int hG h⟩)
  ·obtain⟨n,h1,h2,h⟩:=h;exact .inr ⟨_,n,rfl,h1,h2,lv.int hG h⟩
 |str=>exact⟨λ_ _ _=>False,λ_ _ _ _ _ _ _ _ _ h=>h.elim,λ_ _ _ _ _ _ _ _ h _=>h.elim⟩
 |isi=>
  refine⟨_,jgA,λus vs G H Q Q0 r hG h lv=>?_⟩
  change jhO us G Q at h
  obtain _|⟨x,_|⟨y,t⟩⟩:=us<;>try exact h.elim
  cases y<;>try exact h.elim
  obtain _|⟨_,_⟩:=t<;>try exact h.elim
  rename_i t;obtain⟨v,v',rfl,r1,r2⟩:=r.two;cases r2;unfold jhO at h;dsimp only at h;split at h
  ·rename_i b eb;obtain⟨tv,h1,h2⟩:=jma r1 hG eb;exact⟨v,t,tv,b,rfl,h1,h2,lv.bl hG h⟩
  ·exact h.elim
theorem jkj   b:YbP (bltN b)=some (bltV b):=by
 cases b with
 |len=>exact PySem.boot_len
 |repr=>exact(by with_unfolding_all rfl)
 |min=>exact PyProof.Rows.boot_min
 |max=>exact PyProof.Rows.boot_max
 |sum=>exact PyProof.Rows.boot_sum
 |any=>exact PyProof.Rows.boot_any
 |all=>exact PyProof.Rows.boot_all
 |sorted=>exact PyProof.Rows.boot_sorted
 |int=>exact PyProof.Rows.boot_int
 |str=>exact PyProof.Rows.boot_str
 |isi=>exact Ydj
theorem joA   b:bltN b ≠ "__name__" /\ (bltN b==("__debug__" : Str))=false:=by cases b<;>decide
theorem joU       (hb:BlU X b)(hg:Gl X (bltN b))(hm:X.mg (bltN b)=none)(ha:PA X (e::es) (lA X ts))
  (he:Yat (e::es) X.env=(false,eval e X.env)::Yat es X.env) (hpl:(backTo pos (Yat es X.env)).any (·.1)=false) :
  PE X (.Call (.Name (bltN b) p) (e::es) [] pos) (lE X λς G Q E=>ts ς G (λus G1=>bltU b us G1 Q) E):=by
 obtain⟨r,h1,h2⟩:=hb;have fin:∀σ H Q0,lE X (λς G Q E=>ts ς G (λus G1=>bltU b us G1 Q) E) σ H Q0->tCB r (lA X ts) σ H Q0:=λσ H Q0 h=>lE.many h λus vs G H' Q rs hG q lv=>h2 us vs G H' Q Q0 rs hG q lv;have hv:=jkj b;obtain⟨n1,n2⟩:=joA b;cases b
 all_goals first
  |exact(jdQ h1 hg hm hv ha n1 n2 he hpl).imp fin
  |exact(jft h1 hg hm hv ha n1 n2 he hpl).imp fin
noncomputable def mthN  : Mth->Str
 |.append => "append" |.extend => "extend" |.insert => "insert" |.pop => "pop" |.reverse => "reverse" |.index => "index" |.join => "join" |.get => "get" |.split => "split" |.setd => "setdefault" |.clear => "clear" |.count => "count" |.upper => "upper"
section
variable {X:Cx}
theorem RUs.mk        (r:RU K H u v)(rs:RUs K H us vs):RUs K H (u::us) (v::vs):=⟨v,vs,rfl,r,rs⟩
structure MtK (X:Cx)(m:Mth)(T id:String):Prop where
 pa:PlainAttrs T
 sl:Slot T (mthN m) id
 ty:typeOf (.builtin id)=pure (.type "method_descriptor")
def MtU  (X:Cx)(m:Mth):Prop:=∀x G1 T id,mtU m x G1=some (T,id)->MtK X m T id/\(∀v H1,RU X.K H1 x v->HR X.K H1 G1->tyV X.K T v H1)/\
 ∃r,MtR X id r/\∀us v vs G H Q Q0,RU X.K H x v->RUs X.K H us vs->HR X.K H G->jaW m x us G Q->LV X H G Q Q0->r v vs H Q0
theorem jh2     (g:G a=some (.lst us)):∀v H1,RU X.K H1 (.loc a) v->HR X.K H1 G->tyV X.K "list" v H1:=λv H1 r hG=>by
 cases r;obtain⟨vs,e,_⟩:=hG.lst g;exact .inl ⟨rfl,vs,.of e⟩
theorem jiJ  : MtU X .append:=by
 intro x G1 T id h;dsimp only[mtU]at h;cases x<;>try (cases h;done)
 dsimp only at h;split at h
 ·rename_i g;cases h;refine⟨⟨YcR,PySem.F.slot_list_append,PySem.F.type_list_append⟩,jh2 g,_,jfC,λus v vs G H Q Q0 rx rs hG h lv=>?_⟩;cases rx;dsimp only[jaW]at h;obtain _|⟨_,_|⟨_,_⟩⟩:=us<;>try exact h.elim
  unfold jgG at h;dsimp only at h;split at h
  ·rename_i g2;obtain⟨ws,e,r⟩:=hG.lst g2;obtain⟨y,rfl,ry⟩:=rs.one;refine⟨_,ws,y,rfl,rfl,e,by rw[<- r.length];exact h.1,?_⟩
   exact lv.wl g2 (r.append (RUs.mk (us:=[]) (vs:=[]) ry rfl)) hG (w:=.non) rfl h.2
  ·exact h.elim
 ·cases h
theorem jiI  : MtU X .extend:=by
 intro x G1 T id h;dsimp only[mtU]at h;cases x<;>try (cases h;done)
 dsimp only at h;split at h
 ·rename_i g;cases h;refine⟨⟨YcR,PySem.F.slot_list_extend,PySem.F.type_list_extend⟩,jh2 g,_,jiL,λus v vs G H Q Q0 rx rs hG h lv=>?_⟩;cases rx;dsimp only[jaW]at h;obtain _|⟨y0,t⟩:=us<;>try exact h.elim
  cases y0<;>try exact h.elim
  obtain _|⟨_,_⟩:=t<;>try exact h.elim
  unfold jgs at h;dsimp only at h;split at h
  ·rename_i g2 g3;obtain⟨ws,e,r⟩:=hG.lst g2;obtain⟨zs,e',r'⟩:=hG.lst g3;obtain⟨y,rfl,ry⟩:=rs.one;cases ry;refine⟨_,_,ws,zs,rfl,rfl,e,e',by rw[<- r.length,<- r'.length];exact h.1,?_⟩
   exact lv.wl g2 (r.append r') hG (w:=.non) rfl h.2
  ·exact h.elim
 ·cases h
theorem jnR  : MtU X .pop:=by
 intro x G1 T id h;dsimp only[mtU]at h;cases x<;>try (cases h;done)
 dsimp only at h;split at h
 ·rename_i g;cases h;refine⟨⟨YcR,PySem.F.slot_list_pop,PySem.F.type_list_pop⟩,jh2 g,_,MtR.or (mt_pop (X:=X)) jj3,λus v vs G H Q Q0 rx rs hG h lv=>?_⟩;cases rx;dsimp only[jaW]at h;obtain _|⟨y0,t⟩:=us
  ·unfold popU at h;dsimp only at h;split at h
   ·rename_i g2;obtain⟨ws,e,r⟩:=hG.lst g2;cases rs;split at h
    ·rename_i u eu;obtain⟨y,ey,ry⟩:=r.get eu;rw[r.length]at ey;exact .inl ⟨_,ws,y,rfl,rfl,e,ey,lv.wl g2 r.dropLast hG ry h⟩
    ·exact h.elim
   ·exact h.elim
  ·cases y0<;>try exact h.elim
   obtain _|⟨_,_⟩:=t<;>try exact h.elim
   unfold popU at h;dsimp only at h;split at h
   ·rename_i g2;obtain⟨ws,e,r⟩:=hG.lst g2;obtain⟨y,rfl,ry⟩:=rs.one;cases ry;obtain⟨h1,h2,h⟩:=h;split at h
    ·rename_i k ek;split at h
     ·rename_i u eu;obtain⟨y,ey,ry⟩:=r.get eu;exact .inr ⟨_,ws,_,k,y,rfl,rfl,e,h1,h2,by rw[<- r.length];exact ek,ey,lv.wl g2 (r.erase k) hG ry h⟩
     ·exact h.elim
    ·exact h.elim
   ·exact h.elim
 ·cases h
theorem RKs.put   [DecidableEq κ](r:RU K H u v):∀{kvs } {l:List (κ×V)},RKs K H kvs l->RKs K H (dPut kvs k u) (putK l k v):=by
 intro kvs l h;have any:∀{kvs:List (κ×U)} {l:List (κ×V)},RKs K H kvs l->(kvs.any λkv=>decide (kv.1=k))=l.any λkv=>decide (kv.1=k):=by
  intro kvs
  induction kvs with
  |nil=>intro l h;cases h;rfl
  |cons p q ih=>intro l h;obtain⟨w,l',rfl,_,rs⟩:=h;grind
 have repl:∀{kvs:List (κ×U)} {l:List (κ×V)},RKs K H kvs l->RKs K H (kvs.map λkv=>if kv.1=k then (kv.1,u) else kv) (l.map λkv=>if kv.1=k then (kv.1,v) else kv):=by
  intro kvs
  induction kvs with
  |nil=>intro l h;cases h;rfl
  |cons p q ih=>
   intro l h;obtain⟨k',u'⟩:=p;obtain⟨w,l',rfl,rw',rs⟩:=h;simp only[YaC];by_cases e:k'=k
   ·rw[if_pos e,if_pos e];exact⟨v,_,rfl,r,ih rs⟩
   ·rw[if_neg e,if_neg e];exact⟨w,_,rfl,rw',ih rs⟩
 have snoc:∀{kvs:List (κ×U)} {l:List (κ×V)},RKs K H kvs l->RKs K H (kvs++[(k,u)]) (l++[(k,v)]):=by
  intro kvs
  induction kvs with
  |nil=>intro l h;cases h;exact⟨v,[],rfl,r,rfl⟩
  |cons p q ih=>intro l h;obtain⟨k',u'⟩:=p;obtain⟨w,l',rfl,rw',rs⟩:=h;exact⟨w,_,rfl,rw',ih rs⟩
 unfold dPut putK
 grind
theorem RKs.length     : ∀{kvs:List (κ×U)} {l },RKs K H kvs l->kvs.length=l.length
 |[],_,h=>by cases h;rfl
 |(_,_)::_,_,h=>by obtain⟨v,l',rfl,_,rs⟩:=h;simp[rs.length]
theorem jgi    : ∀{k:List Key} {bs },RUs K H (k.map Ku) bs->bs=k.map kV
 |[],_,h=>h
 |.inl z::k,_,h=>by
  obtain⟨v,vr,rfl,r,rs⟩:=h;rw[show v=.int z from r,jgi rs];rfl
 |.inr x::k,_,h=>by
  obtain⟨v,vr,rfl,r,rs⟩:=h;rw[show v=.str x from r,jgi rs];rfl
def rGet  : V->List V->Hp->VK->Prop:=λx vs H Q=>∃a y d o,x=.ref a/\vs=[y,d]/\DGet H a y o/\Q (o.getD d) H
theorem jkC  (hu:X.A.units+1<cLine):MtR X "dict.get" rGet:=by
 intro pins s σ H x vs v0 us Q I rx rv h;obtain⟨a,y,d,o,rfl,rfl,g,q⟩:=h;cases(show v0=YaP a from rx);obtain⟨u,r,rfl,ru,rr⟩:=Vals.two rv;exact jov hu I g ru rr λw' s' I' r'=>⟨_,_,I',r',q⟩
theorem jii   [DecidableEq κ](k:κ)(rk:RKs K H kvs l)(rd:RU K H d w):RU K H ((dGet kvs k).getD d) ((valV l k).getD w):=by
 have hv:=jc7 k rk;cases e:dGet kvs k with
 |none=>rw[e]at hv;rw[show valV l k=none from hv];exact rd
 |some u=>rw[e]at hv;obtain⟨v,h1,h2⟩:=hv;rw[h1];exact h2
theorem jnS  (hu:X.A.units+1<cLine):MtU X .get:=by
 intro x G1 T id h;dsimp only[mtU]at h;split at h<;>first|contradiction|skip
 have fin:∀(us:List U) (v:V) (vs:List V) (G:Gp) (H:Hp) (Q:K1) (Q0:VK) (a:Addr),RU X.K H (.loc a) v->RUs X.K H us vs->HR X.K H G->getU (.loc a) us G Q->LV X H G Q Q0->rGet v vs H Q0:=λus v vs G H Q Q0 a rx rs hG h lv=>by
  cases rx;obtain _|⟨y,_|⟨w,_|⟨_,_⟩⟩⟩:=us<;>try exact h.elim
  unfold getU at h;dsimp only at h;obtain⟨y',vs1,rfl,ry,rs1⟩:=rs;obtain⟨w',rfl,rw'⟩:=rs1.one;split at h<;>first|exact h.elim|skip
  ·rename_i kvs g2;split at h<;>first|exact h.elim|skip
   rename_i k ek;obtain⟨l,e,rk⟩:=hG _ _ g2;have:=jfF ry ek;subst this;exact⟨_,_,_,_,rfl,rfl,.k e,lv.here (jii k rk rw') hG h⟩
  ·rename_i kvs g2;obtain⟨k,rfl,h⟩:=h;obtain⟨l,e,rk⟩:=hG _ _ g2;obtain⟨b,bs,rfl,eb,rb⟩:=ry;rw[jgi rb]at eb;exact⟨_,_,_,_,rfl,rfl,.t e eb,lv.here (jii k rk rw') hG h⟩
 split at h<;>first|contradiction|skip
 ·rename_i g;cases h;refine⟨⟨Yeg,Ycl,Yey⟩,λv H1 r hG=>?_,_,jkC hu,λus v vs G H Q Q0 rx rs hG h lv=>fin us v vs G H Q Q0 _ rx rs hG h lv⟩;cases r;obtain⟨l,e,_⟩:=hG _ _ g;exact .inr (.inr (.inl ⟨rfl,.inl ⟨l,e⟩⟩))
 ·rename_i g;cases h;refine⟨⟨Yeg,Ycl,Yey⟩,λv H1 r hG=>?_,_,jkC hu,λus v vs G H Q Q0 rx rs hG h lv=>fin us v vs G H Q Q0 _ rx rs hG h lv⟩;cases r;obtain⟨l,e,_⟩:=hG _ _ g;exact .inr (.inr (.inl ⟨rfl,.inr ⟨l,e⟩⟩))
theorem jiK  (hu:X.A.units+1<cLine) m:MtU X m:=by
 cases m with
 |append=>exact jiJ
 |extend=>exact jiI
 |insert=>intro x G1 T id h;cases h
 |pop=>exact jnR
 |reverse=>intro x G1 T id h;cases h
 |index=>intro x G1 T id h;cases h
 |join=>intro x G1 T id h;cases h
 |split=>intro x G1 T id h;cases h
 |setd=>intro x G1 T id h;cases h
 |clear=>intro x G1 T id h;cases h
 |count=>intro x G1 T id h;cases h
 |upper=>intro x G1 T id h;cases h
 |get=>exact jnS hu
variable {m:Mth}{o e:Expr}{es:List Expr}{to:UE}{ts:UA}{apos cpos:Pos}
theorem jkp (hm:MtU X m)(ho:PE X o (lE X to))(ha:PA X (e::es) (lA X ts))(hbase:Ycp o (mthN m) X.env (eval o X.env)=eval o X.env)
  (hfew:((backTo cpos (Yat (e::es) X.env)).all (λx=>!x.1)&&(backToKw cpos (keywordEach [] X.env)).all (λx=>x.1.isSome)
   && decide ((e::es).length+([]:List Keyword).length+(if ([]:List Keyword).isEmpty then 0 else 1)<30))=true)
  (hline:(apos.endLine==cpos.line)=true) (hs:Yat (e::es) X.env=(false,eval e X.env)::Yat es X.env) (hplain:(backTo cpos (Yat es X.env)).any (·.1)=false) :
  PE X (.Call (.Attribute o (mthN m) apos) (e::es) [] cpos) (lE X λς G Q E=>to ς G (λx G1=>match mtU m x G1 with|some _=>ts ς G1 (λus G2=>jaW m x us G2 Q) E|none=>False) E):=by
 intro pins s σ H Q0 I h;obtain⟨ς,G,Q,E,hς,hG,h,lv,lx⟩:=h;refine PySem.wpAny_Call_method_late hbase hfew hline rfl (thn (ho pins s σ H (λv H1=>∃x G1 T id,RU X.K H1 x v/\HR X.K H1 G1/\Fr H G H1 G1/\mtU m x G1=some (T,id)/\ts ς G1 (λus G2=>jaW m x us G2 Q) E) I
  ⟨ς,G,_,E,hς,hG,h,λx v G1 H1 rx hG1 f1 h1=>?_,lx⟩) λv s1 ⟨xv,H1,I1,r1,x,G1,T,id,rx,hG1,f1,em,h1⟩=>?_)
 ·dsimp only at h1;split at h1
  ·rename_i p ep;exact⟨x,G1,p.1,p.2,rx,hG1,f1,ep,h1⟩
  ·exact h1.elim
 ·obtain⟨k,hty,r,hr1,hr2⟩:=hm x G1 T id em;obtain⟨t1,t2⟩:=jkq I1 r1 (hty xv H1 rx hG1);refine⟨T,id,k.pa,k.sl,k.ty,t1,t2,?_⟩;have hA:=ha cpos pins s1 σ H1 (λvs H2=>∃us G2,RUs X.K H2 us vs/\HR X.K H2 G2/\Fr H1 G1 H2 G2/\jaW m x us G2 Q) I1 ⟨ς,G1,_,E,hς.ts (f1.ts hG),hG1,h1,λus vs G2 H2 rs hG2 f2 h2=>⟨us,G2,rs,hG2,f2,h2⟩,lx.fr f1⟩;rw[hs]at hA ⊢;refine YeG (by simp_all) (Calls.evalArgs_plain ?_)
  exact thn hA λus s2 ⟨vs,H2,I2,r2,ws,G2,rs,hG2,f2,h2⟩=>hr1 pins s2 σ H2 xv vs v us Q0 I2 r1 r2 (hr2 ws xv vs G2 H2 Q Q0 (rx.ts (f2.ts hG1)) rs hG2 h2 (lv.fr (f1.trans f2)))
theorem jk5 (hm:MtU X m)(ho:PE X o (lE X to))(hbase:Ycp o (mthN m) X.env (eval o X.env)=eval o X.env)(hline:(apos.endLine==cpos.line)=true) :
  PE X (.Call (.Attribute o (mthN m) apos) [] [] cpos) (lE X λς G Q E=>to ς G (λx G1=>match mtU m x G1 with|some _=>jaW m x [] G1 Q|none=>False) E):=by
 intro pins s σ H Q0 I h;obtain⟨ς,G,Q,E,hς,hG,h,lv,lx⟩:=h;refine PySem.wpAny_Call_method0_late hbase hline (thn (ho pins s σ H (λv H1=>∃x G1 T id,RU X.K H1 x v/\HR X.K H1 G1/\Fr H G H1 G1/\mtU m x G1=some (T,id)/\jaW m x [] G1 Q) I
  ⟨ς,G,_,E,hς,hG,h,λx v G1 H1 rx hG1 f1 h1=>?_,lx⟩) λv s1 ⟨xv,H1,I1,r1,x,G1,T,id,rx,hG1,f1,em,h1⟩=>?_)
 ·dsimp only at h1;split at h1
  ·rename_i p ep;exact⟨x,G1,p.1,p.2,rx,hG1,f1,ep,h1⟩
  ·exact h1.elim
 ·obtain⟨k,hty,r,hr1,hr2⟩:=hm x G1 T id em;obtain⟨t1,t2⟩:=jkq I1 r1 (hty xv H1 rx hG1);exact⟨T,id,k.pa,k.sl,k.ty,t1,t2,YeG rfl (PySem.evalArgs_none (hr1 pins s1 σ H1 xv [] v [] Q0 I1 r1 .nil (hr2 [] xv [] G1 H1 Q Q0 rx rfl hG1 h1 (lv.fr f1))))⟩
end
end Z

namespace L2
open PySem PySem.Spec PyProof.Rows

def iSeq  (K:Yab)(tl:TE):TI:=λσ H R=>tl σ H λx H1=>∃a,x=.ref a/\(((∃xs,SqL K H1 a xs)/\R (Itl K a) H1)\/((∃xs,SqT K H1 a xs)/\R (Itt K a) H1))
theorem jng    (hl:PE X l tl):PI X tg l (iSeq X.K tl):=by
 intro pins s σ H R I h;refine thn (hl pins s σ H _ I h) λv s1 ⟨x,H1,I1,r1,q1⟩=>?_;obtain⟨a,e,⟨⟨xs,hq⟩,q⟩|⟨⟨xs,hq⟩,q⟩⟩:=q1
 ·subst e;cases r1;obtain⟨its,rv,p,hz⟩:=I1.list hq;refine wpAny_pyIter_list p.isList ?_;refine⟨s1.heap.objs.size,[s1.heap.objs.size],_,_,H1,rfl,I1.kept (t':=s1.toks) λb o e=>Yad _ e,jh4 a _,⟨_,YaA _ rfl,rfl,rfl⟩,λb hb=>?_,q⟩;have e:b=s1.heap.objs.size:=by simp_all
  subst e;exact I1.fpOk (Yae _) (I1.hok.fresh (Yae _))
 ·subst e;cases r1;obtain⟨its,rv,p,hz⟩:=I1.tuple hq;refine wpAny_pyIter_tuple (show s1.heap.IsTuple a its.toArray from p) ?_;refine⟨s1.heap.objs.size,[s1.heap.objs.size],_,_,H1,rfl,I1.kept (t':=s1.toks) λb o e=>Yad _ e,jho a _,⟨_,YaA _ rfl,rfl,rfl⟩,λb hb=>?_,q⟩;have e:b=s1.heap.objs.size:=by simp_all
  subst e;exact I1.fpOk (Yae _) (I1.hok.fresh (Yae _))
theorem PI.imp    (h:PI X tg iter t)(i:∀σ H R,t' σ H R->t σ H R):PI X tg iter t':=λpins s σ H R I q=>h pins s σ H R I (i σ H R q)
theorem PG.imp    (h:PG X target t)(i:∀v σ H Q,t' v σ H Q->t v σ H Q):PG X target t':=λpins s σ H v u Q I r q=>h pins s σ H v u Q I r (i v σ H Q q)
theorem PGs.imp    (h:PGs X ts t)(i:∀v σ H Q,t' v σ H Q->t v σ H Q):PGs X ts t':=λpins s σ H v u Q I r q=>h pins s σ H v u Q I r (i v σ H Q q)
theorem PIfs.imp    (h:PIfs X ifs t)(i:∀σ H Q,t' σ H Q->t σ H Q):PIfs X ifs t':=λpins s σ H Q I q=>h pins s σ H Q I (i σ H Q q)
end L2
namespace Z
open PySem L2
abbrev UI:=Sg->Gp->(List U->(Gp->Prop)->Gp->Prop)->KX->Prop
def jhZ  (K:Yab)(J:L2.It)(H:Hp)(G:Gp)(xs:List U)(ok:Gp->Prop):Prop:=∀i H' G',TS H H'->HR K H' G'->ok G'->
 (∀u,xs[i]?=some u->J.go i H'/\∀v H'',J.yld i H' v H''->RU K H'' u v/\HR K H'' G'/\Fr H' G' H'' G')/\(i=xs.length->J.stop i H')
theorem jhZ.mono        (h:jhZ K J H G xs ok)(t:TS H H2):jhZ K J H2 G2 xs ok:=λi H' G' t'=>h i H' G' (t.trans t')
section
variable (X:Cx)
def lI (t:UI):TI:=λσ H R=>∃ς G Q E,SR X.K H ς σ/\HR X.K H G/\t ς G Q E/\(∀xs ok G' H' J,HR X.K H' G'->Fr H G H' G'->jhZ X.K J H' G' xs ok->Q xs ok G'->R J H')/\LX X σ H G E
def lG  (K:Yab)(t:U->Sg->(Sg->Prop)->Prop):TG:=λv σ H Q0=>∃u ς k,RU K H u v/\SR K H ς σ/\t u ς k/\∀ς' σ',SR K H ς' σ'->k ς'->Q0 σ' H
def lGs  (K:Yab)(t:List U->Sg->(Sg->Prop)->Prop):TGs:=λvs σ H Q0=>∃us ς k,RUs K H us vs/\SR K H ς σ/\t us ς k/\∀ς' σ',SR K H ς' σ'->k ς'->Q0 σ' H
end
section
variable {X:Cx}{tg:Expr}{pos:Pos}{te ta tb:UE}
theorem u_ie   (hl:PE X l (lE X te)):PI X tg l (lI X λς G Q E=>te ς G (λx G1=>itU x G1 λxs ok=>Q xs ok G1) E):=by
 refine(jng hl).imp λσ H R h=>?_;obtain⟨ς,G,Q,E,hς,hG,h,lv,lx⟩:=h;refine⟨ς,G,_,E,hς,hG,h,λx v G1 H1 rx hG1 f1 h1=>?_,lx⟩;dsimp only at h1;unfold itU at h1;split at h1
 ·obtain⟨a,vs,rfl,ea,rs⟩:=rx;refine⟨a,rfl,.inr ⟨⟨vs,.of ea⟩,lv _ _ _ H1 _ hG1 f1 (λi H' G' f hr _=>?_) h1⟩⟩;have e':H' a=some (.tup vs):=f a _ ea;refine⟨λu eu=>?_,λe=>⟨vs,.of e',by rw[e,rs.length];lia⟩⟩
  obtain⟨w,ew,rw'⟩:=rs.get eu;refine⟨⟨vs,w,.of e',ew⟩,λv H'' y=>?_⟩;obtain⟨rfl,y⟩:=y;have:=y vs (.of e');rw[ew]at this;cases this;exact⟨rw'.ts f,hr,Fr.refl _ _⟩
 ·cases rx;rename_i a;split at h1
  ·rename_i us eu;obtain⟨vs,sq,rs⟩:=hG1.ls eu;refine⟨_,rfl,.inl ⟨⟨vs,sq⟩,lv _ _ _ H1 _ hG1 f1 (λi H' G' f hr ok=>?_) h1⟩⟩;obtain⟨vs',sq',rs'⟩:=hr.ls ok;refine⟨λu eu=>?_,λe=>⟨vs',sq',by rw[e,rs'.length];lia⟩⟩
   obtain⟨w,ew,rw'⟩:=rs'.get eu;refine⟨⟨vs',w,sq',ew⟩,λv H'' y=>?_⟩;obtain⟨rfl,y⟩:=y;have:=y vs' sq';rw[ew]at this;cases this;exact⟨rw',hr,Fr.refl _ _⟩
  lia
 lia
theorem jjB      lo n:jhZ K (Itr lo n) H G (rngU lo n) λ_=>True:=by
 intro i H' G' f hr _;have hl:(rngU lo n).length=n:=by simp[rngU]
 refine⟨λu eu=>?_,λe=>by rw[hl]at e;exact YdS e.symm⟩
 have hi:i<n:=by grind
 refine⟨hi,λv H'' y=>?_⟩;obtain⟨rfl,rfl⟩:=y;have:(rngU lo n)[i]?=some (.int (lo+i)):=by simp[rngU,YaN,Yff hi]
 rw[this]at eu;cases eu;exact⟨rfl,hr,Fr.refl _ _⟩
theorem u_r1 {a:Expr}{p:Pos}(hg:Gl X "range")(hm:X.mg "range" = none)(ha:PE X a (lE X ta))(hs:Yat [a] X.env=[(false,eval a X.env)]):PI X tg (.Call (.Name "range" p) [a] [] pos) (lI X λς G Q E=>ta ς G (λx G1=>match x with
   |.int j=>-(2 ^ 62)<=j/\j<2 ^ 62/\Q (rngU 0 j.toNat) (λ_=>True) G1
   |_=>False) E):=by
 refine(jio hg hm (jgL ha jju hs) hs).imp λσ H R h=>?_;obtain⟨ς,G,Q,E,hς,hG,h,lv,lx⟩:=h;refine⟨ς,G,λus G1=>match us with|[x]=>(match x with|.int j=>-(2 ^ 62)<=j/\j<2 ^ 62/\Q (rngU 0 j.toNat) (λ_=>True) G1|_=>False)|_=>False,E,hς,hG,h,λus vs G1 H1 rs hG1 f1 h1=>?_,lx⟩
 dsimp only at h1;split at h1
 ·obtain⟨v,rfl,r⟩:=rs.one;split at h1
  ·cases r;exact⟨_,rfl,h1.1,h1.2.1,lv _ _ G1 H1 _ hG1 f1 (jjB 0 _) h1.2.2⟩
  lia
 lia
theorem SR.set        (h:SR K H ς σ)(r:RU K H u v) i:SR K H (ς.set i (some u)) (σ.set i (some v)):=by
 refine⟨by simp[h.1],λj w e=>?_⟩
 by_cases hj:j=i
 ·subst hj;by_cases hl:j<ς.length
  ·rw[Ybk hl]at e;cases e;exact⟨v,Ybk (by rw[<- h.1];exact hl),r⟩
  simp_all
 ·rw[YaW (Ne.symm hj)]at e ⊢;exact h.2 j w e
theorem u_tn    (hN:X.N.Nodup)(hi:X.N[i]?=some x)(hx:Loc X.env.scope x)(hf:X.fn x=true\/X.env.scope.names.lookup x=some .local):PG X (.Name x pos) (lG X.K (tgU (.n i))):=by
 refine(jf6 hN hi hx hf).imp λv σ H Q h=>?_;obtain⟨u,ς,k,r,hς,h,q⟩:=h;exact q _ _ (hς.set r i) h
theorem u_tt {es:List Expr}{k n:Nat}{ts:Tgs}(hc:X.calm=true)(h:PGs X es (lGs X.K (tgsU ts)))(hn:(Ybd es X.env).length=n)(hst:(Ybd es X.env).findIdx? (·.1)=none)(hl:∀us ς k,tgsU ts us ς k->us.length=n) :
  PG X (.Tuple es k pos) (lG X.K (tgU (.t ts))):=by
 refine(jnh hc h hn hst).imp λv σ H Q h=>?_;obtain⟨u,ς,k,r,hς,h,q⟩:=h;cases u with
 |tup us=>
  obtain⟨a,vs,rfl,e,rs⟩:=r;have h':tgsU ts us ς k:=h;exact⟨a,vs,rfl,.of e,by rw[<- rs.length];grind,us,ς,k,rs,hς,h',q⟩
 |_=>exact h.elim
theorem joJ  : PGs X [] (lGs X.K (tgsU .nil)):=by
 refine jly.imp λvs σ H Q h=>?_;obtain⟨us,ς,k,r,hς,h,q⟩:=h;obtain⟨rfl,h⟩:=h;cases r;exact⟨rfl,q _ _ hς h⟩
theorem joK {e:Expr}{es:List Expr}{t:Tg}{ts:Tgs}(h1:PG X e (lG X.K (tgU t)))(h2:PGs X es (lGs X.K (tgsU ts)))(hs:(Ybd (e::es) X.env).map (·.2)=assign e X.env::(Ybd es X.env).map (·.2)) :
  PGs X (e::es) (lGs X.K (tgsU (.cons t ts))):=by
 refine(jjO h1 h2 hs).imp λvs σ H Q h=>?_;obtain⟨us,ς,k,r,hς,h,q⟩:=h;cases us with
 |nil=>exact h.elim
 |cons u us=>
  obtain⟨v,vr,rfl,r1,rs⟩:=r;exact⟨v,vr,rfl,u,ς,_,r1,hς,h,λς' σ' hs' h'=>⟨us,ς',k,rs,hs',h',q⟩⟩
end
def lE0  (K:Yab)(t:UE):TE:=λτ H Q0=>∃ς G Q,SR K H ς τ/\HR K H G/\t ς G Q (λ_ _=>False)/\∀w v G' H',RU K H' w v->HR K H' G'->Fr H G H' G'->Q w G'->Q0 v H'
def lT0  (K:Yab)(t:Sg->Gp->(Bool->Gp->Prop)->Prop):TT:=λτ H Q0=>∃ς G Q,SR K H ς τ/\HR K H G/\t ς G Q/\∀b G' H',HR K H' G'->Fr H G H' G'->Q b G'->Q0 b H'
theorem LX.no      : LX X σ H G λ_ _=>False:=λ_ _ _ _ _ _ _ _ _ _ h=>h.elim
theorem lE0.of     (h:PE X e (lE X t)):PE X e (lE0 X.K t):=h.imp λσ H Q0 ⟨ς,G,Q,h1,h2,h3,h4⟩=>⟨ς,G,Q,_,h1,h2,h3,h4,LX.no⟩
theorem lT0.of     (h:PT X e (lT X t)):PT X e (lT0 X.K λς G Q=>t ς G Q λ_ _=>False):=h.imp λσ H Q0 ⟨ς,G,Q,h1,h2,h3,h4⟩=>⟨ς,G,Q,_,h1,h2,h3,h4,LX.no⟩
mutual
noncomputable def tgS:Tg->List Nat
 |.n i=>[i]
 |.t ts=>tgsS ts
noncomputable def tgsS:Tgs->List Nat
 |.nil=>[]
 |.cons t ts=>tgS t++tgsS ts
end
def Ext  (ς0 ς:Sg):Prop:=ς0.length=ς.length/\∀(j:Nat) (w:U),ς0[j]?=some (some w)->ς[j]?=some (some w)
mutual
theorem jkr {ς0:Sg}:∀{t:Tg} {u:U} {ς:Sg} {k:Sg->Prop},(∀i∈tgS t,∀w,ς0[i]?≠some (some w))->Ext ς0 ς->tgU t u ς k->tgU t u ς λς'=>k ς'/\Ext ς0 ς'
 |.n i,u,ς,k,hf,he,h=>by
  refine⟨h,by simp[he.1],λj w e=>?_⟩
  have hj:j≠i:=λz=>hf i (by simp[tgS]) w (z ▸ e)
  rw[YaW (Ne.symm hj)]
  exact he.2 j w e
 |.t ts,u,ς,k,hf,he,h=>by
  cases u with
  |tup us=>exact jh6 (ts:=ts) (us:=us) (λi hi=>hf i hi) he h
  |_=>exact h
theorem jh6 {ς0:Sg}:∀{ts:Tgs} {us:List U} {ς:Sg} {k:Sg->Prop},(∀i∈tgsS ts,∀w,ς0[i]?≠some (some w))->Ext ς0 ς->tgsU ts us ς k->tgsU ts us ς λς'=>k ς'/\Ext ς0 ς'
 |.nil,us,ς,k,_,he,h=>⟨h.1,h.2,he⟩
 |.cons t ts,us,ς,k,hf,he,h=>by
  cases us with
  |nil=>exact h
  |cons u r=>
   have:=jkr (t:=t) (u:=u) (λi hi=>hf i (by simp[tgsS,hi])) he h
   refine jeS this λς' ⟨h1,h2⟩=>jh6 (λi hi=>hf i (by simp[tgsS,hi])) h2 h1
theorem jeS:∀{t:Tg} {u:U} {ς:Sg} {k k':Sg->Prop},tgU t u ς k->(∀ς,k ς->k' ς)->tgU t u ς k'
 |.n _,_,_,_,_,h,i=>i _ h
 |.t ts,u,ς,_,_,h,i=>by
  cases u with
  |tup us=>exact jgN (ts:=ts) (us:=us) h i
  |_=>exact h
theorem jgN:∀{ts:Tgs} {us:List U} {ς:Sg} {k k':Sg->Prop},tgsU ts us ς k->(∀ς,k ς->k' ς)->tgsU ts us ς k'
 |.nil,_,_,_,_,h,i=>⟨h.1,i _ h.2⟩
 |.cons t ts,us,ς,_,_,h,i=>by
  cases us with
  |nil=>exact h
  |cons u r=>exact jeS (t:=t) h λς' h'=>jgN h' i
end
theorem SR.ext      (h:SR K H ς σ)(e:Ext ς0 ς):SR K H ς0 σ:=⟨e.1.trans h.1,λi u q=>h.2 i u (e.2 i u q)⟩
theorem SR.pick      (h:SR K H ς σ)(pick:List (Option Nat)):SR K H (jdd pick ς) (pick.map λo=>o.bind λj=>(σ[j]?).join):=by
 refine⟨by simp[jdd],λi u e=>?_⟩
 unfold jdd at e;rw[YaN]at e ⊢;cases q:pick[i]? with
 |none=>simp_all
 |some o=>
  rw[q]at e;cases o with
  |none=>simp at e
  |some j=>
   simp only[Option.map_some,Option.bind_some,Option.some.injEq]at e ⊢;have e':ς[j]?=some (some u):=by
    grind
   obtain⟨v,ev,r⟩:=h.2 j u e'
   simp_all
section
variable {K:Yab}{H:Hp}{G:Gp}
theorem HR.newH  (h:HR K H G)(e:H p=none):HR K (upd H p o) G:=⟨λa ob q=>by
 have m:=h a ob q;obtain⟨ho,e2⟩:=m.there;exact m.keep (jae (jaj e2 e)) (TS.new e),h.tab.new e⟩
theorem TS.hid     (e:H p=some (.lst ys)):TS H (upd H p o):=⟨λa xs h=>by
 have:a≠p:=λz=>by lia
 rw[jae this];exact h,λa ob h=>by
 have:a≠p:=λz=>by lia
 rw[jae this];exact h⟩
theorem HR.hid  (h:HR K H G)(e:H p=some (.lst ys))(g:G p=none):HR K (upd H p o) G:=⟨λa ob q=>by
 have:a≠p:=λz=>by lia
 exact(h a ob q).keep (jae this) (TS.hid e),h.tab.upd (λps z=>by lia) λob z=>by lia⟩
theorem HR.know  (h:HR K H G)(e:H p=some (.lst ys))(r:RUs K H us ys):HR K H (gup G p (.lst us)):=⟨λa ob q=>by
 by_cases z:a=p
 ·subst z;rw[jaz]at q;cases q;exact⟨ys,e,r⟩
 ·rw[jb9 z]at q;exact h a ob q,h.tab⟩
end
section
variable {X:Cx}{pick:List (Option Nat)}{ti:UI}{t:Tg}{tc:Sg->Gp->(Bool->Gp->Prop)->Prop}{te:UE}{σ:St}{H:Hp}{Q0:VK}
abbrev lcD  (pick:List (Option Nat))(ti:UI)(t:Tg)(tc:Sg->Gp->(Bool->Gp->Prop)->Prop)(te:UE):UE:=λς G Q E=>ti ς G (λxs ok G1=>xs.length<=Yag/\jfb ok (λx G2 k=>tgU t x (jdd pick ς) λτ=>tc τ G2 (λb G3=>if b=true then te τ G3 (λu G4=>k (some u) G4) (λ_ _=>False) else k none G3)) xs [] G1
   λus G5=>newO G5 (.lst us) Q) E
structure FrX (D:Addr)(H:Hp)(G:Gp)(H':Hp)(G':Gp):Prop where
 go:∀a o,a≠D->H a=some o->G a=none->(nt:noTb o=true:=by rfl)->H' a=some o/\G' a=none
instance {D:Addr} {H H':Hp} {G G':Gp}:CoeFun (FrX D H G H' G') λ_=>∀a o,a≠D->H a=some o->G a=none->(nt:noTb o=true:=by rfl)->H' a=some o/\G' a=none:=⟨@FrX.go D H G H' G'⟩
theorem jnZ            {kk:List U->Gp->Prop}{QQ:St->List V->Hp->Prop}
  (free:∀i∈tgS t,∀w,τu[i]?≠some (some w)) (wk:jhZ X.K J H1 G1 xs ok) (hG1:HR X.K H1 G1) (eD1:H1 D=some (.lst ys0)) (gD1:G1 D=none) (ra1:RUs X.K H1 acc0 ys0) (sr1:SR X.K H1 τu τ0) (hl:acc0.length+xs.length<=Yag)
  (h1:jfb ok (λx G2 k=>tgU t x τu λτ=>tc τ G2 (λb G3=>if b=true then te τ G3 (λu G4=>k (some u) G4) (λ_ _=>False) else k none G3)) xs acc0 G1 kk)
  (fin:∀τ' acc' ys' G' H',SR X.K H' τu τ'->HR X.K H' G'->FrX D H1 G1 H' G'->H' D=some (.lst ys')->G' D=none->RUs X.K H' acc' ys'->kk acc' G'->QQ τ' ys' H') :
  jjq J (lG X.K (tgU t)) (lT0 X.K tc) (emA (lE0 X.K te) D) QQ τ0 ys0 H1:=by
 refine⟨λi m τ ys H'=>m=xs.length-i/\i<=xs.length/\∃acc G',SR X.K H' τu τ/\HR X.K H' G'/\FrX D H1 G1 H' G'/\H' D=some (.lst ys)/\G' D=none/\RUs X.K H' acc ys/\acc.length<=acc0.length+i/\
  jfb ok (λx G2 k=>tgU t x τu λτ=>tc τ G2 (λb G3=>if b=true then te τ G3 (λu G4=>k (some u) G4) (λ_ _=>False) else k none G3)) (xs.drop i) acc G' kk,⟨xs.length,by simp,YaK _,acc0,G1,sr1,hG1,⟨λ_ _ _ a b _=>⟨a,b⟩⟩,eD1,gD1,ra1,by lia,by simp_all⟩,?_⟩
 rintro i m τ ys H' ⟨rfl,hi,acc,G',sr,hr,f,eD,gD',ra,hal,hc⟩;have ts:TS H1 H':=⟨λa zs e=>(f a _ (λz=>by lia) e (hG1.tupNone e)).1,λa zs e=>(f a _ (λz=>by lia) e (hG1.codNone e)).1⟩
 by_cases hlt:i<xs.length
 ·rw[YcL hlt]at hc;obtain⟨hok,hb⟩:=hc;obtain⟨w1,_⟩:=wk i H' G' ts hr hok;obtain⟨go,yl⟩:=w1 xs[i] (by simp[hlt])
  refine .inr ⟨go,λv H'' y=>?_⟩;obtain⟨rx,hr2,f2⟩:=yl v H'' y;have sr2:=sr.ts (f2.ts hr);refine⟨xs[i],τu,_,rx,sr2,jkr free ⟨rfl,λ_ _ e=>e⟩ hb,λτv σ' hs' ⟨hk,he⟩=>?_⟩;refine⟨τv,G',_,hs',hr2,hk,λb G3 H3 hr3 f3 h3=>?_⟩;have f13:FrX D H1 G1 H3 G3:=⟨λa o n h g nt=>let ⟨a1,a2⟩:=f a o n h g nt;let ⟨b1,b2⟩:=f2 a o a1 a2 nt;f3 a o b1 b2 nt⟩
  have hs3:SR X.K H3 τu σ':=(hs'.ext he).ts (f3.ts hr2);obtain⟨eD2,gD2⟩:=f2 D _ eD gD';obtain⟨eD3,gD3⟩:=f3 D _ eD2 gD2;have ra3:=(ra.ts (f2.ts hr)).ts (f3.ts hr2);cases b with
  |false=>
   rw[if_neg Yai]at h3;dsimp only;rw[if_neg Yai];exact⟨xs.length-(i+1),by lia,rfl,hlt,acc,G3,hs3,hr3,f13,eD3,gD3,ra3,by lia,h3⟩
  |true=>
   rw[if_pos rfl]at h3;dsimp only;rw[if_pos rfl];refine⟨τv,G3,_,hs'.ts (f3.ts hr2),hr3,h3,λu v G4 H4 ru hr4 f4 h4=>?_⟩;obtain⟨eD4,gD4⟩:=f4 D _ eD3 gD3;have ra4:=ra3.ts (f4.ts hr3);have tsn:=TS.hid (o:=.lst (ys++[v])) eD4;refine⟨eD4,by rw[<- ra.length];lia,xs.length-(i+1),by lia,rfl,hlt,acc++[u],G4,(hs3.ts (f4.ts hr3)).ts tsn,hr4.hid eD4 gD4,?_,jah,gD4,(ra4.append (RUs.mk (us:=[]) (vs:=[]) ru rfl)).ts tsn,by grind,h4⟩
   refine⟨λa o n ha ga nt=>?_⟩;obtain⟨x1,x2⟩:=f13 a o n ha ga nt;obtain⟨y1,y2⟩:=f4 a o x1 x2 nt;exact⟨by rw[jae n];exact y1,y2⟩
 ·have e:i=xs.length:=by lia
  subst e;rw[YfU]at hc;obtain⟨hok,q⟩:=hc;obtain⟨_,w2⟩:=wk xs.length H' G' ts hr hok;exact .inl ⟨w2 rfl,fin τ acc ys G' H' sr hr f eD gD' ra q⟩
theorem jin  {is:List Nat}(hp:is.all (λi=>(pick[i]?).join.isNone)=true) ς:∀i∈is,∀w,(jdd pick ς)[i]?≠some (some w):=λi hi w e=>by
 have:=List.all_eq_true.mp hp i hi;unfold jdd at e;rw[YaN]at e;cases q:pick[i]? with
 |none=>simp_all
 |some o=>
  simp_all
theorem jkF  (hp:(tgS t).all (λi=>(pick[i]?).join.isNone)=true)(h:lE X (lcD pick ti t tc te) σ H Q0):tLc pick (lI X ti) (lG X.K (tgU t)) (lT0 X.K tc) (lE0 X.K te) σ H Q0:=by
 obtain⟨ς,G,Q,E,hς,hG,h,lv,lx⟩:=h;refine⟨ς,G,_,E,hς,hG,h,λxs ok G1 H1 J hG1 f1 wk h1=>?_,lx⟩;obtain⟨hl,h1⟩:=h1;intro D hD;refine jnZ (acc0:=[]) (jin hp ς) (wk.mono (TS.new hD)) (hG1.newH hD) jah (hG1.nope hD) rfl (((hς.ts (f1.ts hG)).ts (TS.new hD)).pick pick) (by simp_all) h1 λτ' acc' ys' G' H' sr hr f eD gD' ra q=>?_
 refine lv (.loc D) (.ref D) _ H' rfl (hr.know eD ra) ?_ (q.at D gD');refine⟨λa o ha ga nt=>?_⟩;obtain⟨x1,x2⟩:=f1 a o ha ga nt;obtain⟨y1,y2⟩:=f a o (jaj x1 hD) (by rw[jae (jaj x1 hD)];exact x1) x2 nt
 exact⟨y1,by rw[jb9 (jaj x1 hD)];exact y2⟩

theorem u_lc  (hc:X.calm=true)(S:CScope X N pick scope)(hw:PI X tg iter (lI X ti))(hp:(tgS t).all (λi=>(pick[i]?).join.isNone)=true)
  (hg:∀cl C s₀ H₀ fp,PG (jap X N scope cl C s₀ H₀ fp) tg (lG X.K (tgU t))) (hi:∀cl C s₀ H₀ fp,PIfs (jap X N scope cl C s₀ H₀ fp) ifs (lT0 X.K tc)) (he:∀cl C s₀ H₀ fp,PE (jap X N scope cl C s₀ H₀ fp) elt (lE0 X.K te))
  (hs:∀x,YaZ iter X.env x=pure x):PE X (.ListComp elt [⟨tg,iter,ifs,0⟩] scope pos) (lE X (lcD pick ti t tc te)):=
 (jpn hc S hw hg hi he hs).imp λ_ _ _ h=>jkF hp h
end
section
variable {X:Cx}{e:Expr}{te ta tb:UE}{p pos:Pos}
theorem joP  (hg:Gl X "tuple")(hm:X.mg "tuple" = none)(ha:PE X e (lE X te))(he:Yat [e] X.env=[(false,eval e X.env)]) :
  PE X (.Call (.Name "tuple" p) [e] [] pos) (lE X λς G Q E=>te ς G (λx G1=>itU x G1 λxs _=>Q (.tup xs) G1) E):=by
 refine(jft (jff (X:=X)) hg hm PyProof.Rows.boot_tuple (jgL ha jju he) (by decide) (by decide) he rfl).imp λσ H Q0 h=>?_
 obtain⟨ς,G,Q,E,hς,hG,h,lv,lx⟩:=h;refine⟨ς,G,λus G1=>match us with|[x]=>(itU x G1 λxs _=>Q (.tup xs) G1)|_=>False,E,hς,hG,h,λus vs G1 H1 rs hG1 f1 h1=>?_,lx⟩
 dsimp only at h1;split at h1
 ·obtain⟨v,rfl,r⟩:=rs.one;unfold itU at h1;split at h1
  ·obtain⟨a,ws,rfl,ea,rr⟩:=r;exact⟨a,ws,rfl,.inr ⟨.of ea,(lv.fr f1).here (w:=.tup _) ⟨a,ws,rfl,ea,rr⟩ hG1 h1⟩⟩
  ·cases r;split at h1
   ·rename_i us eu;obtain⟨ws,sq,rr⟩:=hG1.ls eu;exact⟨_,ws,rfl,.inl ⟨sq,λl hl=>(lv.fr f1).tup hl rr hG1 h1⟩⟩
   lia
  lia
 lia
theorem u_ty    (hg:Gl X x)(hm:X.mg x=none)(hv:YbP x=some (.type n))(hn:x ≠ "__name__")(hd:(x==("__debug__" : Str))=false):PE X (.Name x pos) (lE X λ_ G Q _=>Q (.ty n) G):=
 jc8 (u:=.ty n) (jiq (v:=.ty n) hg hm hv rfl hn hd) λ_=>rfl
theorem u_gl      (hg:Gl X x)(hm:X.mg x=some w)(r:RelV v w)(hr:∀H,RU X.K H u v)(hd:(x==("__debug__" : Str))=false):PE X (.Name x pos) (lE X λ_ G Q _=>Q u G):=
 jc8 (jf7 hg hm r hd) hr
theorem jmE  : PE X (.Dict [] [] pos) (lE X λ_ G Q _=>newO G (.dK []) Q):=by
 refine jjR.imp λσ H Q0 h p hp=>?_;obtain⟨ς,G,Q,E,hς,hG,h,lv,lx⟩:=h;exact lv (.loc p) (.ref p) _ _ rfl (hG.newO (mo:=.dK []) hp ⟨[],jah,rfl⟩) (Fr.newO hp) (h.at p (hG.nope hp))
theorem RKs.merge    : ∀{more } {m },RKs K H more m->∀{kvs } {l },RKs K H kvs l->RKs K H (more.foldl (λacc kv=>dPut acc kv.1 kv.2) kvs) (jd4 l m)
 |[],_,h,_,_,h'=>by cases h;exact h'
 |(k,u)::more,_,h,_,_,h'=>by
  obtain⟨v,l',rfl,r,rs⟩:=h;exact RKs.merge rs (h'.put r)
def lD  (X:Cx)(t:Sg->Gp->(List (Key×U)->Gp->Prop)->KX->Prop)(trs:List (TE×TE)):Prop:=
 ∀σ H ς G Q E (Q0:List (V×V)->Hp->Prop),SR X.K H ς σ->HR X.K H G->t ς G Q E->LX X σ H G E->
  (∀kvs (l:List (Key×V)) G' H',RKs X.K H' kvs l->HR X.K H' G'->Fr H G H' G'->Q kvs G'->Q0 (l.map λkv=>(kV kv.1,kv.2)) H')->jgO trs σ H Q0
theorem joS      (hp:PPs X pos keys values trs)(hd:lD X t trs)(hall:keys.all (·.isSome)=true)(hl:keys.length=values.length)(h0:keys≠[])
  (h15:keys.length<=15):PE X (.Dict keys values pos) (lE X λς G Q E=>t ς G (λkvs G1=>kvs.length<=15/\newO G1 (.dK (jcz kvs)) Q) E):=by
 refine(jlB hp hall hl h0 h15).imp λσ H Q0 h p hp=>?_;obtain⟨ς,G,Q,E,hς,hG,h,lv,lx⟩:=h;have gp:=hG.nope hp;refine hd σ _ ς G _ E _ (hς.ts (TS.new hp)) (hG.newH hp) h (lx.fr (Fr.new hp)) λkvs l G' H' r hG' f q=>?_;obtain⟨e,g⟩:=f p _ jah gp;refine⟨e,l,rfl,by rw[<- r.length];exact q.1,?_⟩
 have ts:TS H' (upd H' p (.dK (jd4 [] l))):=⟨λa xs h=>by
  have:a≠p:=λz=>by lia
  rw[jae this];exact h,λa xs h=>by
  have:a≠p:=λz=>by lia
  rw[jae this];exact h⟩
 refine lv (.loc p) (.ref p) (gup G' p (.dK (jcz kvs))) _ rfl ⟨λa ob z=>?_,hG'.tab.upd (λps z=>by lia) λob z=>by lia⟩ ⟨λa o ha ga nt=>?_⟩ (q.2.at p g)
 ·by_cases ea:a=p
  ·subst ea;rw[jaz]at z;cases z;exact⟨_,jah,(RKs.merge r (kvs:=[]) (l:=[]) rfl).ts ts⟩
  ·rw[jb9 ea]at z;exact(hG' a ob z).keep (jae ea) ts
 ·have ea:a≠p:=jaj ha hp;obtain⟨x1,x2⟩:=f a o (by rw[jae ea];exact ha) ga nt
  exact⟨by rw[jae ea];exact x1,by rw[jb9 ea];exact x2⟩
theorem jn1  : lD X (λ_ G Q _=>Q [] G) []:=λσ H ς G Q E Q0 hς hG h lx q=>q [] [] G H rfl hG (Fr.refl _ _) h
theorem jl3 {tk tv:UE}{t:Sg->Gp->(List (Key×U)->Gp->Prop)->KX->Prop}{trs:List (TE×TE)}(hr:lD X t trs):lD X (λς G Q E=>tk ς G (λx G1=>tv ς G1 (λy G2=>match kU x with
   |some k=>t ς G2 (λkvs G3=>Q ((k,y)::kvs) G3) E
   |none=>False) E) E) ((lE X tk,lE X tv)::trs):=by
 intro σ H ς G Q E Q0 hς hG h lx q;refine⟨ς,G,_,E,hς,hG,h,λx v G1 H1 rx hG1 f1 h1=>?_,lx⟩;refine⟨ς,G1,_,E,hς.ts (f1.ts hG),hG1,h1,λy v' G2 H2 ry hG2 f2 h2=>?_,lx.fr f1⟩;dsimp only at h2;split at h2
 ·rename_i k ek;have:=jfF rx ek;subst this;refine hr σ H2 ς G2 _ E _ ((hς.ts (f1.ts hG)).ts (f2.ts hG1)) hG2 h2 (lx.fr (f1.trans f2)) λkvs l G3 H3 r hG3 f3 h3=>?_;exact q ((k,y)::kvs) ((k,v')::l) G3 H3 ⟨v',l,rfl,ry.ts (f3.ts hG2),r⟩ hG3 ((f1.trans f2).trans f3) h3
 lia
end
end Z

namespace L2
open PySem
end L2
namespace Z
open PySem L2
structure LD (X:Cx)(H:Hp)(G:Gp)(De:En)(D:Ends):Prop where
 nx:∀ς' σ' G' H',SR X.K H' ς' σ'->HR X.K H' G'->Fr H G H' G'->De.nx ς' G'->D.nx σ' H'
 rt:∀w v G' H',RU X.K H' w v->HR X.K H' G'->Fr H G H' G'->De.rt w G'->D.rt v H'
 ex:∀(pins:List (Addr×Obj)) (e:Value) (s':Shared) (x:XV) ς' σ' G' H',Inv X pins σ' H' s'->SR X.K H' ς' σ'->XAt X H' s' e x->HR X.K H' G'->Fr H G H' G'->De.ex x ς' G'->X.xe e s'
abbrev US:=En->Sg->Gp->Prop
def lS  (X:Cx)(t:US):L2.TS:=λD σ H=>∃De ς G,SR X.K H ς σ/\HR X.K H G/\t De ς G/\LD X H G De D

theorem LD.fr  (h:LD X H G De D)(f:Fr H G H1 G1):LD X H1 G1 De D:=
 ⟨λς' σ' G' H' a b c=>h.nx ς' σ' G' H' a b (f.trans c),λw v G' H' a b c=>h.rt w v G' H' a b (f.trans c),λpins e s' x ς' σ' G' H' i a b c d=>h.ex pins e s' x ς' σ' G' H' i a b c (f.trans d)⟩
theorem LD.lx  (h:LD X H G De D)(hς:SR X.K H ς σ)(hG:HR X.K H G):LX X σ H G λx G1=>De.ex x ς G1:=λpins e s' x G' H' I a hr f q=>h.ex pins e s' x ς σ G' H' I (hς.ts (f.ts hG)) a hr f q
theorem LD.here  (h:LD X H G De D)(hς:SR X.K H ς σ)(hG:HR X.K H G)(q:De.nx ς G):D.nx σ H:=h.nx ς σ G H hς hG (Fr.refl _ _) q
theorem LD.with    (h:LD X H G De D)(hn:∀ς' σ' G' H',SR X.K H' ς' σ'->HR X.K H' G'->Fr H G H' G'->k ς' G'->D'.nx σ' H')(hr:D'.rt=D.rt):LD X H G { De with nx:=k } D':=
 ⟨hn,λw v G' H' a b c d=>by rw[hr];exact h.rt w v G' H' a b c d,h.ex⟩
section
variable {X:Cx}{st:Stmt}{rest:List Stmt}{pos:Pos}{e:Expr}{te:UE}{t u:US}
theorem s_nil  : PSs X [] (lS X λD ς G=>D.nx ς G):=jf5.imp λD σ H ⟨De,ς,G,hς,hG,h,ld⟩=>ld.here hς hG h
theorem s_cons  (h1:PS X st (lS X t))(h2:PSs X rest (lS X u)):PSs X (st::rest) (lS X λD ς G=>t { D with nx:=λς' G'=>u D ς' G' } ς G):=by
 refine(jeW h1 h2).imp λD σ H ⟨De,ς,G,hς,hG,h,ld⟩=>?_;exact⟨_,ς,G,hς,hG,h,ld.with (λς' σ' G' H' a b c d=>⟨De,ς',G',a,b,d,ld.fr c⟩) rfl⟩
theorem s_expr  (he:PE X e (lE X te))(hs:Ycd e none pos.line X.env=pure false):PS X (.Expr e pos) (lS X λD ς G=>te ς G (λ_ G1=>D.nx ς G1) λx G1=>D.ex x ς G1):=
 (jlr he hs).imp λD σ H ⟨De,ς,G,hς,hG,h,ld⟩=>⟨ς,G,_,_,hς,hG,h,λw v G' H' _ hr f q=>ld.nx ς σ G' H' (hς.ts (f.ts hG)) hr f q,ld.lx hς hG⟩
theorem s_ret  (he:PE X e (lE X te)):PS X (.Return (some e) pos) (lS X λD ς G=>te ς G D.rt λx G1=>D.ex x ς G1):=
 (jm9 he).imp λD σ H ⟨De,ς,G,hς,hG,h,ld⟩=>⟨ς,G,_,_,hς,hG,h,λw v G' H' r hr f q=>ld.rt w v G' H' r hr f q,ld.lx hς hG⟩
theorem s_if     (hc:PT X c (lT X tc))(ha:PSs X a (lS X t))(hb:PSs X b (lS X u)):PS X (.If c a b pos) (lS X λD ς G=>tc ς G (λx G1=>if x=true then t D ς G1 else u D ς G1) λx G1=>D.ex x ς G1):=by
 refine(jnc hc ha hb).imp λD σ H ⟨De,ς,G,hς,hG,h,ld⟩=>⟨ς,G,_,_,hς,hG,h,λb G' H' hr f q=>?_,ld.lx hς hG⟩;cases b with
 |true=>rw[if_pos rfl]at q ⊢;exact⟨De,ς,G',hς.ts (f.ts hG),hr,q,ld.fr f⟩
 |false=>rw[if_neg Yai]at q ⊢;exact⟨De,ς,G',hς.ts (f.ts hG),hr,q,ld.fr f⟩
theorem jmv      (h:lS X (λD ς G=>te ς G (λu G1=>tgU g u ς λς'=>D.nx ς' G1) λx G1=>D.ex x ς G1) D σ H) :
  lE X te σ H λx H1=>lG X.K (tgU g) x σ H1 D.nx:=by
 obtain⟨De,ς,G,hς,hG,h,ld⟩:=h;exact⟨ς,G,_,_,hς,hG,h,λw v G' H' r hr f q=>⟨w,ς,_,r,hς.ts (f.ts hG),q,λς' σ' hs hk=>ld.nx ς' σ' G' H' hs hr f hk⟩,ld.lx hς hG⟩
theorem s_asg {tg:Expr}{g:Tg}(he:PE X e (lE X te))(hg:PG X tg (lG X.K (tgU g)))(hs:Ybx [tg] e pos.line X.env=pure false)(hw:Ybe [tg] e X.env=pure none)
  (h1:(Ybd [tg] X.env).map (·.2)=[assign tg X.env]):PS X (.Assign [tg] e pos) (lS X λD ς G=>te ς G (λu G1=>tgU g u ς λς'=>D.nx ς' G1) λx G1=>D.ex x ς G1):=
 (jil he hg hs hw h1).imp λ_ _ _ h=>jmv h
theorem s_lc            
  (hN:X.N.Nodup) (hi':X.N[i]?=some y) (hy:X.env.scope.names.lookup y=some .local) (hc:X.calm=true) (S:CScope X N pick scope) (hw:PI X tg iter (lI X ti)) (hp:(tgS g).all (λi=>(pick[i]?).join.isNone)=true)
  (hg:∀cl C s₀ H₀ fp,PG (jap X N scope cl C s₀ H₀ fp) tg (lG X.K (tgU g))) (hi:∀cl C s₀ H₀ fp,PIfs (jap X N scope cl C s₀ H₀ fp) ifs (lT0 X.K tc)) (he:∀cl C s₀ H₀ fp,PE (jap X N scope cl C s₀ H₀ fp) elt (lE0 X.K te))
  (hsw:Ycd (.ListComp elt [⟨tg,iter,ifs,0⟩] scope pos) (some (.Name y py)) spos.line X.env=pure true) (hs:∀x,YaZ iter X.env x=pure x) :
  PS X (.Assign [.Name y py] (.ListComp elt [⟨tg,iter,ifs,0⟩] scope pos) spos) (lS X λD ς G=>lcD pick ti g tc te ς G (λu G1=>tgU (.n i) u ς λς'=>D.nx ς' G1) λx G1=>D.ex x ς G1):=by
 refine(jpj hN hi' hy hc S hw hg hi he hsw hs).imp λD σ H h=>?_;obtain⟨De,ς,G,hς,hG,h,ld⟩:=h;exact jkF hp ⟨ς,G,_,_,hς,hG,h,λw v G' H' r hr f q=>ld.nx _ _ G' H' ((hς.ts (f.ts hG)).set r i) hr f q,ld.lx hς hG⟩
def jm5  : TSet:=λo i v H Q=>∃a H',o=.ref a/\DPut H a i v H'/\Q H'
theorem jjA  (hu:X.A.units+1<cLine):PSet X jm5:=by
 intro pins s σ H o i v ov iv u Q I ro ri rv h;obtain⟨a,H',rfl,g,q⟩:=h;cases ro;exact jjb hu I g ri rv λs' I'=>⟨H',I',q⟩
theorem _root_.L2.PSet.or {t t':TSet}(h:PSet X t)(h':PSet X t'):PSet X λo i v H Q=>t o i v H Q\/t' o i v H Q:=by
 intro pins s σ H o i v ov iv u Q I ro ri rv q;rcases q with q|q
 ·exact h pins s σ H o i v ov iv u Q I ro ri rv q
 ·exact h' pins s σ H o i v ov iv u Q I ro ri rv q
theorem jli       {Q0:Hp->Prop}(rx:RU X.K H x v)(ry:RU X.K H y v')(rw':RU X.K H w v'')(hG:HR X.K H G)(h:setU x y w G k)
  (q:∀G' H',HR X.K H' G'->Fr H G H' G'->k G'->Q0 H'):jm4 v v' v'' H Q0\/jm5 v v' v'' H Q0:=by
 cases x with
 |loc a=>
  cases rx;unfold setU at h;dsimp only at h;split at h
  ·rename_i xs g;obtain⟨vs,e,rs⟩:=hG.lst g;cases y with
   |int i=>
    cases ry;dsimp only at h;split at h
    ·rename_i j ej;refine .inl ⟨a,vs,i,j,rfl,rfl,e,by rw[<- rs.length];exact ej,?_⟩
     exact q _ _ (hG.write (mo':=.lst (xs.set j w)) g ⟨_,jah,(rs.set rw' j).ts (TS.write hG g)⟩) (Fr.write g) h.at
    lia
   |_=>lia
  ·rename_i kvs g;obtain⟨l,e,rs⟩:=hG a _ g;split at h
   ·rename_i k' ek;have:=jfF ry ek;subst this;refine .inr ⟨a,_,rfl,DPut.k e (by rw[<- rs.length];exact h.1),?_⟩
    exact q _ _ (hG.write (mo':=.dK (dPut kvs k' w)) g ⟨_,jah,(rs.put rw').ts (TS.write hG g)⟩) (Fr.write g) h.2.at
   lia
  ·rename_i kvs g;obtain⟨l,e,rs⟩:=hG a _ g;cases y with
   |tup ys=>
    obtain⟨b,ws,rfl,eb,rb⟩:=ry;dsimp only at h;split at h
    ·rename_i k' ek;have:=jg7 rb ek;subst this;refine .inr ⟨a,_,rfl,DPut.t e eb (by rw[<- rs.length];exact h.1),?_⟩
     exact q _ _ (hG.write (mo':=.dT (dPut kvs k' w)) g ⟨_,jah,(rs.put rw').ts (TS.write hG g)⟩) (Fr.write g) h.2.at
    lia
   |_=>lia
  lia
 |_=>exact h.elim
theorem s_set {o i:Expr}{to ti:UE}{tpos:Pos}(hu:X.A.units+1<cLine)(he:PE X e (lE X te))(ho:PE X o (lE X to))(hi:PE X i (lE X ti))(hs:Ybx [.Subscript o i tpos] e pos.line X.env=pure false)(hw:Ybe [.Subscript o i tpos] e X.env=pure none)
  (h1:(Ybd [.Subscript o i tpos] X.env).map (·.2)=[assign (.Subscript o i tpos) X.env]) (ha:∀v,assign (.Subscript o i tpos) X.env v=(do
   let ov <- holding [v] (eval o X.env)
   let iv <- holding [v,ov] (eval i X.env)
   standAt tpos
   holding [v,ov,iv] (setItem ov iv v)
   release [v,ov,iv] [])):PS X (.Assign [.Subscript o i tpos] e pos) (lS X λD ς G=>te ς G (λv G1=>to ς G1 (λx G2=>ti ς G2 (λy G3=>setU x y v G3 λG4=>D.nx ς G4) λx G1=>D.ex x ς G1) λx G1=>D.ex x ς G1) λx G1=>D.ex x ς G1):=by
 refine(jil he (jni ho hi (PSet.or jjz (jjA hu)) ha) hs hw h1).imp λD σ H ⟨De,ς,G,hς,hG,h,ld⟩=>?_;refine⟨ς,G,_,_,hς,hG,h,λw v G1 H1 rw' hG1 f1 h1=>?_,ld.lx hς hG⟩;have hς1:=hς.ts (f1.ts hG);refine⟨ς,G1,_,_,hς1,hG1,h1,λx vx G2 H2 rx hG2 f2 h2=>?_,(ld.fr f1).lx hς1 hG1⟩;have hς2:=hς1.ts (f2.ts hG1);refine⟨ς,G2,_,_,hς2,hG2,h2,λy vy G3 H3 ry hG3 f3 h3=>?_,(ld.fr (f1.trans f2)).lx hς2 hG2⟩;have hς3:=hς2.ts (f3.ts hG2);exact jli (rx.ts (f3.ts hG2)) ry ((rw'.ts (f2.ts hG1)).ts (f3.ts hG2)) hG3 h3 λG' H' hr f q=>ld.nx ς σ G' H' (hς3.ts (f.ts hG3)) hr (((f1.trans f2).trans f3).trans f) q
def IpU  (X:Cx)(o:Yd5):Prop:=∃r:TIp,PIp X o r/\∀x y v v' G H Q Q0,RU X.K H x v->RU X.K H y v'->HR X.K H G->jgo o x y G Q->LV X H G Q Q0->r v v' H Q0
theorem joe   o:IpU X o:=by
 cases o with
 |Add=>
  refine⟨_,(OpR.or (jmd (X:=X)) jgn),λx y v v' G H Q Q0 rx ry hG h lv=>?_⟩;cases x<;>try exact h.elim
  ·cases y<;>try exact h.elim
   cases rx;cases ry;exact .inl ⟨_,_,rfl,rfl,lv.int hG h⟩
  ·cases y<;>try exact h.elim
   cases rx;cases ry;exact .inr ⟨_,_,rfl,rfl,h.1,lv.str hG h.2⟩
 |Sub=>
  refine⟨_,jmb (X:=X),λx y v v' G H Q Q0 rx ry hG h lv=>?_⟩;cases x<;>try exact h.elim
  cases y<;>try exact h.elim
  cases rx;cases ry;exact⟨_,_,rfl,rfl,lv.int hG h⟩
 |Mult=>
  refine⟨_,jmc (X:=X),λx y v v' G H Q Q0 rx ry hG h lv=>?_⟩;cases x<;>try exact h.elim
  cases y<;>try exact h.elim
  cases rx;cases ry;exact⟨_,_,rfl,rfl,h.1,lv.int hG h.2⟩
 |_=>exact⟨λ_ _ _ _=>False,λ_ _ _ _ _ _ _ _ _ _ _ _ h=>h.elim,λ_ _ _ _ _ _ _ _ _ _ _ h _=>h.elim⟩
theorem s_aug      (hN:X.N.Nodup)(hi:X.N[i]?=some x)(hx:Loc X.env.scope x)(hf:X.fn x=true\/X.env.scope.names.lookup x=some .local)(he:PE X e (lE X te)) :
  PS X (.AugAssign (.Name x pos') o e pos) (lS X λD ς G=>slot ς i λx=>te ς G (λy G1=>jgo o x y G1 λz G2=>D.nx (ς.set i (some z)) G2) λx G1=>D.ex x ς G1):=by
 obtain⟨r,h1,h2⟩:=joe (X:=X) o;refine(jne hN hi hx he h1 hf).imp λD σ H ⟨De,ς,G,hς,hG,h,ld⟩=>?_;dsimp only at h;unfold slot at h;split at h
 ·rename_i u eu;obtain⟨v,ev,ru⟩:=hς.2 i u eu;refine⟨v,ev,ς,G,_,_,hς,hG,h,λy vy G1 H1 ry hG1 f1 h1=>?_,ld.lx hς hG⟩;exact h2 u y v vy G1 H1 _ _ (ru.ts (f1.ts hG)) ry hG1 h1 λw vw G2 H2 rw' hr2 f2 q=>ld.nx _ _ G2 H2 (((hς.ts (f1.ts hG)).ts (f2.ts hG1)).set rw' i) hr2 (f1.trans f2) q
 lia
theorem _root_.L2.PGet.or {t t':V->V->Hp->VK->Prop}(h:PGet X t)(h':PGet X t'):PGet X λo i H Q=>t o i H Q\/t' o i H Q:=by
 intro pins s σ H o i ov iv Q I ro ri q;rcases q with q|q
 ·exact h pins s σ H o i ov iv Q I ro ri q
 ·exact h' pins s σ H o i ov iv Q I ro ri q
theorem s_par2        (hc:X.calm=true)(hN:X.N.Nodup)(hi:X.N[i]?=some x)(hj:X.N[j]?=some y)(hij:i≠j)
  (hx:X.env.scope.names.lookup x=some .local) (hy:X.env.scope.names.lookup y=some .local) (ha:PA X [a,b] (lA X ts))
  (hw:Ybe [.Tuple [.Name x px,.Name y py] kt pt] (.Tuple [a,b] k2 pt2) X.env=pure (some [x,y])) (hs:Ybx [.Tuple [.Name x px,.Name y py] kt pt] (.Tuple [a,b] k2 pt2) pos.line X.env=pure false) :
  PS X (.Assign [.Tuple [.Name x px,.Name y py] kt pt] (.Tuple [a,b] k2 pt2) pos) (lS X λD ς G=>ts ς G (λus G1=>us.length=[i,j].length/\D.nx (([i,j].zip us).foldl (λs p=>s.set p.1 (some p.2)) ς) G1) λx G1=>D.ex x ς G1):=by
 refine(jna hc hN hi hj hij hx hy ha hw hs).imp λD σ H ⟨De,ς,G,hς,hG,h,ld⟩=>?_;refine⟨ς,G,_,_,hς,hG,h,λus vs G1 H1 rs hG1 f1 h1=>?_,ld.lx hς hG⟩;obtain⟨h1,h2⟩:=h1
 match us,h1,h2,rs with
 |[u,w],_,h2,rs=>
  obtain⟨v,v',rfl,r1,r2⟩:=rs.two;exact⟨v,v',rfl,ld.nx _ _ G1 H1 (((hς.ts (f1.ts hG)).set r1 i).set r2 j) hG1 f1 h2⟩
theorem s_for       (hp:Yc8 (model X.prog X.w) X.A X.env X.xe)(hc:X.calm=true)(hi:PI X tg iter (lI X ti))(hg:PG X tg (lG X.K (tgU g)))(hb:PSs X body (lS X tb))
  (hs:∀x,YaZ iter X.env x=pure x):PS X (.For tg iter body [] pos) (lS X λD ς G=>ti ς G (λxs ok G1=>forL ok (λx ς1 G2 k=>tgU g x ς1 λς2=>tb { D with nx:=k } ς2 G2) xs ς G1 D.nx) λx G1=>D.ex x ς G1):=by
 refine(jnd hp hc hi hg hb hs).imp λD σ H ⟨De,ς,G,hς,hG,h,ld⟩=>?_;refine⟨ς,G,_,_,hς,hG,h,λxs ok G1 H1 J hG1 f1 wk h1=>?_,ld.lx hς hG⟩;refine⟨λi m σ' H'=>m=xs.length-i/\i<=xs.length/\∃ς' G',SR X.K H' ς' σ'/\HR X.K H' G'/\Fr H1 G1 H' G'/\forL ok (λx ς1 G2 k=>tgU g x ς1 λς2=>tb { De with nx:=k } ς2 G2) (xs.drop i) ς' G' De.nx,⟨xs.length,by simp,YaK _,ς,G1,hς.ts (f1.ts hG),hG1,Fr.refl _ _,by simp_all⟩,?_⟩
 rintro i m σ' H' ⟨rfl,hi',ς',G',sr,hr,f,hc'⟩;by_cases hlt:i<xs.length
 ·rw[YcL hlt]at hc';obtain⟨hok,hb'⟩:=hc';obtain⟨w1,_⟩:=wk i H' G' (f.ts hG1) hr hok;obtain⟨go,yl⟩:=w1 xs[i] (by simp[hlt])
  refine .inr ⟨go,λσ2 H2=>∃ς2 G2,SR X.K H2 ς2 σ2/\HR X.K H2 G2/\Fr H1 G1 H2 G2/\forL ok (λx ς1 G2 k=>tgU g x ς1 λς2=>tb { De with nx:=k } ς2 G2) (xs.drop (i+1)) ς2 G2 De.nx,λσ2 H2 q=>⟨xs.length-(i+1),by lia,rfl,hlt,q⟩,λv H'' y=>?_⟩
  obtain⟨rx,hr2,f2⟩:=yl v H'' y;refine⟨xs[i],ς',_,rx,sr.ts (f2.ts hr),hb',λς2 σ2 hs2 hk=>?_⟩;have f3:=(f1.trans f).trans f2;refine⟨_,ς2,G',hs2,hr2,hk,(ld.fr f3).with (λς3 σ3 G3 H3 a b c d=>⟨ς3,G3,a,b,(f.trans f2).trans c,d⟩) rfl⟩
 ·have e:i=xs.length:=by lia
  subst e;rw[YfU]at hc';obtain⟨hok,q⟩:=hc';exact .inl ⟨(wk xs.length H' G' (f.ts hG1) hr hok).2 rfl,ld.nx ς' σ' G' H' sr hr (f1.trans f) q⟩
theorem s_wh      (hp:Yc8 (model X.prog X.w) X.A X.env X.xe)(hc:PT X c (lT X tc))(hb:PSs X body (lS X tb)) :
  PS X (.While c body [] pos) (lS X λD ς G=>∃W:Nat->Sg->Gp->Prop,(∃m,W m ς G)/\∀m ς1 G1,W m ς1 G1->
   tc ς1 G1 (λt G2=>if t=true then tb { D with nx:=λς' G'=>∃m',m'<m/\W m' ς' G' } ς1 G2 else D.nx ς1 G2) λx G1=>D.ex x ς1 G1):=by
 refine(jjI hp hc hb).imp λD σ H ⟨De,ς,G,hς,hG,h,ld⟩=>?_;obtain⟨W,⟨m0,w0⟩,turn⟩:=h;refine⟨λm σ' H'=>∃ς' G',SR X.K H' ς' σ'/\HR X.K H' G'/\Fr H G H' G'/\W m ς' G',⟨m0,ς,G,hς,hG,Fr.refl _ _,w0⟩,?_⟩;rintro m σ' H' ⟨ς',G',sr,hr,f,w⟩;refine⟨ς',G',_,_,sr,hr,turn m ς' G' w,λb G2 H2 hr2 f2 q=>?_,(ld.fr f).lx sr hr⟩;cases b with
 |true=>
  rw[if_pos rfl]at q ⊢;refine⟨λσ3 H3=>∃ς3 G3,SR X.K H3 ς3 σ3/\HR X.K H3 G3/\Fr H G H3 G3/\∃m',m'<m/\W m' ς3 G3,λσ3 H3 ⟨ς3,G3,a,b,c,m',hm,w'⟩=>⟨m',hm,ς3,G3,a,b,c,w'⟩,?_⟩;exact⟨_,ς',G2,sr.ts (f2.ts hr),hr2,q,(ld.fr (f.trans f2)).with (λς3 σ3 G3 H3 a b c d=>⟨ς3,G3,a,b,(f.trans f2).trans c,d⟩) rfl⟩
 |false=>
  rw[if_neg Yai]at q ⊢;exact ld.nx ς' σ' G2 H2 (sr.ts (f2.ts hr)) hr2 (f.trans f2) q
end
structure Ctx where
 N:List Str
 sc:List (Str×Ybp)
noncomputable def kd  (c:Ctx)(x:Str)(k:Ybp):Bool:=c.sc.lookup x==some k
def glo  (c:Ctx)(x:Str):Bool:=kd c x .globalImplicit && !(x==("__debug__" : Str))
noncomputable def nm1  : Expr->List Str
 |.Name x _=>[x]
 |_=>[]
def nm2  : Expr->List Str
 |.Tuple es _ _=>es.flatMap nm1
 |e=>nm1 e
def jla  : Expr->List Str
 |.Tuple es _ _=>es.flatMap nm2
 |e=>nm1 e
noncomputable def jh3  : List String:=["bool", "int", "str", "list", "tuple", "dict"]
def cOkS  (c:Ctx)(N:List Str)(pick:List (Option Nat))(scope:Scope):Bool:=
 decide (scope.kind=.function)&&scope.names.all (λy=>y.2 != .cell||scope.names.lookup y.1==some .cell)&&scope.names.all (λy=>y.2 != .local||scope.names.lookup y.1==some .local)
  && scope.names.all (λy=>y.2 != .free||(scope.names.lookup y.1==some .free&&(kd c y.1 .cell||kd c y.1 .free)))
  && pick.length==N.length&&(N.zip pick).all (λp=>match p.2 with|none=>true|some j=>c.N[j]?==some p.1&&scope.names.lookup p.1==some .free)&&decide N.Nodup
noncomputable def jkB  : Expr->Bool
 |.Call (.Name _ _) [] [] _=>false
 |_=>true
noncomputable def e0  : Expr:=.Name "" ⟨0,0,0,0⟩
def hd  : List Expr->Expr
 |[]=>e0
 |e::_=>e
def c0  : Expr->Expr
 |.BinOp l _ _ _=>l
 |.UnaryOp _ x _=>x
 |.IfExp t _ _ _=>t
 |.Compare l _ _ _=>l
 |.Subscript v _ _=>v
 |.Attribute v _ _=>v
 |.Call f _ _ _=>f
 |.ListComp e _ _ _=>e
 |.FormattedValue v _ _ _=>v
 |_=>e0
def c1  : Expr->Expr
 |.BinOp _ _ r _=>r
 |.IfExp _ b _ _=>b
 |.Subscript _ s _=>s
 |_=>e0
def c2  : Expr->Expr
 |.IfExp _ _ b _=>b
 |_=>e0
noncomputable def cl  : Expr->List Expr
 |.BoolOp _ vs _=>vs
 |.Compare _ _ vs _=>vs
 |.Call _ vs _ _=>vs
 |.List vs _=>vs
 |.Tuple vs _ _=>vs
 |.Dict _ vs _=>vs
 |.JoinedStr vs _=>vs
 |_=>[]
noncomputable def kk  : Expr->Nat
 |.Constant _ k _=>k
 |.Tuple _ k _=>k
 |_=>0
def oe  : Option Expr->Expr
 |some e=>e
 |none=>e0
def dk  : Expr->List Expr
 |.Dict ks _ _=>ks.map oe
 |_=>[]
def gen1  : Expr->Yd7
 |.ListComp _ (g::_) _ _=>g
 |_=>⟨e0,e0,[],0⟩
noncomputable def scp  : Expr->Scope
 |.ListComp _ _ s _=>s
 |_=>⟨.module,[],false,false,[]⟩
def s0  : Expr->Expr
 |.Slice (some e) _ _ _=>e
 |_=>e0
def s1  : Expr->Expr
 |.Slice _ (some e) _ _=>e
 |_=>e0
def s2  : Expr->Expr
 |.Slice _ _ (some e) _=>e
 |_=>e0
noncomputable def nmA  (c:Ctx)(i:Nat):Str:=c.N.getD i ""
noncomputable def boU  : Bool->PySem.BoolOp
 |true=>.And
 |false=>.Or
noncomputable def jcm  : Es->Nat
 |.nil=>0
 |.cons _ es=>jcm es+1
noncomputable def jfm  : Tgs->Nat
 |.nil=>0
 |.cons _ ts=>jfm ts+1
noncomputable def isLc  : E->Bool
 |.lc ..=>true
 |_=>false
def cc  (c:Ctx)(pick:List (Option Nat))(h:Expr):Ctx:=⟨jla (gen1 h).target++(pick.filterMap id).filterMap (λj=>c.N[j]?),(scp h).names⟩
mutual
noncomputable def unTg (c:Ctx):Tg->Expr->Expr
 |.n i,h=>.Name (nmA c i) h.pos
 |.t ts,h=>.Tuple (jfk c ts (cl h)) (kk h) h.pos
noncomputable def jfk (c:Ctx):Tgs->List Expr->List Expr
 |.nil,_=>[]
 |.cons t ts,hs=>unTg c t (hd hs)::jfk c ts hs.tail
end
def okN  (c:Ctx)(i:Nat):Bool:=decide (i<c.N.length)&&(kd c (nmA c i) .local||kd c (nmA c i) .cell)
mutual
noncomputable def okTg (c:Ctx):Tg->Bool
 |.n i=>okN c i
 |.t ts=>jlT c ts
noncomputable def jlT (c:Ctx):Tgs->Bool
 |.nil=>true
 |.cons t ts=>okTg c t&&jlT c ts
end
section
variable (T:Tab)
noncomputable def fnN (n:Nat):Str:=match T.funs[n]? with
 |some d=>d.name
 |none => ""
mutual
noncomputable def unE (c:Ctx):E->Expr->Expr
 |.v i,h=>.Name (nmA c i) h.pos
 |.non,h=>.Constant .none (kk h) h.pos
 |.bl b,h=>.Constant (.bool b) (kk h) h.pos
 |.int i,h=>.Constant (.int i) (kk h) h.pos
 |.str x,h=>.Constant (.str x) (kk h) h.pos
 |.g n,h=>.Name (T.gn.getD n "") h.pos
 |.ty n,h=>.Name (Ycc n) h.pos
 |.bin o a b,h=>.BinOp (unE c a (c0 h)) o (unE c b (c1 h)) h.pos
 |.neg a,h=>.UnaryOp .USub (unE c a (c0 h)) h.pos
 |.not a,h=>.UnaryOp .Not (unE c a (c0 h)) h.pos
 |.bop k a es,h=>.BoolOp (boU k) (unE c a (hd (cl h))::unEs c es (cl h).tail) h.pos
 |.cmp o a b,h=>.Compare (unE c a (c0 h)) [o] [unE c b (hd (cl h))] h.pos
 |.cmp2 o p a b d,h=>.Compare (unE c a (c0 h)) [o,p] [unE c b (hd (cl h)),unE c d (hd (cl h).tail)] h.pos
 |.ife t a b,h=>.IfExp (unE c t (c0 h)) (unE c a (c1 h)) (unE c b (c2 h)) h.pos
 |.tup es,h=>.Tuple (unEs c es (cl h)) (kk h) h.pos
 |.lst es,h=>.List (unEs c es (cl h)) h.pos
 |.dic es,h=>.Dict (unK c es (dk h)) (unV c es (cl h)) h.pos
 |.ix a b,h=>.Subscript (unE c a (c0 h)) (unE c b (c1 h)) h.pos
 |.sl a lo hi,h=>.Subscript (unE c a (c0 h)) (.Slice (unO c lo (s0 (c1 h))) (unO c hi (s1 (c1 h))) none (c1 h).pos) h.pos
 |.rev a b,h=>.Subscript (unE c a (c0 h)) (.Slice none none (some (unE c b (s2 (c1 h)))) (c1 h).pos) h.pos
 |.call n es,h=>.Call (.Name (fnN T n) (c0 h).pos) (unEs c es (cl h)) [] h.pos
 |.app i es,h=>.Call (.Name (nmA c i) (c0 h).pos) (unEs c es (cl h)) [] h.pos
 |.blt b es,h=>.Call (.Name (bltN b) (c0 h).pos) (unEs c es (cl h)) [] h.pos
 |.meth m o es,h=>.Call (.Attribute (unE c o (c0 (c0 h))) (mthN m) (c0 h).pos) (unEs c es (cl h)) [] h.pos
 |.lc pick t it ifs d,h=>.ListComp (unE (cc c pick h) d (c0 h)) [⟨unTg (cc c pick h) t (gen1 h).target,unI c it (gen1 h).iter,unEs (cc c pick h) ifs (gen1 h).ifs,0⟩] (scp h) h.pos
 |.mkT d,h=>.Call (.Name "tuple" (c0 h).pos) [unE c d (hd (cl h))] [] h.pos
noncomputable def unO (c:Ctx):Eo->Expr->Option Expr
 |.no,_=>none
 |.so d,h=>some (unE c d h)
noncomputable def unEs (c:Ctx):Es->List Expr->List Expr
 |.nil,_=>[]
 |.cons d es,hs=>unE c d (hd hs)::unEs c es hs.tail
noncomputable def unK (c:Ctx):Es->List Expr->List (Option Expr)
 |.cons d (.cons _ es),hs=>some (unE c d (hd hs))::unK c es hs.tail
 |_,_=>[]
noncomputable def unV (c:Ctx):Es->List Expr->List Expr
 |.cons _ (.cons d es),hs=>unE c d (hd hs)::unV c es hs.tail
 |_,_=>[]
noncomputable def unF (c:Ctx):Es->List Expr->List Expr
 |.nil,_=>[]
 |.cons d es,hs=>(match d with
  |.str x=>.Constant (.str x) (kk (hd hs)) (hd hs).pos
  |d=>.FormattedValue (unE c d (c0 (hd hs))) (-1) none (hd hs).pos)::unF c es hs.tail
noncomputable def unI (c:Ctx):It->Expr->Expr
 |.e d,h=>unE c d h
 |.r1 d,h=>.Call (.Name "range" (c0 h).pos) [unE c d (hd (cl h))] [] h.pos
end
mutual
noncomputable def okE (c:Ctx):E->Expr->Bool
 |.v i,_=>decide (i<c.N.length)&&(kd c (nmA c i) .local||kd c (nmA c i) .cell||kd c (nmA c i) .free) && !(nmA c i==("__debug__" : Str)) && !(nmA c i==("__classdict__" : Str))
 |.non,_=>true
 |.bl _,_=>true
 |.int _,_=>true
 |.str _,_=>true
 |.g n,_=>decide (n<T.gs.length)&&decide (n<T.gn.length)&&glo c (T.gn.getD n "")
 |.ty n,_=>jh3.contains n&&glo c (Ycc n)
 |.bin _ a b,h=>okE c a (c0 h)&&okE c b (c1 h)
 |.neg a,h=>okE c a (c0 h)
 |.not a,h=>okE c a (c0 h)
 |.bop _ a es,h=>okE c a (hd (cl h))&&okEs c es (cl h).tail
 |.cmp o a b,h=>okE c a (c0 h)&&okE c b (hd (cl h)) && !behindInMarks o (unE T c b (hd (cl h)))
 |.cmp2 o p a b d,h=>okE c a (c0 h)&&okE c b (hd (cl h))&&okE c d (hd (cl h).tail) && !lastMarks [o,p] [unE T c b (hd (cl h)),unE T c d (hd (cl h).tail)]
 |.ife t a b,h=>okE c t (c0 h)&&okE c a (c1 h)&&okE c b (c2 h)
 |.tup es,h=>okEs c es (cl h)
 |.lst es,h=>okEs c es (cl h)
 |.dic es,h=>okD c es (dk h) (cl h)&&decide (jcm es<=30)
 |.ix a b,h=>okE c a (c0 h)&&okE c b (c1 h)
 |.sl a lo hi,h=>okE c a (c0 h)&&okO c lo (s0 (c1 h))&&okO c hi (s1 (c1 h))
 |.rev a b,h=>okE c a (c0 h)&&okE c b (s2 (c1 h))
 |.call n es,h=>decide (n<T.funs.length)&&glo c (fnN T n)&&okEs c es (cl h)
 |.app i es,h=>decide (i<c.N.length)&&(kd c (nmA c i) .local||kd c (nmA c i) .cell||kd c (nmA c i) .free) && !(nmA c i==("__debug__" : Str)) && !(nmA c i==("__classdict__" : Str))&&okEs c es (cl h)
 |.blt b es,h=>decide (0<jcm es)&&glo c (bltN b)&&okEs c es (cl h)
 |.meth _ o es,h=>okE c o (c0 (c0 h))&&okEs c es (cl h)&&((c0 h).pos.endLine==h.pos.line)&&decide (jcm es<30)&&jkB (unE T c o (c0 (c0 h)))
 |.lc pick t it ifs d,h=>cOkS c (cc c pick h).N pick (scp h)&&(tgS t).all (λi=>(pick[i]?).join.isNone)&&okTg (cc c pick h) t&&okI c t it (gen1 h).iter&&okEs (cc c pick h) ifs (gen1 h).ifs&&decide (jcm ifs<=1)&&okE (cc c pick h) d (c0 h)
 |.mkT d,h=>glo c "tuple" && okE c d (hd (cl h))
noncomputable def okO (c:Ctx):Eo->Expr->Bool
 |.no,_=>true
 |.so d,h=>okE c d h
noncomputable def okEs (c:Ctx):Es->List Expr->Bool
 |.nil,_=>true
 |.cons d es,hs=>okE c d (hd hs)&&okEs c es hs.tail
noncomputable def okD (c:Ctx):Es->List Expr->List Expr->Bool
 |.nil,_,_=>true
 |.cons d (.cons f es),hs,gs=>okE c d (hd hs)&&okE c f (hd gs)&&okD c es hs.tail gs.tail
 |.cons _ .nil,_,_=>false
noncomputable def okF (c:Ctx):Es->List Expr->Bool
 |.nil,_=>true
 |.cons d es,hs=>(match d with
  |.str x=>decide (x.length<=10000)
  |d=>okE c d (c0 (hd hs)))&&okF c es hs.tail
noncomputable def okI (c:Ctx)(t:Tg):It->Expr->Bool
 |.e d,h=>okE c d h
 |.r1 d,h=>glo c "range" && okE c d (hd (cl h))
end
noncomputable def jku  (ts:List Expr):Nat:=(ts.head?.map (·.pos.line)).getD 0
def jao  (c:Ctx)(ts:List Expr):List Str:=ts.filterMap fun
  |.Name id pos=>if c.sc.lookup id==some .local&&pos.line==jku ts then some id else none
  |_=>none
noncomputable def jg8  : Expr->Bool
 |.Starred ..=>true
 |_=>false
def swapped  (c:Ctx)(ts vs:List Expr):Bool:=
 (ts.length==2||ts.length==3)&&vs.length==ts.length && !(vs.any jg8)&&(jao c ts).length==ts.length&&(jao c ts).eraseDups.length==(jao c ts).length && !(vs.all (Yfm 8)) && !(vs.all (constantsAlone 8))
def jde  (c:Ctx)(ts vs:List Expr):Bool:=
 !(ts.length==2||ts.length==3)||vs.length != ts.length||(!(vs.any jg8)&&((jao c ts).length != ts.length||(jao c ts).eraseDups.length != (jao c ts).length||vs.all (Yfm 8)))
noncomputable def lcSw  (c:Ctx)(y:Str)(py p:Pos)(s:Scope):Bool:=c.sc.lookup y==some .local&&py.line==p.line && !(s.names.any λ(n,k)=>n==y&&(k == .local||k == .cell))
def q0  : Stmt->Expr
 |.Expr e _=>e
 |.Assign _ e _=>e
 |.Return (some e) _=>e
 |.AugAssign _ _ e _=>e
 |.If e _ _ _=>e
 |.While e _ _ _=>e
 |.For _ e _ _ _=>e
 |_=>e0
def q1  : Stmt->Expr
 |.Assign (t::_) _ _=>t
 |.AugAssign t _ _ _=>t
 |.For t _ _ _ _=>t
 |_=>e0
def qr  : Stmt->Expr
 |.Raise (some e) _ _=>e
 |_=>e0
def hTy  : Stmt->Expr
 |.Try _ (.ExceptHandler (some t) _ _ _::_) _ _ _=>t
 |_=>e0
noncomputable def hBd  : Stmt->List Stmt
 |.Try _ (.ExceptHandler _ _ b _::_) _ _ _=>b
 |_=>[]
noncomputable def hPs  : Stmt->Pos
 |.Try _ (.ExceptHandler _ _ _ p::_) _ _ _=>p
 |_=>⟨0,0,0,0⟩
noncomputable def qa  : Stmt->List Stmt
 |.Try a _ _ _ _=>a
 |.If _ a _ _=>a
 |.While _ a _ _=>a
 |.For _ _ a _ _=>a
 |_=>[]
noncomputable def qb  : Stmt->List Stmt
 |.If _ _ b _=>b
 |_=>[]
noncomputable def qh  : List Stmt->Stmt
 |[]=>.Pass ⟨0,0,0,0⟩
 |s::_=>s
noncomputable def unNs  (c:Ctx):List Nat->List Expr->List Expr
 |[],_=>[]
 |i::is,hs=>.Name (nmA c i) (hd hs).pos::unNs c is hs.tail
noncomputable def unCs  : List Nat->List Expr->List Expr
 |[],_=>[]
 |k::ks,hs=>.Name (clsN k) (hd hs).pos::unCs ks hs.tail
section
variable (c:Ctx)(n:Nat)
def unHL:HL->Expr->Expr
 |.v i,h=>.Name (nmA c i) h.pos
 |.isiV,h=>.Call (.Name "isinstance" (c0 h).pos) [.Name (nmA c n) (hd (cl h)).pos,.Name "ValueError" (hd (cl h).tail).pos] [] h.pos
 |.is1 k,h=>.Call (.Name "isinstance" (c0 h).pos) [.Name (nmA c n) (hd (cl h)).pos,.Name (clsN k) (hd (cl h).tail).pos] [] h.pos
 |.isi ks,h=>.Call (.Name "isinstance" (c0 h).pos) [.Name (nmA c n) (hd (cl h)).pos,.Tuple (unCs ks (cl (hd (cl h).tail))) (kk (hd (cl h).tail)) (hd (cl h).tail).pos] [] h.pos
def jf0:Bool×HL->Expr->Expr
 |(true,l),h=>.UnaryOp .Not (unHL c n l (c0 h)) h.pos
 |(false,l),h=>unHL c n l h
noncomputable def jgJ:List (Bool×HL)->List Expr->List Expr
 |[],_=>[]
 |a::r,hs=>jf0 c n a (hd hs)::jgJ r hs.tail
def jgK (k:Bool)(a:Bool×HL):List (Bool×HL)->Expr->Expr
 |[],h=>jf0 c n a h
 |b::r,h=>.BoolOp (boU k) (jf0 c n a (hd (cl h))::jgJ c n (b::r) (cl h).tail) h.pos
def unHA:HA->Expr->Expr
 |.str x,h=>.Constant (.str x) (kk h) h.pos
 |.att f,h=>.Attribute (.Name (nmA c n) (c0 h).pos) f h.pos
noncomputable def jjt:List HA->List Expr->List Expr
 |[],_=>[]
 |a::r,hs=>unHA c n a (hd hs)::jjt r hs.tail
def unHV:HV->Expr->Expr
 |.cond k a as,h=>jgK c n k a as h
 |.one a,h=>unHA c n a h
 |.bl b,h=>.Constant (.bool b) (kk h) h.pos
 |.tup as,h=>.Tuple (jjt c n as (cl h)) (kk h) h.pos
 |.lst as,h=>.List (jjt c n as (cl h)) h.pos
def jk4 (i:Nat)(e:HV)(h:Stmt):Stmt:=.Assign [.Name (nmA c i) (q1 h).pos] (unHV c n e (q0 h)) h.pos
def unHS:HS->Stmt->Stmt
 |.asg i e,h=>jk4 c n i e h
 |.ifa k a as i e,h=>.If (jgK c n k a as (q0 h)) [jk4 c n i e (qh (qa h))] [] h.pos
noncomputable def jf1:List HS->List Stmt->List Stmt
 |[],_=>[]
 |s::r,hs=>unHS c n s (qh hs)::jf1 r hs.tail
end
section
variable (cs:List Nat)(c:Ctx)
def okC (k:Nat):Bool:=decide (1<=k)&&decide (k<6)&&cs.contains k&&glo c (clsN k)
def okHL:HL->Bool
 |.v i=>decide (i<c.N.length)&&(kd c (nmA c i) .local||kd c (nmA c i) .cell||kd c (nmA c i) .free) && !(nmA c i==("__debug__" : Str)) && !(nmA c i==("__classdict__" : Str))
 |.isiV=>glo c "isinstance" && glo c "ValueError"
 |.is1 k=>glo c "isinstance" && okC cs c k
 |.isi ks=>glo c "isinstance" && ks.all (okC cs c)&&decide (ks.length<=8)
def jd1 (as:List (Bool×HL)):Bool:=as.all λp=>okHL cs c p.2
def okHA  : HA->Bool
 |.str _=>true
 |.att f=>fldN.contains f
def okHV:HV->Bool
 |.cond _ a as=>okHL cs c a.2&&jd1 cs c as
 |.one a=>okHA a
 |.bl _=>true
 |.tup as=>as.all okHA&&decide (as.length<=8)
 |.lst as=>as.all okHA&&decide (as.length<=8)
def okHS (n:Nat):HS->Bool
 |.asg i e=>okN c i&&decide (i≠n)&&okHV cs c e
 |.ifa _ a as i e=>okHL cs c a.2&&jd1 cs c as&&okN c i&&decide (i≠n)&&okHV cs c e
end
mutual
noncomputable def unS (c:Ctx):S->Stmt->Stmt
 |.expr d,h=>.Expr (unE T c d (q0 h)) h.pos
 |.asg t d,h=>.Assign [unTg c t (q1 h)] (unE T c d (q0 h)) h.pos
 |.asgC i d,h=>.Assign [.Name (nmA c i) (q1 h).pos] (unE T c d (q0 h)) h.pos
 |.setS o i d,h=>.Assign [.Subscript (unE T c o (c0 (q1 h))) (unE T c i (c1 (q1 h))) (q1 h).pos] (unE T c d (q0 h)) h.pos
 |.par is es,h=>.Assign [.Tuple (unNs c is (cl (q1 h))) (kk (q1 h)) (q1 h).pos] (.Tuple (unEs T c es (cl (q0 h))) (kk (q0 h)) (q0 h).pos) h.pos
 |.aug i o d,h=>.AugAssign (.Name (nmA c i) (q1 h).pos) o (unE T c d (q0 h)) h.pos
 |.ite t a b,h=>.If (unE T c t (q0 h)) (unSs c a (qa h)) (unSs c b (qb h)) h.pos
 |.fr t it b,h=>.For (unTg c t (q1 h)) (unI T c it (q0 h)) (unSs c b (qa h)) [] h.pos
 |.wh t b,h=>.While (unE T c t (q0 h)) (unSs c b (qa h)) [] h.pos
 |.ret d,h=>.Return (some (unE T c d (q0 h))) h.pos
 |.raise k es,h=>.Raise (some (.Call (.Name (clsN k) (c0 (qr h)).pos) (unEs T c es (cl (qr h))) [] (qr h).pos)) none h.pos
 |.tr b k n hs,h=>.Try (unSs c b (qa h)) [.ExceptHandler (some (.Name (clsN k) (hTy h).pos)) (some (nmA c n)) (jf1 c n hs (hBd h)) (hPs h)] [] [] h.pos
noncomputable def unSs (c:Ctx):Ss->List Stmt->List Stmt
 |.nil,_=>[]
 |.cons s r,hs=>unS c s (qh hs)::unSs c r hs.tail
end
def okA (c:Ctx):Tg->E->Stmt->Bool
 |.n i,.lc ..,_=>!(kd c (nmA c i) .local)
 |.t _,.lc ..,_=>false
 |.t ts,.tup es,h=>jde c (jfk c ts (cl (q1 h))) (unEs T c es (cl (q0 h)))
 |_,_,_=>true
noncomputable def okNs  (c:Ctx):List Nat->Bool
 |[]=>true
 |i::is=>decide (i<c.N.length)&&kd c (nmA c i) .local && !(is.contains i)&&okNs c is
mutual
noncomputable def okS (c:Ctx):S->Stmt->Bool
 |.expr d,h=>okE T c d (q0 h) && !isLc d
 |.asg t d,h=>okE T c d (q0 h)&&okTg c t&&okA T c t d h
 |.asgC i d,h=>isLc d&&okE T c d (q0 h)&&decide (i<c.N.length)&&lcSw c (nmA c i) (q1 h).pos (q0 h).pos (scp (q0 h))
 |.setS o i d,h=>okE T c d (q0 h)&&okE T c o (c0 (q1 h))&&okE T c i (c1 (q1 h))
 |.par is es,h=>okEs T c es (cl (q0 h))&&okNs c is&&swapped c (unNs c is (cl (q1 h))) (unEs T c es (cl (q0 h)))&&decide (is.length=2)
 |.aug i _ d,h=>okN c i&&okE T c d (q0 h)
 |.ite t a b,h=>okE T c t (q0 h)&&okSs c a (qa h)&&okSs c b (qb h)
 |.fr t it b,h=>okTg c t&&okI T c t it (q0 h)&&okSs c b (qa h)
 |.wh t b,h=>okE T c t (q0 h)&&okSs c b (qa h)
 |.ret d,h=>okE T c d (q0 h)
 |.raise k es,h=>okC T.cs c k&&decide (0<jcm es)&&okEs T c es (cl (qr h))
 |.tr b k n hs,h=>okSs c b (qa h)&&decide (k=0)&&glo c (clsN k)&&decide (n<c.N.length)&&kd c (nmA c n) .local && !(nmA c n==("__debug__" : Str)) && !(nmA c n==("__classdict__" : Str)) && !hs.isEmpty&&hs.all (okHS T.cs c n)
noncomputable def okSs (c:Ctx):Ss->List Stmt->Bool
 |.nil,_=>true
 |.cons s r,hs=>okS c s (qh hs)&&okSs c r hs.tail
end
end
def lSp  (K:Yab)(t:List U->Gp->K1->KX->Prop):Sp:=λvs H Q0 E0=>∃us G Q E,RUs K H us vs/\HR K H G/\t us G Q E/\(∀w v G' H',RU K H' w v->HR K H' G'->Fr H G H' G'->Q w G'->Q0 v H')/\
 ∀x G' H' C dx,XD K H' C dx x->HR K H' G'->Fr H G H' G'->E x G'->E0 (.ref C) (some dx) H'
def FnU  (P:Program)(w:World)(K:Yab)(mg:Str->Option Value)(base:Heap)(k:Nat)(d:Fun)(t:List U->Gp->K1->KX->Prop):Prop:=
 ∃(f:Addr) (fd:YeF),FnOk P w K mg base (CX1 P w) (k+2) f fd d.ps (lSp K t)/\mg d.name=some (.ref f)/\Ybg K (.ref f)=true/\Binds K fd d.ps []
noncomputable def jc6  : List Str:=["len", "repr", "min", "max", "sum", "all", "any", "sorted", "int", "str", "isinstance", "range", "enumerate", "list", "tuple", "bool", "dict", "ValueError", "set", "zip"]
structure Cok (T:Tab)(k:Nat)(X:Cx)(c:Ctx):Prop where
 hN:X.N=c.N
 nd:c.N.Nodup
 loc:∀x,kd c x .local=true->X.env.scope.names.lookup x=some .local
 cel:∀x,kd c x .cell=true->X.env.scope.names.lookup x=some .cell/\X.fn x=true
 fre:∀x,kd c x .free=true->X.env.scope.names.lookup x=some .cell\/X.env.scope.names.lookup x=some .free
 glb:∀x,kd c x .globalImplicit=true->Gl X x
 room:Room k X.A
 calm:X.calm=true
 po:Yc8 (model X.prog X.w) X.A X.env X.xe
 blt:∀x∈jc6,X.mg x=none
 fns:∀(n:Nat) (d:Fun),T.funs[n]?=some d->FnU X.prog X.w X.K X.mg X.base k d (jac T k n)
 gls:∀(n:Nat) (x:Str) (u:U),T.gn[n]?=some x->T.gs[n]?=some u->∃v w,X.mg x=some w/\RelV v w/\∀H,RU X.K H u v
 room2:Room (k+2) X.A
 cls:∀n∈T.cs,1<=n->∃C,XCls X.K (gK X.K) (clsN n) (clsF n) C
 mgK:∀x v,gK X.K x=some v->X.mg x=some v
structure Cos (T:Tab)(k:Nat)(X:Cx)(c:Ctx):Prop extends Cok T k X c where
 sc:X.env.scope.names=c.sc
 kind:X.env.scope.kind=.function
 stk:X.stack=X.env::X.outer/\X.env.frame=some X.env.locals
section
variable {T:Tab}{k:Nat}{X:Cx}{c:Ctx}
theorem Cok.hu  (h:Cok T k X c):X.A.units+1<cLine:=jpD h.room
theorem Cok.vis  (h:Cok T k X c)(v:(kd c x .local||kd c x .cell||kd c x .free)=true):Vis X.env.scope x:=by
 simp only[YbB]at v;rcases v with(v|v)|v
 ·exact .inl (h.loc x v)
 ·exact .inr (.inl (h.cel x v).1)
 ·rcases h.fre x v with z|z
  ·exact .inr (.inl z)
  ·exact .inr (.inr z)
theorem Cok.store  (h:Cok T k X c)(v:(kd c x .local||kd c x .cell)=true):Loc X.env.scope x/\(X.fn x=true\/X.env.scope.names.lookup x=some .local):=by
 simp only[YbB]at v;rcases v with v|v
 ·exact⟨.inl (h.loc x v),.inr (h.loc x v)⟩
 ·exact⟨.inr (h.cel x v).1,.inl (h.cel x v).2⟩
theorem Cok.gl  (h:Cok T k X c)(v:glo c x=true):Gl X x/\(x==("__debug__" : Str))=false:=by
 unfold glo at v;rw[Yah]at v;exact⟨h.glb x v.1,by lia⟩
end
noncomputable def jec  : Expr->Bool
 |.BoolOp ..|.BinOp ..|.UnaryOp ..|.IfExp ..|.Dict ..|.ListComp ..|.Compare ..|.Call ..|.Constant ..|.Subscript ..|.Name ..|.List ..|.Tuple ..|.JoinedStr ..=>true
 |_=>false
section
variable {T:Tab}{c:Ctx}
theorem jav   ir h:jec (unE T c ir h)=true:=by cases ir<;>rfl
theorem jai   (h:jec e=true) es env:Yat (e::es) env=(false,eval e env)::Yat es env:=by
 cases e<;>first|rfl|cases h
theorem jmg   (h:jec e=true):jgH e:=by
 intro o i;cases e<;>first|rfl|cases h
theorem jfJ   (h:jec e=true) env:∀x,YaZ e env x=pure x:=by
 intro x;cases e<;>first|rfl|cases h
theorem jk1   it h env:∀x,YaZ (unI T c it h) env x=pure x:=by
 cases it with
 |e d=>exact jfJ (jav d _) env
 |_=>exact λ_=>rfl
theorem jj8   (h:jec i=true) env tpos:∀v,assign (.Subscript o i tpos) env v=(holding [v] (eval o env) >>= λa=>holding [v,a] (eval i env) >>= λb=>standAt tpos >>= λ_=>holding [v,a,b] (setItem a b v) >>= λ_=>release [v,a,b] []):=by
 intro v;cases i<;>first|rfl|cases h
theorem jk3   (q:isLc ir=false) h env l:Ycd (unE T c ir h) none l env=pure false:=by
 cases ir<;>first|rfl|cases q
theorem jk0   (q:isLc ir=false) h tg env l:Ybx [tg] (unE T c ir h) l env=pure false:=by
 cases ir<;>first|rfl|cases q
theorem jko   ir h x y p env l:Ybx [.Subscript x y p] (unE T c ir h) l env=pure false/\Ybe [.Subscript x y p] (unE T c ir h) env=pure none:=by
 cases ir<;>exact⟨rfl,rfl⟩
theorem joG   ir h x p env:Ybe [.Name x p] (unE T c ir h) env=pure none:=by
 cases ir<;>rfl
theorem jk2   t h env:(Ybd [unTg c t h] env).map (·.2)=[assign (unTg c t h) env]:=by
 cases t<;>rfl
theorem jgC   (h:jkB o=true) m env w:Ycp o m env w=w:=by
 unfold Ycp;split
 ·cases h
 ·rfl
theorem jcA  : ∀es hs env pos ,(backTo pos (Yat (unEs T c es hs) env)).any (·.1)=false/\(backTo pos (Yat (unEs T c es hs) env)).all (λx=>!x.1)=true
 |.nil,_,_,_=>⟨rfl,rfl⟩
 |.cons d es,hs,env,pos=>by
  obtain⟨h1,h2⟩:=jcA es hs.tail env pos;show(backTo pos (Yat (unE T c d (hd hs)::unEs T c es hs.tail) env)).any (·.1)=false/\(backTo pos (Yat (unE T c d (hd hs)::unEs T c es hs.tail) env)).all (λx=>!x.1)=true;rw[jai (jav d _)];exact⟨by show(false||(backTo pos (Yat (unEs T c es hs.tail) env)).any (·.1))=false;lia,by show(!false&&(backTo pos (Yat (unEs T c es hs.tail) env)).all (λx=>!x.1))=true;lia⟩
theorem jh1  : ∀es hs ,(unEs T c es hs).length=jcm es
 |.nil,_=>rfl
 |.cons _ es,hs=>congrArg (·+ 1) (jh1 es hs.tail)
theorem ba   (h:(a&&b)=true):a=true/\b=true:=by lia
theorem bn   (h:(!a)=true):a=false:=by lia
theorem jiF   (h:decide (i<c.N.length)=true):c.N[i]?=some (nmA c i):=by
 unfold nmA
 simp_all
end
theorem jh5  : ∀{ts } {us } {ς } {k },tgsU ts us ς k->us.length=jfm ts
 |.nil,us,ς,k,h=>by rw[h.1];rfl
 |.cons t ts,us,ς,k,h=>by
  cases us with
  |nil=>exact h.elim
  |cons u r=>
   have:∃ς',tgsU ts r ς' k:=tg_some h;obtain⟨ς',h'⟩:=this;show r.length+1=jfm ts+1;rw[jh5 h']
where
 tg_some {t:Tg} {u:U} {ς:Sg} {P:Sg->Prop} (h:tgU t u ς P):∃ς',P ς':=by
  have:=jeS (k':=λ_=>∃ς',P ς') h λς' h'=>⟨ς',h'⟩;exact tg_const this
 tg_const:∀{t:Tg} {u:U} {ς:Sg} {P:Prop},tgU t u ς (λ_=>P)->P
  |.n _,_,_,_,h=>h
  |.t ts,u,ς,P,h=>by
   cases u with
   |tup us=>exact tgs_const (ts:=ts) (us:=us) h
   |_=>exact h.elim
 tgs_const:∀{ts:Tgs} {us:List U} {ς:Sg} {P:Prop},tgsU ts us ς (λ_=>P)->P
  |.nil,_,_,_,h=>h.2
  |.cons t ts,us,ς,P,h=>by
   cases us with
   |nil=>exact h.elim
   |cons u r=>exact tg_const (jeS (t:=t) h λς' h'=>tgs_const h')
section
variable {T:Tab}{k:Nat}{X:Cx}{c:Ctx}
theorem jf2  : ∀ts hs env ,(Ybd (jfk c ts hs) env).length=jfm ts/\(Ybd (jfk c ts hs) env).findIdx? (·.1)=none
 |.nil,_,_=>⟨rfl,rfl⟩
 |.cons t ts,hs,env=>by
  obtain⟨h1,h2⟩:=jf2 ts hs.tail env;have e:Ybd (jfk c (.cons t ts) hs) env=(false,assign (unTg c t (hd hs)) env)::Ybd (jfk c ts hs.tail) env:=by cases t<;>rfl
  rw[e];exact⟨by simp[h1,jfm],by simp_all⟩
theorem Cok.nm   (C:Cok T k X c)(h:decide (i<c.N.length)=true):X.N[i]?=some (nmA c i):=by rw[C.hN];exact jiF h
mutual
theorem sTg (C:Cok T k X c):∀(t:Tg) (h:Expr),okTg c t=true->PG X (unTg c t h) (lG X.K (tgU t))
 |.n _,_,q=>let s:=C.store (ba q).2;u_tn (by rw[C.hN];exact C.nd) (C.nm (ba q).1) s.1 s.2
 |.t ts,h,q=>u_tt C.calm (sTgs C ts (cl h) q) (jf2 ts _ X.env).1 (jf2 ts _ X.env).2 λus ς k q=>jh5 q
theorem sTgs (C:Cok T k X c):∀(ts:Tgs) (hs:List Expr),jlT c ts=true->PGs X (jfk c ts hs) (lGs X.K (tgsU ts))
 |.nil,_,_=>joJ
 |.cons t ts,hs,q=>joK (sTg C t (hd hs) (ba q).1) (sTgs C ts hs.tail (ba q).2) (by cases t<;>rfl)
end
def EB  (X:Cx)(σ:St):XK:=λcls dx H'=>∀(pins:List (Addr×Obj)) (ea:Addr) (s':Shared),Inv X pins σ H' s'->Lies X.s₀.heap.objs.size X.pn H' s'.heap ea cls dx->X.xe (.ref ea) s'
theorem jih        {σ:St}(F:FnOk X.prog X.w X.K X.mg X.base (CX1 X.prog X.w) j f fd ps sp)(hr:Room j X.A)(hb:Binds X.K fd ps [])
  (I:Inv X pins σ H s) (r:Vals vs us) (h:sp vs H Q (EB X σ)):wpAny (model X.prog X.w) X.A (call (.ref f) us) (EP X pins σ Q) X.xe s:=by
 have hl:(us++[]).length=ps.length:=by rw[Ybb,<- r.length];exact F.len _ _ _ _ h
 have hbs:=hb s us I.kIn hl;rw[Ybb]at hbs;refine Yee (YcZ (F.run X.A X.stack s H ⟨us,[]⟩ us vs Q (EB X σ) hr I.env0 hbs r h) λr s' hq=>?_);cases r with
 |error e=>
  obtain⟨ea,H',cls,dx,rfl,I',l,q⟩:=CX1.back I hq;exact q pins ea s' I' l
 |ok fl=>
  cases fl with
  |ret u=>exact I.after hq
  |next=>exact Ybz hq
  |brk=>exact Ybz hq
  |cont=>exact Ybz hq
theorem jid         {E:KX}(r:RUs X.K H us vs)(hG:HR X.K H G)(h:jac T k n us G Q E)(lv:LV X H G Q Q0)(lx:LX X σ H G E):lSp X.K (jac T k n) vs H Q0 (EB X σ):=
 ⟨us,G,Q,E,r,hG,h,lv,λx G' H' C dx xd hr f q pins ea s' I' l=>lx pins (.ref ea) s' x G' H' I' ⟨ea,C,dx,rfl,l,xd⟩ hr f q⟩
theorem jmH         (C:Cok T k X c)(hd:T.funs[n]?=some d)(hx:d.name=x)(hg:glo c x=true)(ha:PA X (e::es) (lA X ts))
  (he:Yat (e::es) X.env=(false,eval e X.env)::Yat es X.env) (hpl:(backTo pos (Yat es X.env)).any (·.1)=false) :
  PE X (.Call (.Name x p) (e::es) [] pos) (lE X λς G Q E=>ts ς G (λus G1=>jac T k n us G1 Q E) E):=by
 obtain⟨f,fd,F,hm,hk,hb⟩:=C.fns n d hd;obtain⟨g1,g2⟩:=C.gl hg;rw[hx]at hm;intro pins s σ H Q0 I ⟨ς,G,Q,E,hς,hG,h,lv,lx⟩;refine Ybw (jdg I g1 hm ?_ g2);have h':lA X ts σ H λvs H1=>lSp X.K (jac T k n) vs H1 Q0 (EB X σ):=⟨ς,G,_,E,hς,hG,h,λus vs G1 H1 rs hG1 f1 h1=>jid rs hG1 h1 (lv.fr f1) (lx.fr f1),lx⟩;refine Ydi (h₀:=X.base) I.ok.mod.kin hk (thn (ha pos pins s σ H _ I h') λus s1 ⟨vs,H1,I1,r,q⟩=>⟨I1.kIn,?_⟩) he hpl;exact jih F C.room2 hb I1 r q
theorem jk7      (C:Cok T k X c)(hd:T.funs[n]?=some d)(hx:d.name=x)(hg:glo c x=true) :
  PE X (.Call (.Name x p) [] [] pos) (lE X λ_ G Q E=>jac T k n [] G Q E):=by
 obtain⟨f,fd,F,hm,hk,hb⟩:=C.fns n d hd;obtain⟨g1,g2⟩:=C.gl hg;rw[hx]at hm;intro pins s σ H Q0 I ⟨ς,G,Q,E,hς,hG,h,lv,lx⟩;refine Ybw (jdg I g1 hm ?_ g2);exact PySem.W.callWith_K0 I.kIn hk (jih (us:=[]) (vs:=[]) F C.room2 hb I .nil (jid (show RUs X.K H [] []from rfl) hG h lv lx))
theorem Cok.comp     (C:Cok T k X c)(h:cOkS c N pick scope=true):CScope X N pick scope/\∀cl A s₀ H₀ fp,Cok T k (jap X N scope cl A s₀ H₀ fp) ⟨N,scope.names⟩:=by
 unfold cOkS at h;simp only[Yah,decide_eq_true_eq]at h;obtain⟨⟨⟨⟨⟨⟨h1,h2⟩,h3⟩,h4⟩,h5⟩,h6⟩,h7⟩:=h;have cells:∀y∈scope.names,y.2=.cell->scope.names.lookup y.1=some .cell:=λy hy hc=>by
  grind
 refine⟨⟨h1,cells,λy hy hl=>?_,λy hy hf=>?_,by lia,λi j x e1 e2=>?_⟩,λcl A s₀ H₀ fp=>?_⟩
 ·grind
 ·have:=List.all_eq_true.mp h4 y hy;rw[hf]at this;simp only[bne_self_eq_false,YdC,Yah,YbB,beq_iff_eq]at this;refine⟨this.1,?_⟩;rcases this.2 with z|z
  ·exact .inl (C.cel _ z).1
  ·exact C.fre _ z
 ·have hz:(N.zip pick)[i]?=some (x,some j):=by rw[List.getElem?_zip_eq_some];exact⟨e1,e2⟩
  have:=List.all_eq_true.mp h6 _ (Yay hz);rw[C.hN]
  lia
 ·refine⟨rfl,h7,λx z=>?_,λx z=>?_,λx z=>?_,λx z=>?_,C.room,C.calm,Yc8.never,C.blt,C.fns,C.gls,C.room2,C.cls,C.mgK⟩
  ·exact jaA (by decide) (eq_of_beq z)
  ·exact⟨jaA (by decide) (eq_of_beq z),z⟩
  ·exact ja4 (eq_of_beq z)
  ·exact glc (eq_of_beq z)
end
end Z

namespace Z
open PySem L2

theorem HR.newX  (h:HR K H G)(e:H p=none):HR K (upd H p (.xd l)) G:=⟨λa o q=>by
 have m:=h a o q;obtain⟨ho,e2⟩:=m.there;exact m.keep (jae (jaj e2 e)) (TS.new e),h.tab.new e⟩
theorem HR.xdNone  (h:HR K H G)(e:H a=some (.xd l)):G a=none:=by
 cases q:G a with
 |none=>rfl
 |some o=>
  have m:=h a o q;cases o with
  |lst us=>obtain⟨_,e2,_⟩:=m;lia
  |fro us=>obtain⟨_,_,e2,_⟩:=m;lia
  |dK us=>obtain⟨_,e2,_⟩:=m;lia
  |dT us=>obtain⟨_,e2,_⟩:=m;lia
  |frd _ us=>obtain⟨_,e2,_⟩:=m;lia
  |frk _ us=>obtain⟨_,e2,_⟩:=m;lia
theorem XD.fr    (h:XD K H C dx x)(hG:HR K H G)(f:Fr H G H' G'):XD K H' C dx x:=by
 obtain⟨h1,h2,h3,l,hl,hn,r⟩:=h;exact⟨h1,h2,h3,l,(f dx _ hl (hG.xdNone hl)).1,hn,r.ts (f.ts hG)⟩
theorem jjf  : ∀k<6,∀f∈clsF k,f∈fldN:=by decide +kernel
theorem jke   k:∀f∈clsF k,f∈fldN:=by
 by_cases h:k<6
 ·exact jjf k h
 ·intro f hf;have:clsF k=[]:=by
   unfold clsF;rw[List.getD_eq_getElem?_getD,YeS (by show clsA.length<=k;simp only[clsA,YbL,YcB];lia)];rfl
  simp_all
theorem jhl  : ∀i<6,∀j<6,clsN i=clsN j->i=j:=by decide +kernel
theorem jje  : ∀i<6,1<=i->clsN i ≠ "PlanError" := by decide +kernel
section
variable {T:Tab}{k:Nat}{X:Cx}{c:Ctx}
theorem jgX    (h:okC cs c n=true):1<=n/\n<6/\n∈cs/\glo c (clsN n)=true:=by
 unfold okC at h
 simp_all
theorem s_raise       (C:Cok T k X c)(hn:okC T.cs c n=true)(ha:PA X (e::es) (lA X ts))(he:Yat (e::es) X.env=(false,eval e X.env)::Yat es X.env)(hpl:(backTo cpos (Yat es X.env)).any (·.1)=false) :
  PS X (.Raise (some (.Call (.Name (clsN n) p) (e::es) [] cpos)) none pos) (lS X λD ς G=>ts ς G (λus G1=>us.length=(clsF n).length/\D.ex ⟨n,us⟩ ς G1) λx G1=>D.ex x ς G1):=by
 obtain⟨n1,n2,n3,n4⟩:=jgX hn;obtain⟨Ca,cl⟩:=C.cls n n3 n1;obtain⟨g1,g2⟩:=C.gl n4;refine(jik (k:=k) cl (jke n) C.room2 g1 (C.mgK _ _ cl.m) ha g2 he hpl).imp λD σ H ⟨De,ς,G,hς,hG,h,ld⟩=>?_;refine⟨ς,G,_,_,hς,hG,h,λus vs G1 H1 rs hG1 f1 h1=>?_,ld.lx hς hG⟩;have hl:vs.length=(clsF n).length:=rs.length.symm.trans h1.1;refine⟨hl,λpins ea dx s' hd I l=>?_⟩;have f2:Fr H1 G1 (upd H1 dx (.xd ((clsF n).zip vs))) G1:=Fr.new hd;refine ld.ex pins (.ref ea) s' ⟨n,us⟩ ς σ G1 _ I ((hς.ts (f1.ts hG)).ts (f2.ts hG1)) ⟨ea,Ca,dx,rfl,l,n1,n2,cl,_,jah,?_,?_⟩ (hG1.newX hd) (f1.trans f2) h1.2
 ·exact YfR (by lia)
 ·rw[List.map_snd_zip (by lia)]
  exact rs.ts (f2.ts hG1)
end
structure HC (T:Tab)(X:Cx)(c:Ctx)(n:Nat)(ea C dx:Addr)(x:XV):Prop where
 hN:X.N=c.N
 nd:c.N.Nodup
 loc:∀y,kd c y .local=true->X.env.scope.names.lookup y=some .local
 cel:∀y,kd c y .cell=true->X.env.scope.names.lookup y=some .cell/\X.fn y=true
 fre:∀y,kd c y .free=true->X.env.scope.names.lookup y=some .cell\/X.env.scope.names.lookup y=some .free
 glb:∀y,kd c y .globalImplicit=true->Gl X y
 blt:∀y∈jc6,X.mg y=none
 cls:∀n∈T.cs,1<=n->∃C,XCls X.K (gK X.K) (clsN n) (clsF n) C
 me:XCls X.K (gK X.K) (clsN x.c) (clsF x.c) C
 lo:1<=x.c
 hi:x.c<6
 pin:XPin X ea C dx
 mgK:∀y v,gK X.K y=some v->X.mg y=some v
 en:n<c.N.length/\kd c (nmA c n) .local=true/\(nmA c n==("__debug__" : Str))=false/\(nmA c n==("__classdict__" : Str))=false
structure HSt (X:Cx)(n:Nat)(ea C dx:Addr)(x:XV)(σ:St)(H:Hp)(ς:Sg)(G:Gp):Prop where
 sr:SR X.K H ς σ
 hr:HR X.K H G
 en:σ[n]?=some (some (.ref ea))
 xd:XD X.K H C dx x
def hB  (X:Cx)(n:Nat)(ea C dx:Addr)(x:XV)(f:Sg->Option Bool):TE:=λσ H Q=>∃ς G b,HSt X n ea C dx x σ H ς G/\f ς=some b/\∀H',HR X.K H' G->Fr H G H' G->Q (.bl b) H'
def hT  (X:Cx)(n:Nat)(ea C dx:Addr)(x:XV)(f:Sg->Option Bool):TT:=λσ H Q=>∃ς G b,HSt X n ea C dx x σ H ς G/\f ς=some b/\∀H',HR X.K H' G->Fr H G H' G->Q b H'
section
variable {T:Tab}{X:Cx}{c:Ctx}{n:Nat}{ea C dx:Addr}{x:XV}
theorem HSt.fr      (h:HSt X n ea C dx x σ H ς G)(hr:HR X.K H' G')(f:Fr H G H' G'):HSt X n ea C dx x σ H' ς G':=⟨h.sr.ts (f.ts h.hr),hr,h.en,h.xd.fr h.hr f⟩
theorem HC.pe  (h:HC T X c n ea C dx x):PE X (.Name (nmA c n) p) (tVar n):=by
 obtain⟨h1,h2,h3,h4⟩:=h.en;exact jb2 (by rw[h.hN];exact jiF (decide_eq_true h1)) (.inl (h.loc _ h2)) h3 h4
theorem HC.gl  (h:HC T X c n ea C dx x)(v:glo c y=true):Gl X y/\(y==("__debug__" : Str))=false:=by
 unfold glo at v;rw[Yah]at v;exact⟨h.glb y v.1,by lia⟩
theorem HC.ownC  (h:HC T X c n ea C dx x)(q:okC T.cs c m=true):∃C',XCls X.K (gK X.K) (clsN m) (clsF m) C'/\clsN m ≠ "PlanError" /\ ∀p,PE X (.Name (clsN m) p) (tC (.ref C')):=by
 obtain⟨m1,m2,m3,m4⟩:=jgX q;obtain⟨C',cl⟩:=h.cls m m3 m1;obtain⟨g1,g2⟩:=h.gl m4;exact⟨C',cl,jje m m2 m1,λp=>jf7 g1 (h.mgK _ _ cl.m) rfl g2⟩
theorem HC.pcs  (h:HC T X c n ea C dx x):∀{ks },ks.all (okC T.cs c)=true->∀hs ,∃(xs:List Str) (Cs:List Addr),xs=ks.map clsN/\XMany X (gK X.K) xs Cs/\Cs.length=ks.length/\PA X (unCs ks hs) (λ_ H Q=>Q (Cs.map .ref) H)
 |[],_,_=>⟨[],[],rfl,.nil,rfl,jdZ⟩
 |m::ks,q,hs=>by
  simp only[Yba,Yah]at q;obtain⟨C',cl,np,pe⟩:=h.ownC q.1;obtain⟨xs,Cs,e,mn,ln,pa⟩:=h.pcs q.2 hs.tail;subst e;exact⟨_,C'::Cs,rfl,.cons cl np mn,by simp[ln],jaN (pe _) pa⟩
theorem jgm  : YbP "isinstance" = some (.builtin "isinstance"):=Ydj
theorem HC.isiT  (h:HC T X c n ea C dx x)(g1:Gl X "isinstance")(g2:(("isinstance" : Str)==("__debug__" : Str))=false)(mn:XMany X (gK X.K) xs Cs)(pa:PA X es (λ_ H Q=>Q (Cs.map .ref) H)) :
  PE X (.Call (.Name "isinstance" p3) [.Name (nmA c n) p1,.Tuple es kq p2] [] p4) (λσ H Q=>σ[n]?=some (some (.ref ea))/\Cs.length<=8/\∀p,H p=none->(∃l,upd H p (.tup (Cs.map .ref)) dx=some (.xd l))/\Q (.bl (xs.contains (clsN x.c))) (upd H p (.tup (Cs.map .ref)))):=by
 have isn:X.mg "isinstance" = none:=h.blt _ (by decide)
 have a1:PA X [.Tuple es kq p2] _:=jaN (jip pa) jdZ (jai rfl _ _);have a2:PA X [.Name (nmA c n) p1,.Tuple es kq p2] _:=jaN (h.pe) a1 (jai rfl _ _);have cr:=jjl h.me mn h.pin;have hh:Yat [.Name (nmA c n) p1,.Tuple es kq p2] X.env=(false,eval (.Name (nmA c n) p1) X.env)::Yat [.Tuple es kq p2] X.env:=jai rfl _ _;have hp:(backTo p4 (Yat [.Tuple es kq p2] X.env)).any (·.1)=false:=by rw[jai rfl];rfl
 refine PE.imp (jdQ (p:=p3) (pos:=p4) cr g1 isn jgm a2 (by decide) g2 hh hp) λσ H Q ⟨e1,e2,k⟩=>?_
 refine⟨_,e1,?_,λp hp=>⟨p,rfl,jah,(k p hp).1,(k p hp).2⟩⟩;rw[Yaj,YbS];lia
theorem HC.lit  (h:HC T X c n ea C dx x)(q:okHL T.cs c l=true) hx:PE X (unHL c n l hx) (hB X n ea C dx x λς=>litH x ς l)/\PT X (unHL c n l hx) (hT X n ea C dx x λς=>litH x ς l):=by
 have fin:PE X (unHL c n l hx) (hB X n ea C dx x λς=>litH x ς l):=by
  have isn:X.mg "isinstance" = none:=h.blt _ (by decide)
  have ven:X.mg "ValueError" = none:=h.blt _ (by decide)
  cases l with
  |v i=>
   have q':((decide (i<c.N.length)&&(kd c (nmA c i) .local||kd c (nmA c i) .cell||kd c (nmA c i) .free) && !(nmA c i==("__debug__" : Str)) && !(nmA c i==("__classdict__" : Str))))=true:=q;obtain⟨⟨⟨h1,h2⟩,h3⟩,h4⟩:=(⟨⟨ba (ba (ba q').1).1,(ba (ba q').1).2⟩,(ba q').2⟩:((_/\_)/\_)/\_);have vis:Vis X.env.scope (nmA c i):=by
    simp only[YbB]at h2;rcases h2 with(z|z)|z
    ·exact .inl (h.loc _ z)
    ·exact .inr (.inl (h.cel _ z).1)
    ·exact(h.fre _ z).elim (λz=>.inr (.inl z)) λz=>.inr (.inr z)
   refine(jb2 (by rw[h.hN];exact jiF h1) vis (bn h3) (bn h4)).imp λσ H Q ⟨ς,G,b,st,e,k⟩=>?_
   have e':(match ς[i]? with|some (some (U.bl b))=>some b|_=>none)=some b:=e
   split at e'
   ·rename_i b' eb;cases e';obtain⟨v,ev,r⟩:=st.sr.2 i _ eb;cases r;exact⟨_,ev,k H st.hr (Fr.refl _ _)⟩
   lia
  |isiV=>
   have q':(glo c "isinstance" && glo c "ValueError")=true:=q;obtain⟨g1,g2⟩:=h.gl (ba q').1;obtain⟨g3,g4⟩:=h.gl (ba q').2;refine(jdQ (jjk h.me h.pin) g1 isn jgm (jaN h.pe (jaN (jiq (v:=.ty "ValueError") g3 ven (by decide +kernel) rfl (by decide) g4) jdZ)) (by decide) g2 rfl rfl).imp λσ H Q ⟨ς,G,b,st,e,k⟩=>?_
   cases(show true=b from Yar e);obtain⟨_,_,_,l,hl,_⟩:=st.xd;exact⟨_,st.en,rfl,⟨l,hl⟩,k H st.hr (Fr.refl _ _)⟩
  |is1 m=>
   have q':(glo c "isinstance" && okC T.cs c m)=true:=q;obtain⟨g1,g2⟩:=h.gl (ba q').1;obtain⟨C',cl,np,pe⟩:=h.ownC (ba q').2;refine(jdQ (jjm h.me cl np h.pin) g1 isn jgm (jaN h.pe (jaN (pe _) jdZ)) (by decide) g2 rfl rfl).imp λσ H Q ⟨ς,G,b,st,e,k⟩=>?_
   have eb:decide (x.c=m)=b:=Yar e;have e2:decide (clsN x.c=clsN m)=b:=by
    rw[<- eb];obtain⟨_,m2,_⟩:=jgX (ba q').2;by_cases z:x.c=m
    ·simp[z]
    ·have:clsN x.c≠clsN m:=λy=>z (jhl _ h.hi _ m2 y)
     lia
   obtain⟨_,_,_,l,hl,_⟩:=st.xd;exact⟨_,st.en,rfl,⟨l,hl⟩,by rw[e2];exact k H st.hr (Fr.refl _ _)⟩
  |isi ks=>
   have q':(glo c "isinstance" && ks.all (okC T.cs c)&&decide (ks.length<=8))=true:=q;obtain⟨g1,g2⟩:=h.gl (ba (ba q').1).1;obtain⟨xs,Cs,exs,mn,ln,pa⟩:=h.pcs (ba (ba q').1).2 (cl (hd (cl hx).tail));refine PE.imp (h.isiT g1 g2 mn pa) λσ H Q ⟨ς,G,b,st,e,k⟩=>?_;have eb:ks.contains x.c=b:=Yar e;have e2:xs.contains (clsN x.c)=b:=by
    rw[<- eb,exs];have all:∀m∈ks,m<6:=λm hm=>(jgX (List.all_eq_true.mp (ba (ba q').1).2 m hm)).2.1;rw[Ybc];simp only[List.contains_iff_mem,List.mem_map];constructor
    ·rintro⟨m,hm,em⟩;have:=jhl _ (all m hm) _ h.hi em
     lia
    lia
   refine⟨st.en,?_,λp hp=>⟨?_,?_⟩⟩
   ·lia
   ·obtain⟨_,_,_,l,hl,_⟩:=(st.fr (st.hr.newT hp) (Fr.new hp)).xd;exact⟨l,hl⟩
   ·rw[e2];exact k _ (st.hr.newT hp) (Fr.new hp)
 refine⟨fin,?_⟩;have tr:∀whole,isTrue (unHL c n l hx) X.env whole=(do let v <- whole;standAt (unHL c n l hx).pos;holding [v] (truthy v)):=by
  intro whole;cases l<;>rfl
 refine(jm8 fin tr).imp λσ H Q ⟨ς,G,b,st,e,k⟩=>?_;exact⟨ς,G,b,st,e,λH' a f=>⟨b,rfl,k H' a f⟩⟩
theorem HC.litN  (h:HC T X c n ea C dx x)(q:okHL T.cs c p.2=true) hx:PE X (jf0 c n p hx) (hB X n ea C dx x λς=>lit1 x ς p)/\PT X (jf0 c n p hx) (hT X n ea C dx x λς=>lit1 x ς p):=by
 obtain⟨neg,l⟩:=p;cases neg with
 |false=>
  obtain⟨h1,h2⟩:=h.lit q hx;refine⟨PE.imp h1 λσ H Q ⟨ς,G,b,st,e,k⟩=>⟨ς,G,b,st,?_,k⟩,PT.imp h2 λσ H Q ⟨ς,G,b,st,e,k⟩=>⟨ς,G,b,st,?_,k⟩⟩ <;>
  ·unfold lit1 at e
   lia
 |true=>
  obtain⟨h1,h2⟩:=h.lit q (c0 hx);refine⟨PE.imp (jnk h1) λσ H Q ⟨ς,G,b,st,e,k⟩=>⟨ς,G,!b,st,?_,λH' a f=>⟨!b,rfl,by simp_all⟩⟩,PT.imp (jkv h2) λσ H Q ⟨ς,G,b,st,e,k⟩=>⟨ς,G,!b,st,?_,λH' a f=>by simp_all⟩⟩ <;>
  ·unfold lit1 at e;dsimp only at e;split at e
   ·simp_all
   lia
theorem HC.conds  (h : HC T X c n ea C dx x) k : ∀ as (a : Bool × HL) hx hs pos , okHL T.cs c a.2 = true -> jd1 T.cs c as = true ->
    PE X (.BoolOp (boU k) (jf0 c n a hx :: jgJ c n as hs) pos) (hB X n ea C dx x λς => jcE x ς k a as) /\ PW X (.BoolOp (boU k) (jf0 c n a hx :: jgJ c n as hs) pos) (hT X n ea C dx x λς => jcE x ς k a as)
  | [], a, hx, hs, pos, q, _ => by
    obtain ⟨h1, h2⟩ := h.litN q hx
    cases k with
    | true => exact ⟨jgV h1, pw_and1 h2⟩
    | false => exact ⟨jgV h1, pw_or1 h2⟩
  | b :: r, a, hx, hs, pos, q, qs => by
    unfold jd1 at qs
    simp only [Yba, Yah] at qs
    obtain ⟨h1, h2⟩ := h.litN q hx
    obtain ⟨r1, r2⟩ := h.conds k r b (hd hs) hs.tail pos qs.1 qs.2
    have red : ∀ {ς : Sg} {t b' : Bool}, lit1 x ς a = some t -> jcE x ς k a (b :: r) = some b' -> (if t = k then jcE x ς k b r else some t) = some b' := λ{ς t b'} e1 e2 => by
      have e3 : (match lit1 x ς a with | some t => if t = k then jcE x ς k b r else some t | none => none) = some b' := e2
      lia
    have some1 : ∀ {ς : Sg} {b' : Bool}, jcE x ς k a (b :: r) = some b' -> ∃ t, lit1 x ς a = some t := λ{ς b'} e2 => by
      have e3 : (match lit1 x ς a with | some t => if t = k then jcE x ς k b r else some t | none => none) = some b' := e2
      grind
    cases k with
    | true =>
      refine ⟨PE.imp (jnp h1 r1) λσ H Q ⟨ς, G, b', st, e, kk⟩ => ?_, PW.imp (pw_and h2 r2) λσ H Q ⟨ς, G, b', st, e, kk⟩ => ?_⟩ <;>
      · obtain ⟨t, et⟩ := some1 e
        have e' := red et e
        first
          | (refine ⟨ς, G, t, st, et, λH' hr f => ⟨t, rfl, ?_⟩⟩
             cases t with
             | true => exact ⟨ς, G, b', st.fr hr f, by lia, λH'' a b => kk H'' a (f.trans b)⟩
             | false => simp_all)
          | (refine ⟨ς, G, t, st, et, λH' hr f => ?_⟩
             cases t with
             | true => exact ⟨ς, G, b', st.fr hr f, by lia, λH'' a b => kk H'' a (f.trans b)⟩
             | false => simp_all)
    | false =>
      refine ⟨PE.imp (jpl h1 r1) λσ H Q ⟨ς, G, b', st, e, kk⟩ => ?_, PW.imp (pw_or h2 r2) λσ H Q ⟨ς, G, b', st, e, kk⟩ => ?_⟩ <;>
      · obtain ⟨t, et⟩ := some1 e
        have e' := red et e
        first
          | (refine ⟨ς, G, t, st, et, λH' hr f => ⟨t, rfl, ?_⟩⟩
             cases t with
             | false => exact ⟨ς, G, b', st.fr hr f, by lia, λH'' a b => kk H'' a (f.trans b)⟩
             | true => simp_all)
          | (refine ⟨ς, G, t, st, et, λH' hr f => ?_⟩
             cases t with
             | false => exact ⟨ς, G, b', st.fr hr f, by lia, λH'' a b => kk H'' a (f.trans b)⟩
             | true => simp_all)
theorem HC.cond  (h:HC T X c n ea C dx x) k (a:Bool×HL) as hx (q:okHL T.cs c a.2=true)(qs:jd1 T.cs c as=true) :
  PE X (jgK c n k a as hx) (hB X n ea C dx x λς=>jcE x ς k a as)/\PT X (jgK c n k a as hx) (hT X n ea C dx x λς=>jcE x ς k a as):=by
 cases as with
 |nil=>exact h.litN q hx
 |cons b r=>let z:=h.conds k (b::r) a (hd (cl hx)) (cl hx).tail hx.pos q qs;exact⟨z.1,z.2.pt⟩
def hV  (X:Cx)(n:Nat)(ea C dx:Addr)(x:XV)(f:Sg->Gp->K1->Prop):TE:=λσ H Q0=>∃ς G Q,HSt X n ea C dx x σ H ς G/\f ς G Q/\LV X H G Q Q0
theorem jh0      : ∀{l:List (Str×V)} {us },RUs K H us (l.map (·.2))->((l.map (·.1)).zip us).lookup f=some u->∃v,l.lookup f=some v/\RU K H u v
 |[],us,_,e=>by simp at e
 |(y,v)::l,[],r,e=>by simp at e
 |(y,v)::l,w::us,r,e=>by
  obtain⟨v',vr,ev,r1,rs⟩:=r;simp only[YaC,Ye5]at ev;obtain⟨rfl,rfl⟩:=ev;simp only[YaC,Yfu,YaT]at e ⊢;split at e
  ·lia
  ·rename_i z;obtain⟨v',h1,h2⟩:=jh0 rs e
   simp_all
theorem XD.get      (xd:XD K H C dx x)(e:atH x (.att f)=some u):∃l v,H dx=some (.xd l)/\l.lookup f=some v/\RU K H u v:=by
 obtain⟨_,_,_,l,hl,hn,r⟩:=xd;have e':((clsF x.c).zip x.fs).lookup f=some u:=e;rw[<- hn]at e';obtain⟨v,h1,h2⟩:=jh0 r e'
 simp_all
theorem HC.at  (h:HC T X c n ea C dx x)(q:okHA a=true) hx:PE X (unHA c n a hx) (λσ H Q0=>∃ς G u,HSt X n ea C dx x σ H ς G/\atH x a=some u/\∀v,RU X.K H u v->Q0 v H):=by
 cases a with
 |str y=>exact PE.imp jkw λσ H Q ⟨ς,G,u,st,e,k⟩=>by cases e;exact k _ rfl
 |att f=>
  have hf:f∈fldN:=by simpa[okHA]using q
  refine PE.imp (jlz h.me h.pin hf h.pe rfl) λσ H Q ⟨ς,G,u,st,e,k⟩=>?_;obtain⟨l,v,hl,h1,h2⟩:=st.xd.get e;exact⟨_,st.en,rfl,l,v,hl,h1,k v h2⟩
theorem jmh   a hx es env:Yat (unHA c n a hx::es) env=(false,eval (unHA c n a hx) env)::Yat es env:=by cases a<;>rfl
theorem HC.ats  (h:HC T X c n ea C dx x):∀{as } (_:as.all okHA=true) hs ,PA X (jjt c n as hs) (λσ H Q0=>∃ς G us,HSt X n ea C dx x σ H ς G/\atsH x as=some us/\∀vs,RUs X.K H us vs->Q0 vs H)
 |[],_,_=>λpos pins s σ H Q0 I ⟨ς,G,us,st,e,k⟩=>by cases e;exact jdZ pos pins s σ H Q0 I (k [] rfl)
 |a::r,q,hs=>by
  simp only[Yba,Yah]at q;refine PA.imp (jaN (h.at q.1 (hd hs)) (h.ats q.2 hs.tail) (jmh a _ _ _)) λσ H Q0 ⟨ς,G,us,st,e,k⟩=>?_;have e':(match atH x a,atsH x r with|some u,some us=>some (u::us)|_,_=>none)=some us:=e
  split at e'
  ·rename_i u us' e1 e2;cases e';exact⟨ς,G,u,st,e1,λv rv=>⟨ς,G,us',st,e2,λvs rvs=>k (v::vs) ⟨v,vs,rfl,rv,rvs⟩⟩⟩
  lia
theorem jgD  : ∀{as } {us },atsH x as=some us->us.length=as.length
 |[],us,e=>by cases e;rfl
 |a::r,us,e=>by
  have e':(match atH x a,atsH x r with|some u,some us=>some (u::us)|_,_=>none)=some us:=e
  split at e'
  ·rename_i u us' e1 e2;cases e';simp[jgD e2]
  lia
theorem HC.val  (h:HC T X c n ea C dx x)(q:okHV T.cs c e=true) hx:PE X (unHV c n e hx) (hV X n ea C dx x λς G Q=>hvH x ς e G Q):=by
 cases e with
 |cond k a as=>
  have q':(okHL T.cs c a.2&&jd1 T.cs c as)=true:=q;refine PE.imp (h.cond k a as hx (ba q').1 (ba q').2).1 λσ H Q0 ⟨ς,G,Q,st,e,lv⟩=>?_;have e':(match jcE x ς k a as with|some b=>Q (.bl b) G|none=>False):=e
  split at e'
  ·rename_i b eb;exact⟨ς,G,b,st,eb,λH' hr f=>lv (.bl b) (.bl b) G H' rfl hr f e'⟩
  lia
 |one a=>
  refine PE.imp (h.at (show okHA a=true from q) hx) λσ H Q0 ⟨ς,G,Q,st,e,lv⟩=>?_;have e':(match atH x a with|some u=>Q u G|none=>False):=e
  split at e'
  ·rename_i u eu;exact⟨ς,G,u,st,eu,λv rv=>lv.here rv st.hr e'⟩
  lia
 |bl b=>exact PE.imp jno λσ H Q0 ⟨ς,G,Q,st,e,lv⟩=>lv.bl st.hr e
 |tup as=>
  have q':(as.all okHA&&decide (as.length<=8))=true:=q;refine PE.imp (jip (h.ats (ba q').1 (cl hx))) λσ H Q0 ⟨ς,G,Q,st,e,lv⟩=>?_;have e':(match atsH x as with|some us=>Q (.tup us) G|none=>False):=e
  split at e'
  ·rename_i us eu;refine⟨ς,G,us,st,eu,λvs rvs=>⟨?_,λp hp=>lv.tup hp rvs st.hr e'⟩⟩;have:=of_decide_eq_true (ba q').2;rw[<- rvs.length,jgD eu,YbS];lia
  lia
 |lst as=>
  have q':(as.all okHA&&decide (as.length<=8))=true:=q;refine PE.imp (jkx (h.ats (ba q').1 (cl hx))) λσ H Q0 ⟨ς,G,Q,st,e,lv⟩=>?_;have e':(match atsH x as with|some us=>newO G (.lst us) Q|none=>False):=e
  split at e'
  ·rename_i us eu;refine⟨ς,G,us,st,eu,λvs rvs=>⟨?_,λp hp=>lv.lst hp rvs st.hr e'⟩⟩;have:=of_decide_eq_true (ba q').2;rw[<- rvs.length,jgD eu,YbS];lia
  lia
theorem jiX   e hx y p env l:Ybx [.Name y p] (unHV c n e hx) l env=pure false/\Ybe [.Name y p] (unHV c n e hx) env=pure none:=by
 cases e with
 |cond k a as=>
  cases as with
  |nil=>
   obtain⟨neg,l⟩:=a;cases neg<;>cases l<;>exact⟨rfl,rfl⟩
  |cons=>exact⟨rfl,rfl⟩
 |one a=>cases a<;>exact⟨rfl,rfl⟩
 |_=>exact⟨rfl,rfl⟩
theorem HC.store  (h:HC T X c n ea C dx x)(q:okN c i=true):PG X (.Name (nmA c i) p) (ji2 i):=by
 have q':(decide (i<c.N.length)&&(kd c (nmA c i) .local||kd c (nmA c i) .cell))=true:=q;have v:=(ba q').2;simp only[YbB]at v;rcases v with v|v
 ·exact jf6 (by rw[h.hN];exact h.nd) (by rw[h.hN];exact jiF (ba q').1) (.inl (h.loc _ v)) (.inr (h.loc _ v))
 ·exact jf6 (by rw[h.hN];exact h.nd) (by rw[h.hN];exact jiF (ba q').1) (.inr (h.cel _ v).1) (.inl (h.cel _ v).2)
theorem HSt.set         (h:HSt X n ea C dx x σ H ς G)(hi:i≠n)(r:RU X.K H u v):HSt X n ea C dx x (σ.set i (some v)) H (ς.set i (some u)) G:=
 ⟨h.sr.set r i,h.hr,by rw[YaW hi];exact h.en,h.xd⟩
theorem HC.asg  (h:HC T X c n ea C dx x)(qi:okN c i=true)(hi:i≠n)(qe:okHV T.cs c e=true) st :
  PS X (jk4 c n i e st) (λD σ H=>∃(ς:Sg) (G:Gp) (k:Sg->Gp->Prop),HSt X n ea C dx x σ H ς G/\hvH x ς e G (λu G1=>k (ς.set i (some u)) G1)/\∀ς' σ' G' H',HSt X n ea C dx x σ' H' ς' G'->Fr H G H' G'->k ς' G'->D.nx σ' H'):=by
 refine PS.imp (jil (h.val qe (q0 st)) (h.store qi) (jiX e _ _ _ _ _).1 (jiX e _ _ _ _ 0).2 rfl) λD σ H ⟨ς,G,k,hs,hv,fin⟩=>?_;exact⟨ς,G,_,hs,hv,λu v G' H' r hr f q=>fin _ _ G' H' ((hs.fr hr f).set hi r) f q⟩
def hS  (X:Cx)(n:Nat)(ea C dx:Addr)(x:XV)(hs:List HS):L2.TS:=λD σ H=>∃ς G k,HSt X n ea C dx x σ H ς G/\hsH x hs ς G k/\∀ς' σ' G' H',HSt X n ea C dx x σ' H' ς' G'->Fr H G H' G'->k ς' G'->D.nx σ' H'
theorem HC.stmts  (h:HC T X c n ea C dx x):∀{hs } (_:hs.all (okHS T.cs c n)=true) sts ,PSs X (jf1 c n hs sts) (hS X n ea C dx x hs)
 |[],_,_=>PSs.imp jf5 λD σ H ⟨ς,G,k,st,q,fin⟩=>fin ς σ G H st (Fr.refl _ _) q
 |.asg i e::r,q,sts=>by
  simp only[Yba,Yah]at q;have q1:(okN c i&&decide (i≠n)&&okHV T.cs c e)=true:=q.1;refine PSs.imp (jeW (h.asg (ba (ba q1).1).1 (of_decide_eq_true (ba (ba q1).1).2) (ba q1).2 (qh sts)) (h.stmts q.2 sts.tail)) λD σ H ⟨ς,G,k,st,hq,fin⟩=>?_;exact⟨ς,G,λς1 G1=>hsH x r ς1 G1 k,st,hq,λς' σ' G' H' st' f q'=>⟨ς',G',k,st',q',λς2 σ2 G2 H2 st2 f2 q2=>fin ς2 σ2 G2 H2 st2 (f.trans f2) q2⟩⟩
 |.ifa kk a as i e::r,q,sts=>by
  simp only[Yba,Yah]at q;have q1:(okHL T.cs c a.2&&jd1 T.cs c as&&okN c i&&decide (i≠n)&&okHV T.cs c e)=true:=q.1;have p1:=jnc (pos:=(qh sts).pos) (h.cond kk a as (q0 (qh sts)) (ba (ba (ba (ba q1).1).1).1).1 (ba (ba (ba (ba q1).1).1).1).2).2 (jlp (h.asg (ba (ba (ba q1).1).1).2 (of_decide_eq_true (ba (ba q1).1).2) (ba q1).2 (qh (qa (qh sts))))) jf5;refine PSs.imp (jeW p1 (h.stmts q.2 sts.tail)) λD σ H ⟨ς,G,k,st,hq,fin⟩=>?_;have nxt:∀ς' σ' G' H',HSt X n ea C dx x σ' H' ς' G'->Fr H G H' G'->hsH x r ς' G' k->hS X n ea C dx x r D σ' H':=λς' σ' G' H' st' f q'=>⟨ς',G',k,st',q',λς2 σ2 G2 H2 st2 f2 q2=>fin ς2 σ2 G2 H2 st2 (f.trans f2) q2⟩;have hq':(match jcE x ς kk a as with|some true=>hvH x ς e G λu G1=>hsH x r (ς.set i (some u)) G1 k|some false=>hsH x r ς G k|none=>False):=hq
  split at hq'
  ·rename_i ec;refine⟨ς,G,true,st,ec,λH' hr f=>?_⟩;refine iteT ?_;exact⟨ς,G,λς1 G1=>hsH x r ς1 G1 k,st.fr hr f,hq',λς' σ' G' H'' st' f' q'=>nxt ς' σ' G' H'' st' (f.trans f') q'⟩
  ·rename_i ec;refine⟨ς,G,false,st,ec,λH' hr f=>?_⟩;refine iteF ?_;exact nxt ς σ G H' (st.fr hr f) f hq'
  lia
end
theorem SR.hide      (h:SR K H ς σ) n o:SR K H (ς.set n none) (σ.set n o):=by
 refine⟨by simp[h.1],λi u e=>?_⟩
 by_cases z:i=n
 ·subst z;rw[List.getElem?_set]at e;simp only[if_true]at e;split at e<;>cases e
 ·rw[YaW (Ne.symm z)]at e ⊢;exact h.2 i u e

theorem s_try  {T: Tab}{sts:List Stmt}(C:Cos T k X c)(hm:decide (m=0)=true)(hg:glo c (clsN m)=true)(hn:decide (n<c.N.length)=true)(hl:kd c (nmA c n) .local=true)(hd1:(nmA c n==("__debug__" : Str))=false)(hd2:(nmA c n==("__classdict__" : Str))=false)
  (hne:hs.isEmpty=false) (hok:hs.all (okHS T.cs c n)=true) (hb:∀pins xe ,Yc8 (model X.prog X.w) X.A X.env xe->PSs (X.tryC pins xe) b (lS (X.tryC pins xe) tb)) :
  PS X (.Try b [.ExceptHandler (some (.Name (clsN m) pt)) (some (nmA c n)) (jf1 c n hs sts) ph] [] [] pos)
   (lS X λD ς G=>tb { D with ex:=λx ς1 G1=>(m=0\/x.c=m)/\hsH x hs (ς1.set n none) G1 λς2 G2=>D.nx (ς2.set n none) G2 } ς G):=by
 intro pins s σ H D I ⟨De,ς,G,hς,hG,h0,ld⟩;obtain⟨s0,sr,hse⟩:∃s0 sr,jf1 c n hs sts=s0::sr:=by
  cases hs with
  |nil=>cases hne
  |cons a r=>exact⟨_,_,rfl⟩
 have nd:X.N.Nodup:=by rw[C.hN];exact C.nd
 have hi:X.N[n]?=some (nmA c n):=C.toCok.nm hn;have hlc:=C.loc _ hl;obtain⟨gl1,gl2⟩:=C.toCok.gl hg
 let XT:Value->Shared->Prop:=λe s₁=>wpAny (model X.prog X.w) X.A (YfL e X.env) (λ_ s₂=>wpAny (model X.prog X.w) X.A (YdX e none) (λ_ s₃=>wpAny (model X.prog X.w) X.A (handleBy e X.env [.ExceptHandler (some (.Name (clsN m) pt)) (some (nmA c n)) (jf1 c n hs sts) ph]) (SP X pins D) X.xe s₃) X.xe s₂) X.xe s₁
 have main:∀(pins':List (Addr×Obj)) (e:Value) (s':Shared) (x:XV) ς' σ' G' H',Inv (X.tryC pins XT) pins' σ' H' s'->SR X.K H' ς' σ'->XAt (X.tryC pins XT) H' s' e x->HR X.K H' G'->Fr H G H' G'->((m=0\/x.c=m)/\hsH x hs (ς'.set n none) G' λς2 G2=>De.nx (ς2.set n none) G2)->XT e s':=by
  intro pins' e s' x ς' σ' G' H' I' sr' xat hr' f' ⟨hmx,hq⟩;obtain⟨ea,C0,dx,rfl,l,xd⟩:=xat;have xd0:=xd;obtain⟨x1,x2,xc,lx,hlx,hnx,rx⟩:=xd0;have I0:Inv (X.tryC pins XT) [] σ' H' s':=I'.pins_of λp hp=>absurd hp (by simp)
  refine jiO (X:=X.tryC pins XT) (E:=X.xe) I0 C.stk.1 C.stk.2 l λh' J l'=>?_;refine wpAny_handleBy_cons ?_ (by intro z;cases z)
  refine codeAny_handlers_test ?_;have J':Inv ((X.tryC pins XT).inH (.ref ea) []) [] σ' H' { s' with heap:=h' }:=J.hIn λq hq=>absurd hq (by simp)
  have fin:∀s2:Shared,s2={ s' with heap:=h' }->codeAny (model X.prog X.w) (X.A.mark (some (.ref ea))) (Code.handlers (.ref ea) [.ExceptHandler none (some (nmA c n)) (jf1 c n hs sts) ph] X.env)
    (λr s₂=>match r with
     |.ok f=>wpAny (model X.prog X.w) X.A (do YeB X.env (nmA c n) .none;unbindBehindTheSuite X.env (nmA c n) ph) (λ_ s₃=>SP X pins D f s₃) X.xe s₂
     |.error y=>cameBackBy (model X.prog X.w) X.A X.env X.xe y s₂) s2:=by
   intro s2 es2;subst es2;rw[hse];refine codeAny_handlers_suite_as ?_;refine jfK (X:=X.tryC pins XT) J l' λh2 J2 l2=>?_;obtain⟨oe,g1,g2,g3,⟨vs,g4⟩,g5⟩:=l2.pinned J2;have J3:Inv ((X.tryC pins XT).inH (.ref ea) [(ea,oe)]) [] σ' H' { s' with heap:=h2 }:=J2.hIn g5
   refine jbm (X:=(X.tryC pins XT).inH (.ref ea) [(ea,oe)]) (v:=.ref ea) J3 nd hi (.inl hlc) rfl (λs3 J4=>?_) (.inr hlc);have hc:HC T ((X.tryC pins XT).inH (.ref ea) [(ea,oe)]) c n ea C0 dx x:=⟨C.hN,C.nd,C.loc,C.cel,C.fre,C.glb,C.blt,C.cls,xc,x1,x2,⟨oe,vs,by simp only[Cx.inH];simp_all,g2,g3,g4⟩,C.mgK,of_decide_eq_true hn,hl,hd1,hd2⟩
   have hσ:n<σ'.length:=by
    have:=J3.len;rw[this];exact(List.getElem?_eq_some_iff.mp hi).1
   have hst:HSt ((X.tryC pins XT).inH (.ref ea) [(ea,oe)]) n ea C0 dx x (σ'.set n (some (.ref ea))) H' (ς'.set n none) G':=⟨sr'.hide n _,hr',by simp_all,xd⟩
   rw[<- hse];refine YaL (hc.stmts hok sts [] s3 _ H' ⟨λσ2 H2=>D.nx (σ2.set n none) H2,λ_ _=>False,λ_ _=>False,λ_ _=>False⟩ J4 ⟨_,G',_,hst,hq,λς2 σ2 G2 H2 st2 f2 q2=>?_⟩) (λfl s4 q4=>?_) λ_ _ z=>Ybz z
   ·exact ld.nx _ _ G2 H2 (st2.sr.hide n none) st2.hr (f'.trans f2) q2
   ·cases fl with
    |next=>
     obtain⟨σ2,H2,J5,q5⟩:=q4;exact jiH (X:=X.tryC pins XT) (J5.hOut J.ok) nd hi hlc λs5 J6=>⟨σ2.set n none,H2,J6.tryOut,q5⟩
    |brk=>obtain⟨_,_,_,z⟩:=q4;lia
    |cont=>obtain⟨_,_,_,z⟩:=q4;lia
    |ret u=>obtain⟨_,_,_,_,_,z⟩:=q4;lia
  obtain⟨oe,vs,he,hcl,_⟩:=l'.ob;by_cases m0:m=0
  ·obtain⟨D0,N0,fI,mN,mD,B,_⟩:=xc.ex;have hmg:X.mg (clsN m)=some (.ref D0):=by rw[m0];exact C.mgK _ _ B.m
   refine jdg J' gl1 hmg ?_ gl2;refine jhI (X:=X) xc B J'.kIn he hcl ?_;exact fin _ rfl
  ·exact absurd (of_decide_eq_true hm) m0
 refine wpAny_Try_except (YaL (hb pins XT YeL [] s σ H ⟨D.nx,D.rt,D.bk,D.ct⟩ I.tryIn ⟨_,ς,G,hς,hG,h0,⟨ld.nx,ld.rt,main⟩⟩) (λfl s1 q1=>?_) λe s1 z=>z);cases fl with
 |next=>
  obtain⟨σ',H',J,q⟩:=q1;exact YcM ⟨σ',H',J.tryOut,q⟩
 |brk=>obtain⟨σ',H',J,q⟩:=q1;exact⟨σ',H',J.tryOut,q⟩
 |cont=>obtain⟨σ',H',J,q⟩:=q1;exact⟨σ',H',J.tryOut,q⟩
 |ret u=>obtain⟨v,σ',H',J,r,q⟩:=q1;exact⟨v,σ',H',J.tryOut,r,q⟩
section
variable {T:Tab}{k:Nat}
theorem jlZ   b:bltN b∈jc6:=by cases b<;>decide
theorem jmJ  : ∀n∈jh3,YbP (Ycc n)=some (.type n)/\Ycc n∈jc6/\Ycc n ≠ "__name__" := by decide +kernel
abbrev SE  (T:Tab)(k:Nat)(X:Cx)(c:Ctx)(ir:E)(h:Expr):Prop:=PE X (unE T c ir h) (lE X (den T.gs (jac T k) ir).1)/\PT X (unE T c ir h) (lT X (den T.gs (jac T k) ir).2)
section
variable {X:Cx}{c:Ctx}
theorem tru    (h:PE X e (lE X t))(hp:∀whole,isTrue e X.env whole=(do let v <- whole;standAt e.pos;holding [v] (truthy v))):PE X e (lE X t)/\PT X e (lT X (truT t)):=⟨h,joL h hp⟩
theorem jm0   {rest:List Expr}(ha:PE X a (lE X p.1)/\PT X a (lT X p.2))(hb:PE X (.BoolOp .And (b::rest) pos) (lE X q.1)/\PW X (.BoolOp .And (b::rest) pos) (lT X q.2)) :
  PE X (.BoolOp .And (a::b::rest) pos) (lE X (comb true p q).1)/\PW X (.BoolOp .And (a::b::rest) pos) (lT X (comb true p q).2):=⟨joX ha.1 hb.1,jmI ha.2 hb.2⟩
theorem jo8   {rest:List Expr}(ha:PE X a (lE X p.1)/\PT X a (lT X p.2))(hb:PE X (.BoolOp .Or (b::rest) pos) (lE X q.1)/\PW X (.BoolOp .Or (b::rest) pos) (lT X q.2)) :
  PE X (.BoolOp .Or (a::b::rest) pos) (lE X (comb false p q).1)/\PW X (.BoolOp .Or (a::b::rest) pos) (lT X (comb false p q).2):=⟨u_or ha.1 hb.1,joM ha.2 hb.2⟩
theorem se_v    (C:Cok T k X c)(q:okE T c (.v i) h=true):SE T k X c (.v i) h:=tru (joH (C.nm (ba (ba (ba q).1).1).1) (C.vis (ba (ba (ba q).1).1).2) (bn (ba (ba q).1).2) (bn (ba q).2)) λ_=>rfl
theorem se_g    (C:Cok T k X c)(q:okE T c (.g n) h=true):SE T k X c (.g n) h:=by
 have h1:=of_decide_eq_true (ba (ba q).1).1;have h2:=of_decide_eq_true (ba (ba q).1).2;have hn:T.gn[n]?=some (T.gn.getD n ""):=by simp_all
 obtain⟨v,w,m,r,ru⟩:=C.gls n _ T.gs[n] hn (by simp[h1])
 obtain⟨g1,g2⟩:=C.gl (ba q).2;refine tru (PE.imp (u_gl (u:=T.gs[n]) g1 m r ru g2) λσ H Q0 ⟨ς,G,Q,E,hς,hG,h,lv,lx⟩=>⟨ς,G,Q,E,hς,hG,?_,lv,lx⟩) λ_=>rfl;have h':glU T.gs n λu=>Q u G:=h;unfold glU at h'
 simp_all
theorem jo7    (C:Cok T k X c)(q:okE T c (.ty n) h=true):SE T k X c (.ty n) h:=by
 obtain⟨g1,g2⟩:=C.gl (ba q).2;obtain⟨t1,t2,t3⟩:=jmJ n (by simpa using (ba q).1)
 exact tru (u_ty g1 (C.blt _ t2) t1 t3 g2) λ_=>rfl
theorem jmW     (h1:PPs X h.pos (unK T c es (dk h)) (unV T c es (cl h)) trs)(h2:lD X (denD T.gs (jac T k) es) trs)(h3:(unK T c es (dk h)).all (·.isSome)=true)(h4:(unK T c es (dk h)).length=(unV T c es (cl h)).length)
  (h5:(unK T c es (dk h)).length<=15):SE T k X c (.dic es) h:=by
 refine tru ?_ λ_=>rfl
 match es,h1,h2,h3,h4,h5 with
 |.nil,_,_,_,_,_=>exact PE.imp jmE λσ H Q0 ⟨ς,G,Q,E,hς,hG,h,lv,lx⟩=>⟨ς,G,Q,E,hς,hG,(show([]:List (Key×U)).length<=15/\newO G (.dK (jcz [])) Q from h).2,lv,lx⟩
 |.cons _ .nil,_,_,_,_,_=>exact λpins s σ H Q0 I ⟨ς,G,Q,E,hς,hG,h,lv,lx⟩=>(show False from h).elim
 |.cons d (.cons f es),h1,h2,h3,h4,h5=>exact joS h1 h2 h3 h4 (λz=>nomatch z) h5
theorem jlk     (C:Cok T k X c)(q:okE T c (.call n es) h=true)(ha:PA X (unEs T c es (cl h)) (lA X (jaw T.gs (jac T k) es))):SE T k X c (.call n es) h:=by
 refine tru ?_ λ_=>rfl;have hn:=of_decide_eq_true (ba (ba q).1).1;have hd':T.funs[n]?=some T.funs[n]:=by simp[hn]
 have hx:T.funs[n].name=fnN T n:=by unfold fnN;rw[hd']
 match es,ha with
 |.nil,_=>exact jk7 C hd' hx (ba (ba q).1).2
 |.cons d es,ha=>exact jmH C hd' hx (ba (ba q).1).2 ha (jai (jav d _) _ _) (jcA es _ _ _).1
theorem jmX     (C:Cok T k X c)(q:okE T c (.blt b es) h=true)(ha:PA X (unEs T c es (cl h)) (lA X (jaw T.gs (jac T k) es))):SE T k X c (.blt b es) h:=by
 refine tru ?_ λ_=>rfl;obtain⟨g1,g2⟩:=C.gl (ba (ba q).1).2
 match es,ha,q with
 |.nil,_,q=>exact absurd (of_decide_eq_true (ba (ba q).1).1) (Ybh 0)
 |.cons d es,ha,_=>exact joU (joz C.room C.calm b) g1 (C.blt _ (jlZ b)) ha (jai (jav d _) _ _) (jcA es _ _ _).1
theorem jlj      (hu:X.A.units+1<cLine)(q:okE T c (.meth m o es) h=true)(ho:PE X (unE T c o (c0 (c0 h))) (lE X (den T.gs (jac T k) o).1))(ha:PA X (unEs T c es (cl h)) (lA X (jaw T.gs (jac T k) es))):SE T k X c (.meth m o es) h:=by
 refine tru ?_ λ_=>rfl;have h6:=(ba q).2;have h5:=of_decide_eq_true (ba (ba q).1).2;have h4:=(ba (ba (ba q).1).1).2
 match es,ha,h5 with
 |.nil,_,_=>exact jk5 (jiK hu m) ho (jgC h6 _ _ _) h4
 |.cons d es,ha,h5=>
  refine jkp (jiK hu m) ho ha (jgC h6 _ _ _) ?_ h4 (jai (jav d _) _ _) (jcA es _ _ _).1;have e:=(jcA (T:=T) (c:=c) (.cons d es) (cl h) X.env h.pos).2;show((backTo h.pos (Yat (unEs T c (.cons d es) (cl h)) X.env)).all (λx=>!x.1)&&_&&decide ((unEs T c (.cons d es) (cl h)).length+0+0<30))=true;rw[e,jh1];exact decide_eq_true h5
theorem jmY    (h:PT X e (lT X (den T.gs (jac T k) d).2)):PIfs X [e] (lT0 X.K (denC T.gs (jac T k) (.cons d .nil))):=by
 refine PIfs.imp (jlw (lT0.of h)) λσ H Q0 ⟨ς,G,Q,h1,h2,h3,h4⟩=>⟨ς,G,λb G'=>Q b G',h1,h2,?_,h4⟩;have h3':(den T.gs (jac T k) d).2 ς G (λb G1=>if b=true then Q true G1 else Q false G1) (λ_ _=>False):=h3
 have e:(λ(b:Bool) (G1:Gp)=>if b=true then Q true G1 else Q false G1)=λb G'=>Q b G':=by
  grind
 lia
theorem jmZ  : PIfs X [] (lT0 X.K (denC T.gs (jac T k) .nil)):=PIfs.imp jlx λσ H Q0 ⟨ς,G,Q,h1,h2,h3,h4⟩=>h4 true G H h2 (Fr.refl _ _) h3
theorem jn8  : ∀es hs ,2*(unK T c es hs).length<=jcm es
 |.nil,_=>Yae _
 |.cons _ .nil,_=>YaK _
 |.cons _ (.cons _ es),hs=>by
  have:=jn8 es hs.tail;show 2*((unK T c es hs.tail).length+1)<=jcm es+1+1
  lia
theorem k_le    (h:jcm es<=30):(unK T c es hs).length<=15:=by
 have:=jn8 (T:=T) (c:=c) es hs
 lia
end
mutual
theorem sE:∀(ir:E) {X:Cx} {c:Ctx} {h:Expr},Cok T k X c->okE T c ir h=true->SE T k X c ir h
 |.v _,_,_,_,C,q=>se_v C q
 |.non,_,_,_,_,_=>tru (jc8 (u:=.non) jnl λ_=>rfl) λ_=>rfl
 |.bl b,_,_,_,_,_=>tru (jc8 (u:=.bl b) jno λ_=>rfl) λ_=>rfl
 |.int i,_,_,_,_,_=>tru (jc8 (u:=.int i) jnn λ_=>rfl) λ_=>rfl
 |.str x,_,_,_,_,_=>tru (jc8 (u:=.str x) jkw λ_=>rfl) λ_=>rfl
 |.g _,_,_,_,C,q=>se_g C q
 |.ty _,_,_,_,C,q=>jo7 C q
 |.bin o a b,_,_,_,C,q=>tru (joV (jnv o) (sE a C (ba q).1).1 (sE b C (ba q).2).1) λ_=>rfl
 |.neg a,_,_,_,C,q=>tru (joO (sE a C q).1) λ_=>rfl
 |.not a,_,_,_,C,q=>⟨joN (sE a C q).1,jmC (sE a C q).2⟩
 |.bop k a es,_,_,h,C,q=>let r:=sB es k C (sE a C (ba q).1) (ba q).2 h.pos;⟨r.1,r.2.pt⟩
 |.cmp o a b,_,_,_,C,q=>⟨joT (jeM C.room o) (sE a C (ba (ba q).1).1).1 (sE b C (ba (ba q).1).2).1 (bn (ba q).2),jmF (jeM C.room o) (sE a C (ba (ba q).1).1).1 (sE b C (ba (ba q).1).2).1 (bn (ba q).2)⟩
 |.cmp2 o p a b d,_,_,_,C,q=>⟨jmG (jeM C.room o) (jeM C.room p) (sE a C (ba (ba (ba q).1).1).1).1 (sE b C (ba (ba (ba q).1).1).2).1 (sE d C (ba (ba q).1).2).1 (bn (ba q).2),
   PT.imp (jk6 (jeM C.room o) (jeM C.room p) (sE a C (ba (ba (ba q).1).1).1).1 (sE b C (ba (ba (ba q).1).1).2).1 (sE d C (ba (ba q).1).2).1 (bn (ba q).2)) λ_ _ _ ⟨ς,G,Q,E,hς,hG,h,lv,lx⟩=>⟨ς,G,Q,E,hς,hG,h,lv,lx⟩⟩
 |.ife t a b,_,_,_,C,q=>⟨joR (sE t C (ba (ba q).1).1).2 (sE a C (ba (ba q).1).2).1 (sE b C (ba q).2).1,jmD (sE t C (ba (ba q).1).1).2 (sE a C (ba (ba q).1).2).2 (sE b C (ba q).2).2⟩
 |.tup es,_,_,_,C,q=>tru (joI (sEs es C q)) λ_=>rfl
 |.lst es,_,_,_,C,q=>tru (joQ (sEs es C q)) λ_=>rfl
 |.dic es,_,_,h,C,q=>let ⟨_,h1,h2,h3,h4⟩:=sD es C h.pos (ba q).1;jmW h1 h2 h3 h4 (k_le (of_decide_eq_true (ba q).2))
 |.ix a b,_,_,_,C,q=>tru (u_ix C.hu (sE a C (ba q).1).1 (sE b C (ba q).2).1 (jmg (jav b _))) λ_=>rfl
 |.sl a lo hi,_,_,_,C,q=>tru (u_sl (sE a C (ba (ba q).1).1).1 (sO lo C (ba (ba q).1).2) (sO hi C (ba q).2)) λ_=>rfl
 |.rev a b,_,_,_,C,q=>tru (jmB (sE a C (ba q).1).1 (sE b C (ba q).2).1) λ_=>rfl
 |.call _ es,_,_,_,C,q=>jlk C q (sEs es C (ba q).2)
 |.app _ _,_,_,_,_,_=>⟨λ_ _ _ _ _ _ ⟨_,_,_,_,_,_,h,_⟩=>(show False from h).elim,λ_ _ _ _ _ _ ⟨_,_,_,_,_,_,h,_⟩=>(show False from h).elim⟩
 |.blt _ es,_,_,_,C,q=>jmX C q (sEs es C (ba q).2)
 |.meth _ o es,_,_,_,C,q=>jlj C.hu q (sE o C (ba (ba (ba (ba q).1).1).1).1).1 (sEs es C (ba (ba (ba (ba q).1).1).1).2)
 |.lc _ t it ifs d,_,_,_,C,q=>let S:=C.comp (ba (ba (ba (ba (ba (ba q).1).1).1).1).1).1
   tru (u_lc C.calm S.1 (sI it t _ _ C (ba (ba (ba (ba q).1).1).1).2).1 (ba (ba (ba (ba (ba (ba q).1).1).1).1).1).2 (λcl A s₀ H₀ fp=>sTg (S.2 cl A s₀ H₀ fp) t _ (ba (ba (ba (ba (ba q).1).1).1).1).2)
    (λcl A s₀ H₀ fp=>sC ifs (S.2 cl A s₀ H₀ fp) (of_decide_eq_true (ba (ba q).1).2) (ba (ba (ba q).1).1).2) (λcl A s₀ H₀ fp=>lE0.of (sE d (S.2 cl A s₀ H₀ fp) (ba q).2).1) (sI it t ⟨[],[]⟩ e0 C (ba (ba (ba (ba q).1).1).1).2).2) λ_=>rfl
 |.mkT d,_,_,_,C,q=>tru (joP (C.gl (ba q).1).1 (C.blt _ (by decide)) (sE d C (ba q).2).1 (jai (jav d _) _ _)) λ_=>rfl
theorem sO:∀(ir:Eo) {X:Cx} {c:Ctx} {h:Expr},Cok T k X c->okO T c ir h=true->PO X (unO T c ir h) (lO X (denO T.gs (jac T k) ir))
 |.no,_,_,_,_,_=>u_no
 |.so d,_,_,_,C,q=>u_so (sE d C q).1
theorem sEs:∀(ir:Es) {X:Cx} {c:Ctx} {hs:List Expr},Cok T k X c->okEs T c ir hs=true->PA X (unEs T c ir hs) (lA X (jaw T.gs (jac T k) ir))
 |.nil,_,_,_,_,_=>jju
 |.cons d ir,_,_,_,C,q=>jgL (sE d C (ba q).1).1 (sEs ir C (ba q).2) (jai (jav d _) _ _)
theorem sB:∀(ir:Es) (b:Bool) {X:Cx} {c:Ctx} {hs:List Expr} {a:Expr} {p:UE×UT},Cok T k X c->PE X a (lE X p.1)/\PT X a (lT X p.2)->okEs T c ir hs=true->∀pos:Pos,
  PE X (.BoolOp (boU b) (a::unEs T c ir hs) pos) (lE X (denB T.gs (jac T k) b p ir).1)/\PW X (.BoolOp (boU b) (a::unEs T c ir hs) pos) (lT X (denB T.gs (jac T k) b p ir).2)
 |.nil,true,_,_,_,_,_,_,ha,_,_=>⟨jgV ha.1,pw_and1 ha.2⟩
 |.nil,false,_,_,_,_,_,_,ha,_,_=>⟨jgV ha.1,pw_or1 ha.2⟩
 |.cons d ir,true,_,_,_,_,_,C,ha,q,pos=>jm0 ha (sB ir true C (sE d C (ba q).1) (ba q).2 pos)
 |.cons d ir,false,_,_,_,_,_,C,ha,q,pos=>jo8 ha (sB ir false C (sE d C (ba q).1) (ba q).2 pos)
theorem sC:∀(ir:Es) {X:Cx} {c:Ctx} {hs:List Expr},Cok T k X c->jcm ir<=1->okEs T c ir hs=true->PIfs X (unEs T c ir hs) (lT0 X.K (denC T.gs (jac T k) ir))
 |.nil,_,_,_,_,_,_=>jmZ
 |.cons d .nil,_,_,_,C,_,q=>jmY (sE d C (ba q).1).2
 |.cons _ (.cons _ es),_,_,_,_,l,_=>absurd l (by show ¬(jcm es+1+1<=1);lia)
theorem sD:∀(ir:Es) {X:Cx} {c:Ctx} {hs gs:List Expr},Cok T k X c->(p:Pos)->okD T c ir hs gs=true->∃trs,PPs X p (unK T c ir hs) (unV T c ir gs) trs/\lD X (denD T.gs (jac T k) ir) trs/\(unK T c ir hs).all (·.isSome)=true/\(unK T c ir hs).length=(unV T c ir gs).length
 |.nil,_,_,_,_,_,_,_=>⟨[],jlt,jn1,rfl,rfl⟩
 |.cons d (.cons f ir),_,_,_,_,C,p,q=>let ⟨_,h1,h2,h3,h4⟩:=sD ir C p (ba q).2;⟨_,jjK (sE d C (ba (ba q).1).1).1 (sE f C (ba (ba q).1).2).1 h1,jl3 h2,h3,congrArg (·+ 1) h4⟩
 |.cons _ .nil,_,_,_,_,_,_,q=>nomatch q
theorem sI:∀(ir:It) (t:Tg) (ct:Ctx) (ht:Expr) {X:Cx} {c:Ctx} {h:Expr},Cok T k X c->okI T c t ir h=true->PI X (unTg ct t ht) (unI T c ir h) (lI X (denI T.gs (jac T k) ir))/\∀x,YaZ (unI T c ir h) X.env x=pure x
 |.e d,_,_,_,_,_,_,C,q=>⟨u_ie (sE d C q).1,jfJ (jav d _) _⟩
 |.r1 d,_,_,_,_,_,_,C,q=>⟨u_r1 (C.gl (ba q).1).1 (C.blt _ (by decide)) (sE d C (ba q).2).1 (jai (jav d _) _ _),λ_=>rfl⟩
end
end

noncomputable def swF  (sb:Bool)(names:List Str)(bk:ScopeKind)(ts vs:List Expr):Sem (Option (List Str)):=
 if (!(ts.length==2||ts.length==3)||vs.length != ts.length||bk != .function)=true then pure none
 else if sb=true then pure none
 else if (names.length != ts.length||names.eraseDups.length != names.length)=true then pure none
 else if vs.all (Yfm 8)=true then pure none
 else if vs.all (constantsAlone 8)=true then do unsupported "assign.tuple-of-constant-expressions:order-of-the-stores";pure (some names)
 else pure (some names)
def jeT  (env:Env)(ts:List Expr):List Str:=ts.filterMap fun
  |.Name id pos=>if env.kindOf id==some .local&&pos.line==jku ts then some id else none
  |_=>none
theorem jmO     : Ybe [.Tuple ts a p] (.Tuple vs b q) env=swF (vs.any jg8) (jeT env ts) env.blockKind ts vs:=by
 have e1:jg8=fun|.Starred ..=>true|_=>false:=by funext e;cases e<;>rfl
 with_unfolding_all rfl
theorem jgP  (hk:∀x,env.kindOf x=c.sc.lookup x) ts:jeT env ts=jao c ts:=by
 unfold jao jeT;congr 1;funext e;cases e<;>first|rfl|(dsimp only;rw[hk])
theorem jia  (hk:∀x,env.kindOf x=c.sc.lookup x)(hb:env.blockKind=.function)(h:jde c ts vs=true):Ybe [.Tuple ts a p] (.Tuple vs b q) env=pure none:=by
 rw[jmO,jgP hk,hb];unfold swF;unfold jde at h;by_cases h1:(!(ts.length==2||ts.length==3)||vs.length != ts.length)=true
 ·rw[if_pos (by rw[h1];rfl)]
 ·have h1':(!(ts.length==2||ts.length==3)||vs.length != ts.length)=false:=by simpa using h1
  rw[h1']at h;rw[if_neg (by rw[h1'];decide)]
  simp only[YdC,Yah,Yb2]at h;obtain⟨h2,h3⟩:=h;rw[if_neg (by rw[h2];decide)]
  by_cases h4:((jao c ts).length != ts.length||(jao c ts).eraseDups.length != (jao c ts).length)=true
  ·rw[if_pos h4]
  ·rw[if_neg h4];have h4':((jao c ts).length != ts.length||(jao c ts).eraseDups.length != (jao c ts).length)=false:=by simpa using h4
   rw[h4']at h3;rw[if_pos (by simpa using h3)]
theorem jh9  (hk:∀x,env.kindOf x=c.sc.lookup x)(hb:env.blockKind=.function)(h:swapped c ts vs=true):Ybe [.Tuple ts a p] (.Tuple vs b q) env=pure (some (jao c ts)):=by
 rw[jmO,jgP hk,hb];unfold swF;unfold swapped at h;simp only[Yah,Yb2]at h;obtain⟨⟨⟨⟨⟨⟨h1,h2⟩,h3⟩,h4⟩,h5⟩,h6⟩,h7⟩:=h;have e1:(!(ts.length==2||ts.length==3)||vs.length != ts.length||(YeC != YeC))=false:=by
  have:(vs.length != ts.length)=false:=by simpa using h2
  rw[h1,this];rfl
 rw[if_neg (by rw[e1];decide),if_neg (by rw[h3];decide)]
 have e2:((jao c ts).length != ts.length||(jao c ts).eraseDups.length != (jao c ts).length)=false:=by
  have z1:((jao c ts).length != ts.length)=false:=by simpa using h4
  have z2:((jao c ts).eraseDups.length != (jao c ts).length)=false:=by simpa using h5
  rw[z1,z2];rfl
 rw[if_neg (by rw[e2];decide),if_neg (by rw[h6];decide),if_neg (by rw[h7];decide)]
theorem jjw  (hk:∀x,env.kindOf x=c.sc.lookup x)(hb:env.blockKind=.function)(h:lcSw c y py p s=true) :
  Ycd (.ListComp elt gs s p) (some (.Name y py)) l env=pure true:=by
 unfold lcSw at h;simp only[Yah]at h;unfold Ycd;dsimp only;show(pure (env.blockKind == .function&&env.kindOf y==some .local&&py.line==p.line && !(s.names.any λ(n,k)=>n==y&&(k == .local||k == .cell))):Sem Bool)=pure true
 grind
theorem jjv  {c: Ctx}(hk:∀x,env.kindOf x=c.sc.lookup x)(h:(c.sc.lookup y==some .local)=false) :
  Ybx [.Name y py] (.ListComp elt gs s p) l env=pure false:=by
 show(pure (env.blockKind == .function&&env.kindOf y==some .local&&py.line==p.line && !(s.names.any λ(n,k)=>n==y&&(k == .local||k == .cell))):Sem Bool)=pure false
 grind
section
variable {T:Tab}{k:Nat}
theorem Cos.kindOf    (C:Cos T k X c):∀x,X.env.kindOf x=c.sc.lookup x:=λx=>by
 unfold Env.kindOf;rw[C.sc]
theorem Cos.block    (C:Cos T k X c):X.env.blockKind=.function:=by
 unfold Env.blockKind;rw[C.kind];rfl
theorem jkA   : ∀(is:List Nat) hs ,(unNs c is hs).length=is.length
 |[],_=>rfl
 |_::is,hs=>congrArg (·+ 1) (jkA is hs.tail)
theorem sw2     (h:(jao c [.Name x p,.Name y q]).length=2):jao c [.Name x p,.Name y q]=[x,y]:=by
 unfold jao at h ⊢;simp only[YcC,List.filterMap_nil]at h ⊢;split at h<;>split at h<;>simp_all

theorem jmS     (C:Cos T k X c)(q:okS T c (.asg t d) h=true)(hs:PE X (unE T c d (q0 h)) (lE X (den T.gs (jac T k) d).1)):PS X (unS T c (.asg t d) h) (lS X (denS T.gs (jac T k) (.asg t d))):=by
 have hg:=sTg C.toCok t (q1 h) (ba (ba q).1).2;have q3:=(ba q).2;have fin:Ybx [unTg c t (q1 h)] (unE T c d (q0 h)) h.pos.line X.env=pure false/\Ybe [unTg c t (q1 h)] (unE T c d (q0 h)) X.env=pure none:=by
  cases t with
  |n i=>
   refine⟨?_,joG d _ _ _ _⟩;by_cases hl:isLc d=true
   ·cases d with
    |lc=>exact jjv C.kindOf (bn q3)
    |_=>cases hl
   ·exact jk0 (by lia) _ _ _ _
  |t ts=>
   cases d with
   |lc=>cases q3
   |tup es=>exact⟨rfl,jia C.kindOf C.block q3⟩
   |_=>exact⟨rfl,rfl⟩
 exact s_asg hs hg fin.1 fin.2 (jk2 t _ _)
theorem jmR     (C:Cos T k X c)(q:okS T c (.par is es) h=true)(ha:PA X (unEs T c es (cl (q0 h))) (lA X (jaw T.gs (jac T k) es))):PS X (unS T c (.par is es) h) (lS X (denS T.gs (jac T k) (.par is es))):=by
 have h3:=(ba (ba q).1).2;have h2:=(ba (ba (ba q).1).1).2;have hsw:=jh9 (a:=kk (q1 h)) (b:=kk (q0 h)) (p:=(q1 h).pos) (q:=(q0 h).pos) C.kindOf C.block h3;unfold swapped at h3;simp only[Yah,YbB,beq_iff_eq]at h3;obtain⟨⟨⟨⟨⟨⟨_,l2⟩,_⟩,l4⟩,_⟩,_⟩,_⟩:=h3;rw[jh1,jkA]at l2;have l1:is.length=2:=of_decide_eq_true (ba q).2;have nd:X.N.Nodup:=by rw[C.hN];exact C.nd
 match is,es,l1,l2,l4,hsw,h2,ha with
 |[i,j],.cons a (.cons b .nil),_,_,l4,hsw,h2,ha=>
  have u1:=ba h2;have u2:=ba u1.2;refine s_par2 C.calm nd (C.nm (ba (ba u1.1).1).1) (C.nm (ba (ba u2.1).1).1) (by simp_all) (C.loc _ (ba (ba u1.1).1).2) (C.loc _ (ba (ba u2.1).1).2) ha ?_ rfl
  rw[<- sw2 l4];exact hsw
 |[],_,l1,_,_,_,_,_=>exact absurd l1 (by simp)
 |[_],_,l1,_,_,_,_,_=>exact absurd l1 (by simp)
 |_::_::_::_,_,l1,_,_,_,_,_=>exact absurd l1 (by simp)
 |[_,_],.nil,_,l2,_,_,_,_=>exact absurd l2 (by simp[jcm])
 |[_,_],.cons _ .nil,_,l2,_,_,_,_=>exact absurd l2 (by simp[jcm])
 |[_,_],.cons _ (.cons _ (.cons _ _)),_,l2,_,_,_,_=>exact absurd l2 (by simp[jcm])
theorem jlc     (C:Cos T k X c)(q:okS T c (.asgC i d) h=true):PS X (unS T c (.asgC i d) h) (lS X (denS T.gs (jac T k) (.asgC i d))):=by
 have qd:=(ba (ba (ba q).1).1);have hl:=(ba q).2;have hi:=C.nm (ba (ba q).1).2;have hy:=eq_of_beq (ba (ba hl).1).1;cases d with
 |lc pick t it ifs d=>
  have q1':=qd.2;have S:=C.toCok.comp (ba (ba (ba (ba (ba (ba q1').1).1).1).1).1).1;exact s_lc (by rw[C.hN];exact C.nd) hi (by rw[C.sc];exact hy) C.calm S.1 (sI it t _ _ C.toCok (ba (ba (ba (ba q1').1).1).1).2).1 (ba (ba (ba (ba (ba (ba q1').1).1).1).1).1).2
   (λcl A s₀ H₀ fp=>sTg (S.2 cl A s₀ H₀ fp) t _ (ba (ba (ba (ba (ba q1').1).1).1).1).2) (λcl A s₀ H₀ fp=>sC ifs (S.2 cl A s₀ H₀ fp) (of_decide_eq_true (ba (ba q1').1).2) (ba (ba (ba q1').1).1).2)
   (λcl A s₀ H₀ fp=>lE0.of (sE d (S.2 cl A s₀ H₀ fp) (ba q1').2).1) (jjw C.kindOf C.block hl) (jk1 it _ _)
 |_=>cases qd.1
theorem jjy     (C:Cos T k X c)(q:okS T c (.raise n es) h=true):PS X (unS T c (.raise n es) h) (lS X (denS T.gs (jac T k) (.raise n es))):=by
 have q':(okC T.cs c n&&decide (0<jcm es)&&okEs T c es (cl (qr h)))=true:=q
 match es,q' with
 |.nil,q'=>exact absurd (of_decide_eq_true (ba (ba q').1).2) (Ybh 0)
 |.cons d es,q'=>exact s_raise C.toCok (ba (ba q').1).1 (sEs (.cons d es) C.toCok (ba q').2) (jai (jav d _) _ _) (jcA es _ _ _).1
theorem Cos.tryC    (C:Cos T k X c)(po:Yc8 (model X.prog X.w) X.A X.env xe):Cos T k (X.tryC pins xe) c:=
 ⟨⟨C.hN,C.nd,C.loc,C.cel,C.fre,C.glb,C.room,C.calm,po,C.blt,C.fns,C.gls,C.room2,C.cls,C.mgK⟩,C.sc,C.kind,C.stk⟩
mutual
theorem sS:∀(ir:S) {X:Cx} {c:Ctx} {h:Stmt},Cos T k X c->okS T c ir h=true->PS X (unS T c ir h) (lS X (denS T.gs (jac T k) ir))
 |.expr d,_,_,_,C,q=>s_expr (sE d C.toCok (ba q).1).1 (jk3 (bn (ba q).2) _ _ _)
 |.asg _ d,_,_,_,C,q=>jmS C q (sE d C.toCok (ba (ba q).1).1).1
 |.asgC _ _,_,_,_,C,q=>jlc C q
 |.setS o i d,_,_,_,C,q=>s_set C.toCok.hu (sE d C.toCok (ba (ba q).1).1).1 (sE o C.toCok (ba (ba q).1).2).1 (sE i C.toCok (ba q).2).1 (jko d _ _ _ _ _ _).1 (jko d _ _ _ _ _ 0).2 rfl (jj8 (jav i _) _ _)
 |.par _ es,_,_,_,C,q=>jmR C q (sEs es C.toCok (ba (ba (ba q).1).1).1)
 |.aug _ _ d,_,_,_,C,q=>let s:=C.toCok.store (ba (ba q).1).2;s_aug (by rw[C.hN];exact C.nd) (C.nm (ba (ba q).1).1) s.1 s.2 (sE d C.toCok (ba q).2).1
 |.ite t a b,_,_,_,C,q=>s_if (sE t C.toCok (ba (ba q).1).1).2 (sSs a C (ba (ba q).1).2) (sSs b C (ba q).2)
 |.fr t it b,_,_,_,C,q=>s_for C.po C.calm (sI it t _ _ C.toCok (ba (ba q).1).2).1 (sTg C.toCok t _ (ba (ba q).1).1) (sSs b C (ba q).2) (sI it t ⟨[],[]⟩ e0 C.toCok (ba (ba q).1).2).2
 |.wh t b,_,_,_,C,q=>s_wh C.po (sE t C.toCok (ba q).1).2 (sSs b C (ba q).2)
 |.ret d,_,_,_,C,q=>s_ret (sE d C.toCok q).1
 |.raise _ _,_,_,_,C,q=>jjy C q
 |.tr b _ _ _,_,_,_,C,q=>s_try C (ba (ba (ba (ba (ba (ba (ba (ba q).1).1).1).1).1).1).1).2 (ba (ba (ba (ba (ba (ba (ba q).1).1).1).1).1).1).2 (ba (ba (ba (ba (ba (ba q).1).1).1).1).1).2 (ba (ba (ba (ba (ba q).1).1).1).1).2 (bn (ba (ba (ba (ba q).1).1).1).2) (bn (ba (ba (ba q).1).1).2) (bn (ba (ba q).1).2) (ba q).2
   λ_ _ po=>sSs b (C.tryC po) (ba (ba (ba (ba (ba (ba (ba (ba q).1).1).1).1).1).1).1).1
theorem sSs:∀(ir:Ss) {X:Cx} {c:Ctx} {hs:List Stmt},Cos T k X c->okSs T c ir hs=true->PSs X (unSs T c ir hs) (lS X (jam T.gs (jac T k) ir))
 |.nil,_,_,_,_,_=>s_nil
 |.cons s r,_,_,_,C,q=>s_cons (t:=denS T.gs (jac T k) s) (u:=jam T.gs (jac T k) r) (sS s C (ba q).1) (sSs r C (ba q).2)
end
end
section
variable {T:Tab}{k:Nat}{X:Cx}{c:Ctx}
structure CloU (X:Cx)(f:Addr)(Ψ:List U->Gp->K1->KX->Prop):Prop where
 fn:∀(pins:List (Addr×Obj)) (σ:St) (H:Hp) (s:Shared),Inv X pins σ H s->PySem.W.FnAt f s.heap
 run:∀(pins:List (Addr×Obj)) (σ:St) (H:Hp) (s:Shared) (us:List Value) (vs:List V) (Q0:VK) (E0:XK),Inv X pins σ H s->Vals vs us->lSp X.K Ψ vs H Q0 E0->
  codeAny (model X.prog X.w) X.A (.call (.ref f) ⟨us,[]⟩) (CR (CX1 X.prog X.w) X.stack X.prog X.w H s Q0 E0) s
def appD  (i:Nat)(f:Addr)(Ψ:List U->Gp->K1->KX->Prop)(ts:UA):UE:=λς G Q E=>slot ς i λu=>u=.loc f/\ts ς G (λus G1=>Ψ us G1 Q E) E
theorem jb0     (h:slot ς i φ):∃u,ς[i]?=some (some u)/\φ u:=by
 unfold slot at h
 grind
theorem joW          (A:CloU X f Ψ)(hN:X.N[i]?=some x)(hv:Vis X.env.scope x)(hd:(x==("__debug__" : Str))=false)(hcd:(x==("__classdict__" : Str))=false)
  (ha:PA X (e::es) (lA X ts)) (he:Yat (e::es) X.env=(false,eval e X.env)::Yat es X.env) (hpl:(backTo pos (Yat es X.env)).any (·.1)=false) :
  PE X (.Call (.Name x p) (e::es) [] pos) (lE X (appD i f Ψ ts)):=by
 intro pins s σ H Q0 I ⟨ς,G,Q,E,hς,hG,h,lv,lx⟩;obtain⟨u,hu,rfl,h⟩:=jb0 h;obtain⟨v,ev,rv⟩:=hς.2 i _ hu;obtain rfl:v=.ref f:=rv;refine Ybw (thn (jb2 hN hv hd hcd pins s σ H (λv' H'=>v'=.ref f/\H'=H) I ⟨_,ev,rfl,rfl⟩) λu0 s0 ⟨v0,H0,I0,r0,e1,e2⟩=>?_);subst e1;subst e2;obtain rfl:u0=YaP f:=r0;have h':lA X ts σ H0 λvs H1=>lSp X.K Ψ vs H1 Q0 (EB X σ):=⟨ς,G,_,E,hς,hG,h,λus vs G1 H1 rs hG1 f1 h1=>⟨us,G1,Q,E,rs,hG1,h1,lv.fr f1,λx G' H' C dx xd hr f q pins ea s' I' l=>(lx.fr f1) pins (.ref ea) s' x G' H' I' ⟨ea,C,dx,rfl,l,xd⟩ hr f q⟩,lx⟩;refine PySem.W.callWith_F (first:=[]) (A.fn pins σ H0 s0 I0) (thn (ha pos pins s0 σ H0 _ I0 h') λus s1 ⟨vs,H1,I1,r,q⟩=>⟨A.fn pins σ H1 s1 I1,?_⟩) he hpl
 refine Yee (YcZ (A.run pins σ H1 s1 us vs Q0 (EB X σ) I1 r q) λr s' hq=>?_);cases r with
 |error e=>
  obtain⟨ea,H',cls,dx,rfl,I',l,q⟩:=CX1.back I1 hq;exact q pins ea s' I' l
 |ok fl=>
  cases fl with
  |ret u=>exact I1.after hq
  |next=>exact Ybz hq
  |brk=>exact Ybz hq
  |cont=>exact Ybz hq
noncomputable abbrev es2  (a b:Nat):Es:=.cons (.v a) (.cons (.v b) .nil)
abbrev ltS1  (w:Nat):S:=.asg (.n w) (.lst (.cons (.tup (es2 0 1)) .nil))
noncomputable abbrev ltA  (w n:Nat):S:=.asg (.t (.cons (.n n) (.cons (.n (n+1)) .nil))) (.meth .pop (.v w) .nil)
abbrev ltC  (a d:Nat):S:=.ite (.cmp .IsNot (.v d) .non) (.cons (.raise 1 (es2 d a)) .nil) .nil
abbrev irB  : S:=.asg (.n 8) (.app 2 (es2 7 6))
abbrev irE  : S:=.expr (.meth .extend (.v 4) (.cons (.rev (.app 3 (es2 7 6)) (.neg (.int 1))) .nil))
abbrev irW  : Ss:=.cons (ltA 4 6) (.cons irB (.cons (ltC 5 8) (.cons irE (.cons (.aug 5 .Add (.int 1)) .nil))))
def irLT  : Ss:=.cons (ltS1 4) (.cons (.asg (.n 5) (.int 0)) (.cons (.wh (.v 4) irW) (.cons (.ret (.bl true)) .nil)))
def sq  (t u:US):US:=λD ς G=>t { D with nx:=λς' G'=>u D ς' G' } ς G
def sqN  : US:=λD ς G=>D.nx ς G
section
variable (gs:List U)(Δ:Cl)(f g:Addr)(Ψ Φ:List U->Gp->K1->KX->Prop)
def ltBD:US:=λD ς G=>appD 2 f Ψ (jaw gs Δ (es2 7 6)) ς G (λu G1=>tgU (.n 8) u ς λς'=>D.nx ς' G1) λx G1=>D.ex x ς G1
def ltEE:UE:=λς G Q X=>(den gs Δ (.v 4)).1 ς G (λx G1=>match mtU .extend x G1 with
 |some _=>appD 3 g Φ (jaw gs Δ (es2 7 6)) ς G1 (λz G2=>(den gs Δ (.neg (.int 1))).1 ς G2 (λy G3=>revU z y G3 λr G4=>jaW .extend x [r] G4 Q) X) X
 |none=>False) X
def ltED:US:=λD ς G=>ltEE gs Δ g Φ ς G (λ_ G1=>D.nx ς G1) λx G1=>D.ex x ς G1
def ltL:US:=sq (denS gs Δ (ltA 4 6)) (sq (ltBD gs Δ f Ψ) (sq (denS gs Δ (ltC 5 8)) (sq (ltED gs Δ g Φ) (sq (denS gs Δ (.aug 5 .Add (.int 1))) sqN))))
def ltW:US:=λD ς G=>∃W:Nat->Sg->Gp->Prop,(∃m,W m ς G)/\∀m ς1 G1,W m ς1 G1->
 (den gs Δ (.v 4)).2 ς1 G1 (λt G2=>if t=true then ltL gs Δ f g Ψ Φ { D with nx:=λς' G'=>∃m',m'<m/\W m' ς' G' } ς1 G2 else D.nx ς1 G2) λx G1=>D.ex x ς1 G1
def ltD:US:=sq (denS gs Δ (ltS1 4)) (sq (denS gs Δ (.asg (.n 5) (.int 0))) (sq (ltW gs Δ f g Ψ Φ) (jam gs Δ (.cons (.ret (.bl true)) .nil))))
end
theorem s_sq   {rest:List Stmt}(h1:PS X st (lS X t))(h2:PSs X rest (lS X u)):PSs X (st::rest) (lS X (sq t u)):=s_cons (t:=t) (u:=u) h1 h2
theorem s_sqN  : PSs X [] (lS X sqN):=s_nil
theorem jkE      (C:Cok T k X c)(A:CloU X f Ψ)(q:okE T c (.app i (es2 a b)) h=true):PE X (unE T c (.app i (es2 a b)) h) (lE X (appD i f Ψ (jaw T.gs (jac T k) (es2 a b)))):=
 joW (p:=(c0 h).pos) (pos:=h.pos) A (C.nm (ba (ba (ba (ba q).1).1).1).1) (C.vis (ba (ba (ba (ba q).1).1).1).2) (bn (ba (ba (ba q).1).1).2) (bn (ba (ba q).1).2) (sEs (T:=T) (k:=k) (es2 a b) C (ba q).2) (jai (jav (.v a) _) _ _) (jcA (.cons (.v b) .nil) _ _ _).1
theorem jl1     (C:Cos T k X c)(A:CloU X f Ψ)(B:CloU X g Φ)(q:okSs T c irLT hs=true):PSs X (unSs T c irLT hs) (lS X (ltD T.gs (jac T k) f g Ψ Φ)):=by
 have qr1:=(ba q).2;have qr2:=(ba qr1).2;have qw:=(ba qr2).1;have qA:=(ba qw).2;have q2:=(ba qA).2;have q3:=(ba q2).2;have q4:=(ba q3).2;have hB:PS X (unS T c irB (qh (qa (qh hs.tail.tail)).tail)) (lS X (ltBD T.gs (jac T k) f Ψ)):=by
  have qB:=(ba q2).1;exact s_asg (jkE C.toCok A (ba (ba qB).1).1) (sTg C.toCok (.n 8) _ (ba (ba qB).1).2) rfl rfl rfl
 have hE:PS X (unS T c irE (qh (qa (qh hs.tail.tail)).tail.tail.tail)) (lS X (ltED T.gs (jac T k) g Φ)):=by
  have qE:=(ba q4).1;have qm:=(ba qE).1;have h6:=(ba qm).2;have h4:=(ba (ba (ba qm).1).1).2;have qo:=(ba (ba (ba (ba qm).1).1).1).1;have qs:=(ba (ba (ba (ba (ba qm).1).1).1).2).1;exact s_expr (jkp (jiK C.toCok.hu .extend) (sE (.v 4) C.toCok qo).1 (jgL (jmB (jkE C.toCok B (ba qs).1) (sE (.neg (.int 1)) C.toCok (ba qs).2).1) jju (jai (jav (.rev (.app 3 (es2 7 6)) (.neg (.int 1))) _) _ _)) (jgC h6 _ _ _) rfl h4 (jai (jav (.rev (.app 3 (es2 7 6)) (.neg (.int 1))) _) _ _) rfl) rfl
 have hb:PSs X (unSs T c irW (qa (qh hs.tail.tail))) (lS X (ltL T.gs (jac T k) f g Ψ Φ)):=
  s_sq (sS (ltA 4 6) C (ba qA).1) (s_sq hB (s_sq (sS (ltC 5 8) C (ba q3).1) (s_sq hE (s_sq (sS (.aug 5 .Add (.int 1)) C (ba (ba q4).2).1) s_sqN))))
 have hw:PS X (unS T c (.wh (.v 4) irW) (qh hs.tail.tail)) (lS X (ltW T.gs (jac T k) f g Ψ Φ)):=s_wh C.po (sE (.v 4) C.toCok (ba qw).1).2 hb;exact s_sq (sS (ltS1 4) C (ba q).1) (s_sq (sS (.asg (.n 5) (.int 0)) C (ba qr1).1) (s_sq hw (sSs (.cons (.ret (.bl true)) .nil) C (ba qr2).2)))
end
noncomputable def vsE  : Nat->Nat->Es
 |_,0=>.nil
 |i,n+1=>.cons (.v i) (vsE (i+1) n)
abbrev ltVe  (si:Nat):S:=.expr (.meth .extend (.v 2) (.cons (.rev (.call si (es2 5 4)) (.neg (.int 1))) .nil))
def ltVw  (m fi si:Nat):Ss:=.cons (ltA 2 4) (.cons (.asg (.n 6) (.call fi (.cons (.v 5) (.cons (.v 4) (vsE 7 m))))) (.cons (ltC 3 6) (.cons (ltVe si) (.cons (.aug 3 .Add (.int 1)) .nil))))
def ltV  (m fi si:Nat):Ss:=.cons (ltS1 2) (.cons (.asg (.n 3) (.int 0)) (.cons (.wh (.v 2) (ltVw m fi si)) (.cons (.ret (.bl true)) .nil)))
section
variable {gs:List U}{Δ Δ':Cl}
theorem jle      (e:ς[i]?=some (some u)):slot ς i φ=φ u:=by unfold slot;rw[e]
theorem jkn     : ∀{cs } {i } {Q },(∀j u,cs[j]?=some u->ς[i+j]?=some (some u))->jaw gs Δ (vsE i cs.length) ς G Q X=Q cs G
 |[],_,_,_=>rfl
 |u::cs,i,Q,e=>by
  show(slot ς i λx=>jaw gs Δ (vsE (i+1) cs.length) ς G (λxs G2=>Q (x::xs) G2) X)=_;rw[jle (show ς[i]?=some (some u)from e 0 u rfl)];exact jkn (λj v hj=>by rw[show i+1+j=i+(j+1) by lia];simp_all)
noncomputable def mkv  (th st w a:U)(n h d:Option U)(cs:List U):Sg:=some th::some st::some w::some a::n::h::d::cs.map some
noncomputable def mka  (th st:U)(f g:Addr)(w a:U)(n h d:Option U):Sg:=[some th,some st,some (.loc f),some (.loc g),some w,some a,n,h,d]
theorem jpy      j u (e:cs[j]?=some u):(mkv th st w a n h d cs)[7+j]?=some (some u):=by
 show(some th::some st::some w::some a::n::h::d::cs.map some)[7+j]?=_;rw[show 7+j=j+1+1+1+1+1+1+1 by lia]
 simp only[YeE,YaN,e];rfl

theorem jl0  {ex: KX}(hk:∀w a x y d G,nv (mkv th st w a (some x) (some y) (some d) cs) G=na (mka th st f g w a (some x) (some y) (some d)) G) :
  jam gs Δ (ltVw cs.length fi si) ⟨nv,rt,λx _ G'=>ex x G'⟩ (mkv th st w a n h d cs) G=ltL gs Δ' f g (λus G Q E=>Δ fi (us++cs) G Q E) (λus G Q E=>Δ si us G Q E) ⟨na,rt,λx _ G'=>ex x G'⟩ (mka th st f g w a n' h' d') G:=by
 have eF:∀x y d G,jam gs Δ (.cons (.aug 3 .Add (.int 1)) .nil) ⟨nv,rt,λx _ G'=>ex x G'⟩ (mkv th st w a (some x) (some y) (some d) cs) G=sq (denS gs Δ' (.aug 5 .Add (.int 1))) sqN ⟨na,rt,λx _ G'=>ex x G'⟩ (mka th st f g w a (some x) (some y) (some d)) G:=λx y d G=>by
  show(jgo .Add a (.int 1) G λz G2=>nv (mkv th st w z (some x) (some y) (some d) cs) G2)=(jgo .Add a (.int 1) G λz G2=>na (mka th st f g w z (some x) (some y) (some d)) G2);exact congrArg (jgo .Add a (.int 1) G) (funext λz=>funext λG2=>hk w z x y d G2)
 have eE:∀x y d G,jam gs Δ (.cons (ltVe si) (.cons (.aug 3 .Add (.int 1)) .nil)) ⟨nv,rt,λx _ G'=>ex x G'⟩ (mkv th st w a (some x) (some y) (some d) cs) G =
   sq (ltED gs Δ' g λus G Q E=>Δ si us G Q E) (sq (denS gs Δ' (.aug 5 .Add (.int 1))) sqN) ⟨na,rt,λx _ G'=>ex x G'⟩ (mka th st f g w a (some x) (some y) (some d)) G:=λx y d G=>by
  show(match mtU .extend w G with
   |some _=>Δ si [y,x] G (λz G2=>negU (.int 1) G2 λo G3=>revU z o G3 λr G4=>jaW .extend w [r] G4 λ_ G5=>jam gs Δ (.cons (.aug 3 .Add (.int 1)) .nil) ⟨nv,rt,λx _ G'=>ex x G'⟩ (mkv th st w a (some x) (some y) (some d) cs) G5) ex
   |none=>False)=(match mtU .extend w G with
   |some _=>U.loc g=.loc g/\Δ si [y,x] G (λz G2=>negU (.int 1) G2 λo G3=>revU z o G3 λr G4=>jaW .extend w [r] G4 λ_ G5=>sq (denS gs Δ' (.aug 5 .Add (.int 1))) sqN ⟨na,rt,λx _ G'=>ex x G'⟩ (mka th st f g w a (some x) (some y) (some d)) G5) ex
   |none=>False)
  simp only[eF,true_and]
 have eC:∀x y d G,jam gs Δ (.cons (ltC 3 6) (.cons (ltVe si) (.cons (.aug 3 .Add (.int 1)) .nil))) ⟨nv,rt,λx _ G'=>ex x G'⟩ (mkv th st w a (some x) (some y) (some d) cs) G =
   sq (denS gs Δ' (ltC 5 8)) (sq (ltED gs Δ' g λus G Q E=>Δ si us G Q E) (sq (denS gs Δ' (.aug 5 .Add (.int 1))) sqN)) ⟨na,rt,λx _ G'=>ex x G'⟩ (mka th st f g w a (some x) (some y) (some d)) G:=λx y d G=>by
  show(cmpU .IsNot d .non G λc=>truU (.bl c) G λt=>if t=true then ([d,a].length=(clsF 1).length/\ex ⟨1,[d,a]⟩ G) else jam gs Δ (.cons (ltVe si) (.cons (.aug 3 .Add (.int 1)) .nil)) ⟨nv,rt,λx _ G'=>ex x G'⟩ (mkv th st w a (some x) (some y) (some d) cs) G) =
   (cmpU .IsNot d .non G λc=>truU (.bl c) G λt=>if t=true then ([d,a].length=(clsF 1).length/\ex ⟨1,[d,a]⟩ G) else sq (ltED gs Δ' g λus G Q E=>Δ si us G Q E) (sq (denS gs Δ' (.aug 5 .Add (.int 1))) sqN) ⟨na,rt,λx _ G'=>ex x G'⟩ (mka th st f g w a (some x) (some y) (some d)) G)
  simp only[eE]
 have eB:∀x y d G,jam gs Δ (.cons (.asg (.n 6) (.call fi (.cons (.v 5) (.cons (.v 4) (vsE 7 cs.length))))) (.cons (ltC 3 6) (.cons (ltVe si) (.cons (.aug 3 .Add (.int 1)) .nil)))) ⟨nv,rt,λx _ G'=>ex x G'⟩ (mkv th st w a (some x) (some y) d cs) G =
   sq (ltBD gs Δ' f λus G Q E=>Δ fi (us++cs) G Q E) (sq (denS gs Δ' (ltC 5 8)) (sq (ltED gs Δ' g λus G Q E=>Δ si us G Q E) (sq (denS gs Δ' (.aug 5 .Add (.int 1))) sqN))) ⟨na,rt,λx _ G'=>ex x G'⟩ (mka th st f g w a (some x) (some y) d') G:=λx y d G=>by
  show(jaw gs Δ (vsE 7 cs.length) (mkv th st w a (some x) (some y) d cs) G (λzs G1=>Δ fi (y::x::zs) G1 (λu G2=>jam gs Δ (.cons (ltC 3 6) (.cons (ltVe si) (.cons (.aug 3 .Add (.int 1)) .nil))) ⟨nv,rt,λx _ G'=>ex x G'⟩ (mkv th st w a (some x) (some y) (some u) cs) G2) ex) ex) =
   (U.loc f=.loc f/\Δ fi ([y,x]++cs) G (λu G2=>sq (denS gs Δ' (ltC 5 8)) (sq (ltED gs Δ' g λus G Q E=>Δ si us G Q E) (sq (denS gs Δ' (.aug 5 .Add (.int 1))) sqN)) ⟨na,rt,λx _ G'=>ex x G'⟩ (mka th st f g w a (some x) (some y) (some u)) G2) ex)
  rw[jkn jpy];simp only[eC,true_and];rfl
 show(match mtU .pop w G with
  |some _=>jaW .pop w [] G λu G1=>tgU (.t (.cons (.n 4) (.cons (.n 5) .nil))) u (mkv th st w a n h d cs) λς'=>jam gs Δ (.cons (.asg (.n 6) (.call fi (.cons (.v 5) (.cons (.v 4) (vsE 7 cs.length))))) (.cons (ltC 3 6) (.cons (ltVe si) (.cons (.aug 3 .Add (.int 1)) .nil)))) ⟨nv,rt,λx _ G'=>ex x G'⟩ ς' G1
  |none=>False)=(match mtU .pop w G with
  |some _=>jaW .pop w [] G λu G1=>tgU (.t (.cons (.n 6) (.cons (.n 7) .nil))) u (mka th st f g w a n' h' d') λς'=>sq (ltBD gs Δ' f λus G Q E=>Δ fi (us++cs) G Q E) (sq (denS gs Δ' (ltC 5 8)) (sq (ltED gs Δ' g λus G Q E=>Δ si us G Q E) (sq (denS gs Δ' (.aug 5 .Add (.int 1))) sqN))) ⟨na,rt,λx _ G'=>ex x G'⟩ ς' G1
  |none=>False)
 have eA:∀u G1,(tgU (.t (.cons (.n 4) (.cons (.n 5) .nil))) u (mkv th st w a n h d cs) λς'=>jam gs Δ (.cons (.asg (.n 6) (.call fi (.cons (.v 5) (.cons (.v 4) (vsE 7 cs.length))))) (.cons (ltC 3 6) (.cons (ltVe si) (.cons (.aug 3 .Add (.int 1)) .nil)))) ⟨nv,rt,λx _ G'=>ex x G'⟩ ς' G1) =
   (tgU (.t (.cons (.n 6) (.cons (.n 7) .nil))) u (mka th st f g w a n' h' d') λς'=>sq (ltBD gs Δ' f λus G Q E=>Δ fi (us++cs) G Q E) (sq (denS gs Δ' (ltC 5 8)) (sq (ltED gs Δ' g λus G Q E=>Δ si us G Q E) (sq (denS gs Δ' (.aug 5 .Add (.int 1))) sqN))) ⟨na,rt,λx _ G'=>ex x G'⟩ ς' G1):=λu G1=>by
  cases u with
  |tup us=>
   match us with
   |[]=>rfl
   |[_]=>rfl
   |x::y::r=>exact congrArg (r=[]/\·) (eB x y d G1)
  |_=>rfl
 simp only[eA]
noncomputable def toV  (cs:List U):Sg->Sg
 |th::st::_::_::w::a::n::h::d::_=>th::st::w::a::some (n.getD .non)::some (h.getD .non)::some (d.getD .non)::cs.map some
 |ς=>ς
theorem jnX  {ex: KX}(h:jam gs Δ (ltV cs.length fi si) ⟨n0,rt,λx _ G'=>ex x G'⟩ (mkv th st .non .non (some .non) (some .non) (some .non) cs) G) :
  ltD gs Δ' f g (λus G Q E=>Δ fi (us++cs) G Q E) (λus G Q E=>Δ si us G Q E) ⟨n1,rt,λx _ G'=>ex x G'⟩ [some th,some st,some (.loc f),some (.loc g),none,none,none,none,none] G:=by
 obtain⟨h1,h2,h⟩:=h;refine⟨h1,h2,λp G1 n=>?_⟩;have h:=h p G1 n;obtain⟨W,⟨m,w0⟩,turn⟩:=h;refine⟨λm ς G=>(∃w a n h d,ς=mka th st f g w a n h d)/\W m (toV cs ς) G,⟨m,⟨_,_,_,_,_,rfl⟩,w0⟩,?_⟩;rintro m _ G1 ⟨⟨w,a,n,h,d,rfl⟩,hw⟩;have t:=turn m _ G1 hw;have e:∀G,jam gs Δ (ltVw cs.length fi si) ⟨λς' G'=>∃m',m'<m/\W m' ς' G',rt,λx _ G'=>ex x G'⟩ (toV cs (mka th st f g w a n h d)) G=ltL gs Δ' f g (λus G Q E=>Δ fi (us++cs) G Q E) (λus G Q E=>Δ si us G Q E) ⟨λς' G'=>∃m',m'<m/\(∃w a n h d,ς'=mka th st f g w a n h d)/\W m' (toV cs ς') G',rt,λx _ G'=>ex x G'⟩ (mka th st f g w a n h d) G:=λG=>
  jl0 (w:=w) (a:=a) λw a x y d G=>propext ⟨λ⟨m',h1,h2⟩=>⟨m',h1,⟨_,_,_,_,_,rfl⟩,h2⟩,λ⟨m',h1,_,h2⟩=>⟨m',h1,h2⟩⟩
 have t:truU w G1 λb=>if b=true then jam gs Δ (ltVw cs.length fi si) ⟨λς' G'=>∃m',m'<m/\W m' ς' G',rt,λx _ G'=>ex x G'⟩ (toV cs (mka th st f g w a n h d)) G1 else rt (.bl true) G1:=t
 simp only[e]at t;exact t
end
theorem jhd  {T:Tab}{n:Nat}(h:T.funs[n]?=some d):(T.funs++T.vf)[n]?=some d:=by
 grind
theorem jcF  {T:Tab}(hd:(T.funs++T.vf)[n]?=some d){E:KX}(h:jac T (k+1) n us G Q E) :
  us.length=d.ps.length/\jam T.gs (jac T k) d.body ⟨λ_ G'=>Q .non G',Q,λx _ G'=>E x G'⟩ (jad d.N.length us) G:=by
 have h':(match (T.funs++T.vf)[n]? with|some d=>us.length=d.ps.length/\jam T.gs (jac T k) d.body ⟨λ_ G'=>Q .non G',Q,λx _ G'=>E x G'⟩ (jad d.N.length us) G|none=>False):=h
 lia
theorem jij     (e:a=b)(h:PSs X a t):PSs X b t:=e ▸ h
theorem jcO       (r:RUs K H us vs):SR K H (jad N.length us) (L2.start N vs):=by
 unfold jad L2.start;refine⟨by simp[r.length],λi u e=>?_⟩
 by_cases hi:i<us.length
 ·rw[Ya1 (by simp_all),YaN]at e
  cases q:us[i]? with
  |none=>simp_all
  |some w=>
   rw[q]at e;have:w=u:=by simpa using e
   subst this;obtain⟨v,ev,rv⟩:=r.get q;have hv:i<vs.length:=by rw[<- r.length];exact hi
   exact⟨v,by rw[Ya1 (by simpa using hv),YaN,ev];rfl,rv⟩
 ·rw[Ybn (by simpa using hi),Ycg]at e
  split at e<;>cases e
structure PF (T:Tab)(P:Program)(w:World)(K:Yab)(mg:Str->Option Value)(base:Heap)(k:Nat):Prop where
 blt:∀x∈jc6,mg x=none
 fns:∀(n:Nat) (d:Fun),T.funs[n]?=some d->FnU P w K mg base k d (jac T k n)
 gls:∀(n:Nat) (x:Str) (u:U),T.gn[n]?=some x->T.gs[n]?=some u->∃v w,mg x=some w/\RelV v w/\∀H,RU K H u v
 cls:∀n∈T.cs,1<=n->∃C,XCls K (gK K) (clsN n) (clsF n) C
 mgK:∀x v,gK K x=some v->mg x=some v
theorem Inv.tsU    {σ:St}(I:Inv X pins σ H s):TS X.H₀ H:=⟨I.base.tups,λa o e=>I.base.frzs a o _ e⟩

theorem joy  {T: Tab}{cl:List (Str×Addr)}{n:Nat} 
  (F:PF T X.prog X.w X.K X.mg X.base (j-1)) (hex:X.ex=[]) (ho:X.s₀.heap.get? f=some (Yd4 name qual params body scope cl doc pm c' ctv)) (hn:X.H₀ f=none) (hfs:f∉X.fs) (hc:X.H₀ c'=some (frzC oc)) (hco:jmx oc qual) (S:CloScope d.N ps scope)
  (hcl:∀x c,cl.lookup x=some c->scope.names.lookup x=some .free/\(∃v,X.s₀.heap.IsCell c v)/\X.H₀ c=none/\c∉X.fs) (inj:∀x y c,cl.lookup x=some c->cl.lookup y=some c->x=y) (has:∀x,scope.names.lookup x=some .free->∃c,cl.lookup x=some c)
  (hv:∀i x v,d.N[ps.length+i]?=some x->cvs[i]?=some v->scope.names.lookup x=some .free/\∃c u,cl.lookup x=some c/\RelV v u/\X.s₀.heap.IsCell c (some u))
  (rc:RUs X.K X.H₀ cs cvs) (hdp:d.ps.length=ps.length+cs.length) (hNl:d.ps.length<=d.N.length)
  (hb:∀(s:Shared) (us:List Value),us.length=ps.length->BindsTo s (PySem.W.fnX name qual params body scope cl .none .none doc pm none (.ref c') ctv) ⟨us,[]⟩ (ps.zip us))
  (hr:Room (j+2) X.A) (hd:(T.funs++T.vf)[n]?=some d) (ok:okSs T ⟨d.N,scope.names⟩ d.body body=true) (un:unSs T ⟨d.N,scope.names⟩ d.body body=body) :
  CloU X f λus G Q E=>jac T j n (us++cs) G Q E:=by
 have noX:∀b,b∉X.ex:=λb z=>by simp_all
 have cellK:∀{pins:List (Addr×Obj)} {σ:St} {H:Hp} {s:Shared} {x:Str} {c:Addr} {v:Option Value},Inv X pins σ H s->cl.lookup x=some c->X.s₀.heap.IsCell c v->s.heap.IsCell c v:=λ{pins σ H s x c v} I e ⟨o,h1,h2⟩=>
  ⟨o,I.base.keep c o h1 (hcl x c e).2.2.1 (hcl x c e).2.2.2 (noX c),h2⟩
 refine⟨λpins σ H s I=>⟨_,_,_,_,I.base.keep f _ ho hn hfs (noX f)⟩,λpins σ H s us vs Q0 E0 I r hsp=>?_⟩;obtain⟨zs,G,Q,E,rz,hG,h,lv,lx⟩:=hsp;obtain _|k:=j
 ·exact(show False from h).elim
 obtain⟨hl,h⟩:=jcF hd h;rw[Yaz]at hl;have hvl:vs.length=ps.length:=by rw[<- rz.length];lia
 have hcH:H c'=some (frzC oc):=I.base.frzs c' oc _ hc;obtain⟨hco1,_⟩:=I.hok c' _ hcH;obtain⟨wv,wt,w1,w2⟩:=hco;have rc':=rc.ts (Inv.tsU I);refine jmt (k:=k+2) (cvs:=cvs) (N:=d.N) (ps:=ps) (I.base.keep f _ ho hn hfs (noX f)) rfl ⟨c',oc,wv,wt,rfl,hco1,w1,w2⟩ S hr I.env0 (hb s us (by rw[<- r.length];exact hvl)) r hvl (by rw[<- rc.length];lia)
  (λx c e=>⟨(hcl x c e).1,let ⟨v,z⟩:=(hcl x c e).2.1;⟨v,cellK I e z⟩,let ⟨_,o,h1,_⟩:=(hcl x c e).2.1;I.base.free c o h1 (hcl x c e).2.2.1 (noX c)⟩) inj has
  (λi x v e1 e2=>let ⟨a,c,u,e,rv,z⟩:=hv i x v e1 e2;⟨a,c,u,e,rv,cellK I e z⟩) λhroom=>?_
 refine⟨_,jij un (sSs d.body (k:=k) (c:=⟨d.N,scope.names⟩) (hs:=body) ⟨⟨rfl,S.nd,λx z=>eq_of_beq z,λx z=>⟨eq_of_beq z,by show(scope.names.lookup x != some .free)=true;rw[eq_of_beq z];rfl⟩,λx z=>.inr (eq_of_beq z),λx z=>eq_of_beq z,hroom.mono (by lia),rfl,jjL,F.blt,F.fns,F.gls,hroom,F.cls,F.mgK⟩,rfl,S.kind,rfl,rfl⟩ ok),?_⟩
 exact⟨_,_,G,jcO (rz.append rc'),hG,h,⟨λς' σ' G' H' a b c q=>lv .non .non G' H' rfl b c q,λw v G' H' a b c q=>lv w v G' H' a b c q,λpins e s' x ς' σ' G' H' I sr xat hr' f q=>by obtain⟨ea,C0,dx,rfl,l,xd⟩:=xat;exact CX1.outC I l (lx x G' H' C0 dx xd hr' f q)⟩⟩
theorem HR.tabNew         (h:HR K H G)(hU:∀t∈tabs,∀t'∈tabs,t.1=t'.1->t=t')(ht:(P,pos,q)∈tabs)(n:jkW H H' P pos q c oc):HR K H' G/\Fr H G H' G:=by
 obtain⟨hc,hco,rfl|⟨hP,hn,rfl⟩⟩:=n
 ·exact⟨h,Fr.refl _ _⟩
 have oth:∀b,b≠P->b≠c->L2.upd (L2.upd H c (frzC oc)) P (.tbl #[rawInt pos.line,rawInt pos.col,.ref c]) b=H b:=λb h1 h2=>by rw[jae h1,jae h2]
 have neC:∀{b u},H b=some u->b≠c:=λ{b u} e z=>by lia
 have ts:TS H (L2.upd (L2.upd H c (frzC oc)) P (.tbl #[rawInt pos.line,rawInt pos.col,.ref c])):=⟨λa xs e=>by grind,λa xs e=>by grind⟩
 refine⟨⟨λa o g=>?_,λt hm=>?_⟩,⟨λa o e g nt=>⟨?_,g⟩⟩⟩
 ·have m:=h a o g;obtain⟨ho,e⟩:=m.there;exact m.keep (oth a (λz=>by rw[z,h.tblNone hP]at g;cases g) (neC e)) ts
 ·by_cases e:t.1=P
  ·obtain rfl:=hU t hm _ ht e;exact .inr ⟨c,oc,jah,hc,hco⟩
  ·rcases h.tab t hm with e1|⟨c2,oc2,e1,e2,q2⟩
   ·exact .inl (by simp_all)
   ·exact .inr ⟨c2,oc2,by simp_all,ts.cod _ _ e2,q2⟩
 ·rw[oth a (λz=>by rw[z,hP]at e;cases e;cases nt) (neC e)];exact e
end Z

namespace Z
open PySem L2
noncomputable def nDef  (st:Stmt):Stmt:=(jag st).getD 0 (.Pass ⟨0,0,0,0⟩)
noncomputable def capE  : List Nat->Es->Es
 |[],r=>r
 |i::is,r=>.cons (.v i) (capE is r)
noncomputable abbrev five  (r:Es):Es:=.cons .non (.cons .non (.cons .non (.cons .non (.cons .non r))))
structure NestS (T:Tab)(sts:List Stmt)(d:Fun)(st:Stmt)(z:Nst)(dff:Fun)(stff:Stmt)(dv dc:Fun):Prop where
 sc:FnScope d.N d.ps (jaa st)
 body:d.body=.cons (.ret (.call z.vi (.cons z.e1 (.cons z.e2 (five (capE z.caps .nil)))))) .nil
 text:∃pos p1 p3 p4 p5 p6 h1 h2,jag st=[.FunctionDef z.fn (jax (nDef st)) (jag (nDef st)) [] none [] (jaa (nDef st)) none z.fn pos,.Return (some (.Call (.Name dff.name p1) [h1,h2,.Name z.fn p3,.Name z.sn p4] [] p5)) p6]/\(z.P,pos,d.name ++ ".<locals>." ++ z.fn)∈tabs/\
  okE T ⟨d.N,(jaa st).names⟩ z.e1 h1=true/\unE T ⟨d.N,(jaa st).names⟩ z.e1 h1=h1/\okE T ⟨d.N,(jaa st).names⟩ z.e2 h2=true/\unE T ⟨d.N,(jaa st).names⟩ z.e2 h2=h2
 fi:d.N[z.fni]?=some z.fn
 fl:(jaa st).names.lookup z.fn=some .local
 gl:(jaa st).names.lookup dff.name=some .globalImplicit
 gs:(jaa st).names.lookup z.sn=some .globalImplicit
 dbg:(z.sn==("__debug__" : Str))=false/\(z.fn==("__debug__" : Str))=false/\(z.fn==("__classdict__" : Str))=false/\(dff.name==("__debug__" : Str))=false
 caps:∀(i j:Nat),z.caps[i]?=some j->j<d.ps.length/\∃x,d.N[j]?=some x/\dc.N[2+i]?=some x/\(jaa (nDef st)).names.lookup x=some .free/\(jaa st).names.lookup x=some .cell
 fge:d.ps.length<=z.fni
 frees:∀y∈(jaa (nDef st)).names,y.2=.free->(jaa st).names.lookup y.1=some .cell
 as2:z.as'.length=2
 cs:CloScope dc.N z.as' (jaa (nDef st))
 args:(jax (nDef st)).defaults=[]/\(jax (nDef st)).kw_defaults=[]
 ann:∀env,annTrees (jax (nDef st)) none env=[]
 bind:∀(qual:Str) (cl:List (Str×Addr)) (doc pm cv ctv u v:Value),Yfo (PySem.W.fnX z.fn qual (jax (nDef st)) (jag (nDef st)) (jaa (nDef st)) cl .none .none doc pm none cv ctv) ⟨[u,v],[]⟩=pure (z.as'.zip [u,v])
 ff:T.funs[z.ff]?=some dff
 ffs:sts[z.ff]?=some stff
 ffb:dff.body=irLT
 ffp:dff.ps.length=4
 ffl:dff.N.length=9
 hdv:(T.funs++T.vf)[z.vi]?=some dv
 dvb:dv.body=ltV z.caps.length z.fi z.si
 dvN:dv.N.length=z.caps.length+7
 hdc:(T.funs++T.vf)[z.fi]?=some dc
 dcp:dc.ps.length=2+z.caps.length
 dcN:dc.ps.length<=dc.N.length
 ok:okSs T ⟨dc.N,(jaa (nDef st)).names⟩ dc.body (jag (nDef st))=true
 un:unSs T ⟨dc.N,(jaa (nDef st)).names⟩ dc.body (jag (nDef st))=jag (nDef st)
 hs:∃ds,T.funs[z.si]?=some ds/\ds.name=z.sn
 nz:∀(gs:List U) (Δ:Cl) (ς:Sg) (G:Gp) (Q1:U->U->Gp->Prop) (E:KX),(∀n us G Q E,¬Δ n us G Q E)->¬(den gs Δ z.e1).1 ς G (λu1 G1=>(den gs Δ z.e2).1 ς G1 (λu2 G2=>Q1 u1 u2 G2) E) E
theorem jjh        : ∀{is } {Q },jaw gs Δ (capE is r) ς G Q X->∃cs ,cs.length=is.length/\(∀(i j:Nat),is[i]?=some j->∃u,cs[i]?=some u/\ς[j]?=some (some u))/\jaw gs Δ r ς G (λus G'=>Q (cs++us) G') X
 |[],_,h=>⟨[],rfl,λ_ _ e=>by simp at e,h⟩
 |i::is,Q,h=>by
  have h':slot ς i λx=>jaw gs Δ (capE is r) ς G (λxs G2=>Q (x::xs) G2) X:=h;obtain⟨u,e,h'⟩:=jb0 h';obtain⟨cs,h1,h2,h3⟩:=jjh h';refine⟨u::cs,by simp[h1],λa j ej=>?_,h3⟩
  cases a with
  |zero=>simp_all
  |succ a=>simp_all
theorem jew  {n i:Nat}(h:(jad n us)[i]?=some (some u)):us[i]?=some u:=by
 unfold jad at h;by_cases hi:i<us.length
 ·rw[Ya1 (by simpa using hi),YaN]at h
  cases e:us[i]? with
  |none=>rw[e]at h;cases h
  |some a=>rw[e]at h;simpa using h
 ·rw[Ybn (by simpa using hi),Ycg]at h
  split at h<;>cases h
theorem jjx    {i:Nat}(h:vs[i]?=some v):(L2.start N vs)[i]?=some (some v):=by
 unfold L2.start;have hi:=(List.getElem?_eq_some_iff.mp h).1;rw[Ya1 (by simpa using hi),YaN,h]
 rfl
theorem jmQ    : jad (cs.length+7) (th::st::.non::.non::.non::.non::.non::cs)=mkv th st .non .non (some .non) (some .non) (some .non) cs:=by
 unfold jad mkv;simp
theorem jfS      (r:RUs K H us vs):∀{is:List Nat} {cs },cs.length=is.length->(∀(i j:Nat),is[i]?=some j->∃u,cs[i]?=some u/\us[j]?=some u)->∃cvs ,RUs K H cs cvs/\cvs.length=is.length/\∀(i j:Nat) v ,is[i]?=some j->cvs[i]?=some v->vs[j]?=some v
 |[],[],_,_=>⟨[],rfl,rfl,λ_ _ _ e=>by simp at e⟩
 |[],_::_,h,_=>by simp at h
 |_::_,[],h,_=>by simp at h
 |j::is,c::cs,hl,h=>by
  obtain⟨u,e1,e2⟩:=h 0 j rfl;have:c=u:=by simp_all
  subst this;obtain⟨v,ev,rv⟩:=r.get e2;obtain⟨cvs,r2,l2,g2⟩:=jfS r (is:=is) (cs:=cs) (by simp_all) λi j' e=>by simpa using h (i+1) j' (by simpa using e)
  refine⟨v::cvs,⟨v,cvs,rfl,rv,r2⟩,by simp[l2],λi j' w e e'=>?_⟩
  cases i with
  |zero=>simp at e e';subst e;subst e';exact ev
  |succ i=>exact g2 i j' w (by simpa using e) (by simpa using e')
theorem jms     {d:Fun}(F:L2.Fun X.K d.name d.name st g fd')(hF:FnOk X.prog X.w X.K X.mg X.base (CX1 X.prog X.w) j g fd d.ps (lSp X.K t))(hb:Binds X.K fd d.ps [])(hr:Room j X.A):CloU X g t:=
 ⟨λpins σ H s I=>let ⟨_,_,_,_,_,_,_,_,_,_,lk,_⟩:=F.ex;⟨_,_,_,_,I.kIn _ _ lk⟩,λpins σ H s us vs Q0 E0 I r hsp=>by
  have hl:=hF.len _ _ _ _ hsp;have hbs:=hb s us I.kIn (by rw[Ybb,<- r.length];exact hl)
  rw[Ybb]at hbs;exact hF.run X.A X.stack s H ⟨us,[]⟩ us vs Q0 E0 hr I.env0 hbs r hsp⟩

theorem jlW  {T: Tab}{sts:List Stmt}{d dff dv dc ds:Fun}(N:NestS T sts d st z dff stff dv dc)(hU:∀t∈tabs,∀t'∈tabs,t.1=t'.1->t=t')(Sff:FnScope dff.N dff.ps (jaa stff))(okf:okSs T ⟨dff.N,(jaa stff).names⟩ dff.body (jag stff)=true)(unf:unSs T ⟨dff.N,(jaa stff).names⟩ dff.body (jag stff)=jag stff)
  (F:L2.Fun K d.name d.name st f fd) (Fff:L2.Fun K dff.name dff.name stff fff fdff) (mff:mg dff.name=some (.ref fff)) (bff:Binds K fdff dff.ps []) (hcode:∃c,fd.code=.ref c/\YfE base c z.P) (hB:BmAt mg base) (pf:PF T P w K mg base (j-1)) (pf1:PF T P w K mg base (j+1)) (hd:(T.funs++T.vf)[n]?=some d)
  (Fg:L2.Fun K ds.name ds.name sts' g fdg) (hFg:FnOk P w K mg base (CX1 P w) (j+2) g fdh ds.ps (lSp K (jac T j z.si))) (mgg:mg ds.name=some (.ref g)) (bg:Binds K fdh ds.ps []) (hsn:ds.name=z.sn) :
  FnOk P w K mg base (CX1 P w) (j+4) f fd d.ps (lSp K (jac T (j+2) n)):=by
 have len:∀vs H Q E,lSp K (jac T (j+2) n) vs H Q E->vs.length=d.ps.length:=λvs H Q E ⟨us,G,Q',E',r,hG,h,lv,lx⟩=>by rw[<- r.length];exact(jcF hd h).1
 refine⟨len,λA outer s H args us0 vs Q E hr e0 hb r hsp=>F.runX (k:=j+3) N.sc hr e0 hb r (len _ _ _ _ hsp) λcdv hcdv hroom=>?_⟩;have hvl:=len _ _ _ _ hsp;obtain⟨us,G,Q',E',ru,hG,h,lv,lx⟩:=hsp;obtain⟨hul,h⟩:=jcF hd h;rw[N.body]at h;have h:(den T.gs (jac T (j+1)) z.e1).1 (jad d.N.length us) G (λu1 G1=>(den T.gs (jac T (j+1)) z.e2).1 (jad d.N.length us) G1 (λu2 G2=>jaw T.gs (jac T (j+1)) (capE z.caps .nil) (jad d.N.length us) G2 (λzs G3=>jac T (j+1) z.vi (u1::u2::.non::.non::.non::.non::.non::zs) G3 Q' λx G'=>E' x G') λx G'=>E' x G') λx G'=>E' x G') λx G'=>E' x G':=h;obtain⟨c,hcc,hCH⟩:=hcode;obtain⟨pos,p1,p3,p4,p5,p6,h1,h2,text,htab,ok1,un1,ok2,un2⟩:=N.text
 let X0:=cx1 P w K mg base d.N d.name (jaa st) f cdv A outer s H E
 have S:=N.sc;have C0:Cok T (j+1) X0 ⟨d.N,(jaa st).names⟩:=⟨rfl,S.nd,λx z=>eq_of_beq z,λx z=>⟨eq_of_beq z,rfl⟩,λx z=>.inr (eq_of_beq z),λx z=>eq_of_beq z,hroom.mono (by lia),rfl,jjL,pf1.blt,pf1.fns,pf1.gls,hroom,pf1.cls,pf1.mgK⟩
 have pe1:PE X0 h1 (lE X0 (den T.gs (jac T (j+1)) z.e1).1):=un1 ▸ (sE z.e1 C0 ok1).1;have pe2:PE X0 h2 (lE X0 (den T.gs (jac T (j+1)) z.e2).1):=un2 ▸ (sE z.e2 C0 ok2).1;have hd1:jec h1=true:=un1 ▸ jav (T:=T) (c:=⟨d.N,(jaa st).names⟩) z.e1 h1;have hd2:jec h2=true:=un2 ▸ jav (T:=T) (c:=⟨d.N,(jaa st).names⟩) z.e2 h2;refine⟨λD σ' H'=>σ'=L2.start d.N vs/\H'=H/\D.rt=Q,λpins s1 σ1 H1 D I ⟨e1,e2,e3⟩=>?_,rfl,rfl,rfl⟩;subst e1;subst e2;subst e3;rw[text];have hq:YcJ X0.env z.fn z.fn=d.name ++ ".<locals>." ++ z.fn:=by
  unfold YcJ;have:X0.env.kindOf z.fn=some .local:=N.fl;rw[this];rfl
 refine YbV (jj1 (X:=X0) (c:=c) (P:=z.P) (i:=z.fni) I N.sc.nd N.fi (.inl N.fl) (.inr N.fl) (hcdv.symm.trans hcc) hCH hB (by rw[hq];exact hG.tab _ htab) N.args.1 N.args.2 (N.ann _)
  (λy hy hf=>I.ok.has y.1 (.inl (N.frees y hy hf))) λf' c' oc doc ctv H' s2 tn J=>?_)
 rw[hq]at tn J;obtain⟨hG',fr'⟩:=hG.tabNew hU htab tn
 let σ2:St:=(L2.start d.N vs).set z.fni (some (.ref f'))
 have hfs:σ2[z.fni]?=some (some (.ref f')):=by
  show((L2.start d.N vs).set z.fni (some (.ref f')))[z.fni]?=_;rw[Ybk (by have:=I.len;rw[this];exact(List.getElem?_eq_some_iff.mp N.fi).1)]
 have sr2:SR K H' (jad d.N.length us) σ2:=by
  obtain⟨l0,g0⟩:=jcO (N:=d.N) (ru.ts (fr'.ts hG));refine⟨by rw[l0];simp[σ2],λi u e=>?_⟩
  obtain⟨v,ev,rv⟩:=g0 i u e;refine⟨v,?_,rv⟩;have hne:z.fni≠i:=λq=>by
   have:=(List.getElem?_eq_some_iff.mp (jew e)).1;have:=N.fge
   lia
  show((L2.start d.N vs).set z.fni (some (.ref f')))[i]?=_;rw[YaW hne];exact ev
 have lxx:∀{H9:Hp} {G9:Gp},Fr H1 G H9 G9->LX X0 σ2 H9 G9 λx G'=>E' x G':=λ{H9 G9} fr pins e s' x G' H' I1 xat hr' fx q=>by
  obtain⟨ea,C1,dx,rfl,l,xd⟩:=xat;exact CX1.out1 I1 l (lx x G' H' C1 dx xd hr' (fr.trans fx) q)
 have hcall:wpAny (model X0.prog X0.w) X0.A (eval (.Call (.Name dff.name p1) [h1,h2,.Name z.fn p3,.Name z.sn p4] [] p5) X0.env) (EP X0 (pins++[(f',Yd4 z.fn (d.name ++ ".<locals>." ++ z.fn) (jax (nDef st)) (jag (nDef st)) (jaa (nDef st)) (jci X0.env.cells (jaa (nDef st)).names []) doc ((mg "__name__").getD .none) c' ctv)]) σ2 D.rt) X0.xe s2:=by
  have pa:PA X0 [h1,h2,.Name z.fn p3,.Name z.sn p4] (jh8 (lE X0 (den T.gs (jac T (j+1)) z.e1).1) (jh8 (lE X0 (den T.gs (jac T (j+1)) z.e2).1) (jh8 (tVar z.fni) (jh8 (tC (.ref g)) tNil)))):=
   jaN pe1 (jaN pe2 (jaN (jb2 N.fi (.inl N.fl) N.dbg.2.1 N.dbg.2.2.1) (jaN (jf7 N.gs (by rw[<- hsn];exact mgg) rfl N.dbg.1) jdZ)) (jai hd2 _ _)) (jai hd1 _ _)
  refine Ybw (jdg J N.gl mff ?_ N.dbg.2.2.2);refine Ydi (h₀:=base) J.ok.mod.kin Fff.kp (thn (pa p5 _ s2 σ2 H' (λvs3 H3=>∃u1 u2 v1 v2 G3,vs3=[v1,v2,.ref f',.ref g]/\RU K H3 u1 v1/\RU K H3 u2 v2/\HR K H3 G3/\Fr H' G H3 G3/\
    jaw T.gs (jac T (j+1)) (capE z.caps .nil) (jad d.N.length us) G3 (λzs G3=>jac T (j+1) z.vi (u1::u2::.non::.non::.non::.non::.non::zs) G3 Q' λx G'=>E' x G') λx G'=>E' x G') J
   ⟨_,G,_,_,sr2,hG',h,λu1 v1 G1 H1 r1 hG1 f1 q1=>⟨_,G1,_,_,sr2.ts (f1.ts hG'),hG1,q1,λu2 v2 G2 H2 r2 hG2 f2 q2=>⟨_,hfs,u1,u2,v1,v2,G2,rfl,r1.ts (f2.ts hG1),r2,hG2,f1.trans f2,q2⟩,lxx (fr'.trans f1)⟩,lxx fr'⟩) λus3 s3 ⟨vs3,H3,J3,r3,u1,u2,v1,v2,G3,e1,ru1,ru2,hG3,fr0,q3⟩=>⟨J3.kIn,?_⟩) (jai hd1 _ _) (by rw[jai hd2];rfl)
  subst e1;have fr3:=fr'.trans fr0;obtain⟨cs,csl,csg,q3⟩:=jjh q3;obtain⟨cvs,rcs,cvl,cvg⟩:=jfS ru csl λi j e=>let ⟨u,a,b⟩:=csg i j e;⟨u,a,jew b⟩
  have q3:jac T (j+1) z.vi (u1::u2::.non::.non::.non::.non::.non::(cs++[])) G3 Q' λx G'=>E' x G':=q3;rw[Ybb]at q3;obtain⟨_,q3⟩:=jcF N.hdv q3;rw[N.dvb,N.dvN,<- csl,jmQ]at q3;have l3:us3.length=dff.ps.length:=by rw[<- r3.length,N.ffp];rfl
  have hb3:=bff s3 us3 J3.kIn (by simp_all)
  rw[Ybb]at hb3;refine Yee (YcZ (Fff.runX (k:=j+2) (Q:=D.rt) (E:=EB X0 σ2) Sff hroom J3.env0 hb3 r3 (by rw[N.ffp];rfl) λcdv2 _ hroom2=>?_) λr s' hq=>?_)
  ·have hp:=J3.pin (f',Yd4 z.fn (d.name ++ ".<locals>." ++ z.fn) (jax (nDef st)) (jag (nDef st)) (jaa (nDef st)) (jci X0.env.cells (jaa (nDef st)).names []) doc ((mg "__name__").getD .none) c' ctv) (Yas _ (Yas _ (List.mem_singleton.mpr rfl)));obtain⟨hp1,hp2,hp3,hp4,_⟩:=hp;have nofs:∀b,b≠X0.env.locals->b∉X0.fs->b∉frs X0.stack:=λb h1 h2 hb=>(YaM.mp (J3.stkSub b hb)).elim h1 h2;have clof:∀x c,(jci X0.env.cells (jaa (nDef st)).names []).lookup x=some c->X0.env.cells.lookup x=some c/\(x,Yav)∈(jaa (nDef st)).names:=λx c e=>(jhm e).elim id λz=>by cases z
   obtain⟨m,hns,hloc⟩:=J3.loc;have CLO:=joy (T:=T) (j:=j) (X:=cx1 P w K mg base dff.N dff.name (jaa stff) fff cdv2 X0.A X0.stack s3 H3 (EB X0 σ2)) (d:=dc) (n:=z.fi) (cs:=cs) (cvs:=cvs) (ps:=z.as') pf rfl hp1 hp2 (nofs f' hp3 hp4) ((fr0.ts hG').cod _ _ tn.1) tn.2.1 N.cs
    (λx c e=>⟨N.cs.frees x (clof x c e).2,J3.cell x c (clof x c e).1,J3.freeC x c (clof x c e).1,nofs c (J3.cne x c (clof x c e).1) λhb=>by
     obtain⟨_,o,ho,_⟩:=J3.ok.funs.mem hb;exact absurd (Yam ho) (Nat.not_lt.mpr (J3.ok.cab x c rfl (clof x c e).1))⟩)
    (λx y c e1 e2=>J3.ok.inj x y c (clof x c e1).1 (clof y c e2).1)
    (λx e=>by
     have hm:=Yaq e;obtain⟨c,hc⟩:=J3.ok.has x (.inl (N.frees _ hm rfl));exact⟨c,jen hc hm⟩)
    (λi x v e1 e2=>by
     have hi:i<z.caps.length:=by grind
     obtain⟨jl,y,g1,g2,g3,g4⟩:=N.caps i z.caps[i] (by simp[hi])
     have:x=y:=by
      have:=N.as2
      simp_all
     subst this;refine⟨g3,?_⟩;have ev:=cvg i z.caps[i] v (by simp[hi]) e2
     have es:σ2[z.caps[i]]?=some (some v):=by
      show((L2.start d.N vs).set z.fni (some (.ref f')))[z.caps[i]]?=_;rw[YaW (by have:=N.fge;lia)]
      exact jjx ev
     obtain⟨u,rv,lk⟩:=hloc z.caps[i] x v g1 es (.inr (.inl g4));rcases lk with⟨k1,_⟩|⟨_,c,hc,hcell⟩
     ·have k2:(jaa st).names.lookup x=some .local:=k1
      lia
     ·exact⟨c,u,jen hc (Yaq g3),rv,hcell⟩)
    (rcs.ts (fr3.ts hG)) (by rw[N.dcp,csl,N.as2]) N.dcN (λs us hl=>by
     have:=N.as2;obtain _|⟨u,_|⟨v,_|⟨_,_⟩⟩⟩:=us
     ·rw[this]at hl;cases hl
     ·rw[this]at hl;cases hl
     ·exact .of_eq (N.bind _ _ _ _ _ _ _ _)
     ·rw[this]at hl;simp at hl) hroom2 N.hdc N.ok N.un
   have CLG:=jms (X:=cx1 P w K mg base dff.N dff.name (jaa stff) fff cdv2 X0.A X0.stack s3 H3 (EB X0 σ2)) Fg hFg bg hroom2;refine⟨_,jij unf (by
    rw[N.ffb]at okf ⊢;exact jl1 (T:=T) (k:=j-1) (c:=⟨dff.N,(jaa stff).names⟩) ⟨⟨rfl,Sff.nd,λx z=>eq_of_beq z,λx z=>⟨eq_of_beq z,rfl⟩,λx z=>.inr (eq_of_beq z),λx z=>eq_of_beq z,hroom2.mono (by lia),rfl,jjL,pf.blt,pf.fns,pf.gls,hroom2.mono (by lia),pf.cls,pf.mgK⟩,rfl,Sff.kind,rfl,rfl⟩ CLO CLG okf),?_⟩
   have ru3:RUs K H3 [u1,u2,.loc f',.loc g] [v1,v2,.ref f',.ref g]:=⟨_,_,rfl,ru1,_,_,rfl,ru2,_,_,rfl,rfl,_,_,rfl,rfl,rfl⟩;have sr:=jcO (N:=dff.N) ru3;rw[N.ffl]at sr;refine⟨⟨λ_ _=>False,Q',λx _ G'=>E' x G'⟩,_,G3,sr,hG3,jnX q3,⟨λ_ _ _ _ _ _ _ q=>q.elim,λw v G' H' a b c q=>lv w v G' H' a b (fr3.trans c) q,λpins e s' x ς' σ' G' H' I1 sr xat hr' fx q=>?_⟩⟩;obtain⟨ea,C1,dx,rfl,l,xd⟩:=xat;exact CX1.out1 I1 l λpins' ea' s'' I'' l''=>CX1.out1 I'' l'' (lx x G' H' C1 dx xd hr' (fr3.trans fx) q)
  ·cases r with
   |error e=>
    obtain⟨ea,H',cls,dx,rfl,I',l,q⟩:=CX1.back J3 hq;exact q _ ea s' I' l
   |ok fl=>
    cases fl with
    |ret u=>exact J3.after hq
    |next=>exact Ybz hq
    |brk=>exact Ybz hq
    |cont=>exact Ybz hq
 refine YbV (wpAny_Return_some (thn hcall λu s3 ⟨v,H3,I3,rv,q⟩=>?_));exact⟨v,σ2,H3,I3.unpinned,rv,q⟩
noncomputable def scB  (N ps:List Str)(sc:Scope):Bool:=
 decide (sc.kind=.function) && !sc.isCoroutine && !sc.isGenerator&&decide N.Nodup&&(N.take ps.length==ps)&&ps.all (λx=>sc.names.lookup x==some .local||sc.names.lookup x==some .cell)&&sc.names.all (λy=>y.2 != .free)
theorem jig    (h:scB N ps sc=true):FnScope N ps sc:=by
 unfold scB at h;simp only[Yah,decide_eq_true_eq,Yb2]at h;obtain⟨⟨⟨⟨⟨⟨h1,h2⟩,h3⟩,h4⟩,h5⟩,h6⟩,h7⟩:=h;refine⟨h1,h2,h3,h4,eq_of_beq h5,λx hx=>?_,λy hy=>?_⟩
 ·simp_all
 grind
noncomputable def cloB  (N ps:List Str)(sc:Scope):Bool:=
 decide (sc.kind=.function) && !sc.isCoroutine && !sc.isGenerator&&decide N.Nodup&&(N.take ps.length==ps)&&ps.all (λx=>sc.names.lookup x==some .local)&&sc.names.all (λy=>y.2 != .cell)&&sc.names.all (λy=>y.2 != .free||sc.names.lookup y.1==some .free)
theorem jox    (h:cloB N ps sc=true):CloScope N ps sc:=by
 unfold cloB at h;simp only[Yah,decide_eq_true_eq,Yb2]at h;obtain⟨⟨⟨⟨⟨⟨⟨h1,h2⟩,h3⟩,h4⟩,h5⟩,h6⟩,h7⟩,h8⟩:=h;refine⟨h1,h2,h3,h4,eq_of_beq h5,λx hx=>?_,λy hy=>?_,λx hx=>?_⟩
 ·simp_all
 ·grind
 grind
noncomputable def jeX  (T:Tab):Nat->List Fun->List Stmt->Bool
 |_,[],[]=>true
 |i,d::ds,st::sts=>scB d.N d.ps (jaa st)&&((T.ns.lookup i).isSome||okSs T ⟨d.N,(jaa st).names⟩ d.body (jag st))&&jeX T (i+1) ds sts
 |_,_,_=>false
def jfr  (T:Tab)(all:List Stmt):Nat->List Fun->List Stmt->Prop
 |_,[],_=>True
 |i,d::ds,st::sts=>(match T.ns.lookup i with
  |none=>unSs T ⟨d.N,(jaa st).names⟩ d.body (jag st)=jag st
  |some z=>T.ns.lookup z.ff=none/\∃dff stff dv dc,NestS T all d st z dff stff dv dc)/\jfr T all (i+1) ds sts
 |_,_::_,[]=>False
theorem jcB {T:Tab}{all:List Stmt}:∀{i:Nat} {ds:List Fun} {sts:List Stmt},jeX T i ds sts=true->jfr T all i ds sts->∀{n:Nat} {d:Fun},ds[n]?=some d->∃st,sts[n]?=some st/\scB d.N d.ps (jaa st)=true/\(match T.ns.lookup (i+n)with
  |none=>okSs T ⟨d.N,(jaa st).names⟩ d.body (jag st)=true/\unSs T ⟨d.N,(jaa st).names⟩ d.body (jag st)=jag st
  |some z=>T.ns.lookup z.ff=none/\∃dff stff dv dc,NestS T all d st z dff stff dv dc)
 |_,[],_,_,_,_,_,e=>by simp at e
 |_,_::_,[],h,_,_,_,_=>by unfold jeX at h;cases h
 |i,d::ds,st::sts,h,g,n,d',e=>by
  unfold jeX at h;unfold jfr at g;simp only[Yah]at h;cases n with
  |zero=>
   simp at e;subst e;refine⟨st,rfl,h.1.1,?_⟩;have g1:=g.1;have h1:=h.1.2;rw[Nat.add_zero];cases q:T.ns.lookup i with
   |none=>rw[q]at g1 h1;exact⟨by simpa using h1,g1⟩
   |some z=>rw[q]at g1;exact g1
  |succ n=>
   obtain⟨st',e',q⟩:=jcB h.2 g.2 (n:=n) (by simpa using e)
   rw[show i+1+n=i+(n+1) by lia]at q
   exact⟨st',by simpa using e',q⟩
noncomputable def jem  (K:Yab)(v:Value)(P:Addr):Bool:=match v with
 |.ref c=>(match K.lookup c with
  |some ⟨.type t,_,.fields vs,_⟩=>t == "code" && (match (vs[11]?:Option Value)with|some (.ref Q)=>Q==P|_=>false)&&(match vs.getD 18 .none with|.str _ _=>true|_=>false)&&(match vs.getD 7 .none with|.int _ _=>true|_=>false)
   && (match vs.getD 9 .none with|.bool _=>true|_=>false)&&(match vs.getD 10 .none with|.int _ _=>true|_=>false)&&c != P
  |_=>false)
 |_=>false
theorem jjd      (X:K.In h)(q:jem K v P=true):∃c,v=.ref c/\YfE h c P:=by
 unfold jem at q;split at q
 ·rename_i c;split at q
  ·rename_i t dd vs sl hk;simp only[Yah]at q;obtain⟨⟨⟨⟨⟨⟨q1,q2⟩,q3⟩,q4⟩,q5⟩,q6⟩,q7⟩:=q;refine⟨c,rfl,⟨.type t,dd,.fields vs,sl⟩,vs,?_⟩;have ho:=X c _ hk;split at q2
   ·rename_i Q e11;obtain rfl:Q=P:=by lia
    split at q3
    ·rename_i s1 t1 e18;split at q4
     ·rename_i s2 t2 e7;split at q5
      ·rename_i b e9;split at q6
       ·rename_i s3 t3 e10;exact⟨s1,t1,s2,t2,b,s3,t3,ho,by rw[eq_of_beq q1],rfl,e11,by rw[Array.getD_eq_getD_getElem?,e11];rfl,e18,e7,e9,e10,by simpa using q7⟩
       lia
      lia
     lia
    lia
   lia
  lia
 lia
section
variable {T:Tab}{P:Program}{w:World}{K:Yab}{mg:Str->Option Value}{base:Heap}
theorem jeP  {j n:Nat}{t:List U->Gp->K1->KX->Prop}(hz:∀us G Q E,¬t us G Q E):FnOk P w K mg base (CX1 P w) j f fd ps (lSp K t):=
 ⟨λvs H Q E ⟨_,_,_,_,_,_,h,_⟩=>(hz _ _ _ _ h).elim,λA outer s H args us vs Q E _ _ _ _ ⟨_,_,_,_,_,_,h,_⟩=>(hz _ _ _ _ h).elim⟩
theorem jgT       (F:L2.Fun K d.name d.name st f fd)(h1:scB d.N d.ps (jaa st)=true)(h2:okSs T ⟨d.N,(jaa st).names⟩ d.body (jag st)=true)(h3:unSs T ⟨d.N,(jaa st).names⟩ d.body (jag st)=jag st)
  (pf:PF T P w K mg base k) (hd:T.funs[n]?=some d):FnOk P w K mg base (CX1 P w) (k+3) f fd d.ps (lSp K (jac T (k+1) n)):=by
 have S:=jig h1;refine F.okX S (λvs H Q E ⟨us,G,Q',E',r,hG,h,lv,lx⟩=>by rw[<- r.length];exact(jcF (jhd hd) h).1) λcdv A outer s H vs Q E hr hsp=>?_
 obtain⟨us,G,Q',E',r,hG,h,lv,lx⟩:=hsp;obtain⟨hl,h⟩:=jcF (jhd hd) h;refine⟨_,jij h3 (sSs d.body (k:=k) (c:=⟨d.N,(jaa st).names⟩) (hs:=jag st) ⟨⟨rfl,S.nd,λx z=>eq_of_beq z,λx z=>⟨eq_of_beq z,rfl⟩,λx z=>.inr (eq_of_beq z),λx z=>eq_of_beq z,hr.mono (by lia),rfl,jjL,pf.blt,pf.fns,pf.gls,hr,pf.cls,pf.mgK⟩,rfl,S.kind,rfl,rfl⟩ h2),?_⟩
 exact⟨_,_,G,jcO r,hG,h,⟨λς' σ' G' H' a b c q=>lv .non .non G' H' rfl b c q,λw v G' H' a b c q=>lv w v G' H' a b c q,λpins e s' x ς' σ' G' H' I sr xat hr' f q=>by obtain⟨ea,C0,dx,rfl,l,xd⟩:=xat;exact CX1.out1 I l (lx x G' H' C0 dx xd hr' f q)⟩⟩
abbrev Dyn  (T:Tab)(K:Yab)(mg:Str->Option Value)(sts:List Stmt):Prop:=∀(n:Nat) (d:Fun) (st:Stmt),T.funs[n]?=some d->sts[n]?=some st->∃(f:Addr) (fd:YeF),L2.Fun K d.name d.name st f fd/\mg d.name=some (.ref f)/\Binds K fd d.ps []/\∀z,T.ns.lookup n=some z->jem K fd.code z.P=true
theorem jls  {sts:List Stmt}(hst:jeX T 0 T.funs sts=true)(heq:jfr T sts 0 T.funs sts)(dyn:Dyn T K mg sts)(hU:∀t∈tabs,∀t'∈tabs,t.1=t'.1->t=t')(hKb:K.In base)(hB:BmAt mg base)
  (hb:∀x∈jc6,mg x=none) (hg:∀(n:Nat) x u ,T.gn[n]?=some x->T.gs[n]?=some u->∃v w,mg x=some w/\RelV v w/\∀H,RU K H u v) (hc:∀n∈T.cs,1<=n->∃C,XCls K (gK K) (clsN n) (clsF n) C) (hm:∀x v,gK K x=some v->mg x=some v) :
  ∀k ,PF T P w K mg base k:=by
 intro k
 induction k using Nat.strongRecOn with
 |ind k ih=>
  refine⟨hb,λn d hd=>?_,hg,hc,hm⟩;obtain⟨st,e,h1,h2⟩:=jcB hst heq hd;obtain⟨f,fd,F,m,b,hz⟩:=dyn n d st hd e;refine⟨f,fd,?_,m,F.kp,b⟩;rw[YdQ]at h2;cases q:T.ns.lookup n with
  |none=>
   rw[q]at h2;obtain _|k:=k
   ·exact jeP (n:=n) λ_ _ _ _ h=>h
   ·exact jgT F h1 h2.1 h2.2 (ih k (by lia)) hd
  |some z=>
   rw[q]at h2;obtain⟨hff,dff,stff,dv,dc,N⟩:=h2;obtain _|_|j:=k
   ·exact jeP (n:=n) λ_ _ _ _ h=>h
   ·refine jeP (n:=n) λus G Q E h=>?_;obtain⟨_,h⟩:=jcF (jhd hd) h;rw[N.body]at h;exact N.nz T.gs (jac T 0) (jad d.N.length us) G (λu1 u2 G2=>jaw T.gs (jac T 0) (five (capE z.caps .nil)) (jad d.N.length us) G2 (λzs G3=>jac T 0 z.vi (u1::u2::zs) G3 Q λx G'=>E x G') λx G'=>E x G') (λx G'=>E x G') (λ_ _ _ _ _ h=>h) h
   ·obtain⟨st2,e2,g1,g2⟩:=jcB hst heq N.ff;rw[YdQ,hff]at g2;obtain⟨fff,fdff,Fff,mff,bff,_⟩:=dyn z.ff dff st2 N.ff e2;have:st2=stff:=by rw[N.ffs]at e2;lia
    subst this;obtain⟨ds,hds,hsn⟩:=N.hs;obtain⟨st3,e3,_,_⟩:=jcB hst heq hds;obtain⟨g,fdg,Fg,mgg,bg,_⟩:=dyn z.si ds st3 hds e3;obtain⟨g',fdg',hFg,mgg',_,bg'⟩:=(ih j (by lia)).fns z.si ds hds
    have eg:g'=g:=by rw[mgg]at mgg';simpa using mgg'.symm
    subst eg;exact jlW N hU (jig g1) g2.1 g2.2 F Fff mff bff (jjd hKb (hz z q)) hB (ih (j-1) (by lia)) (ih (j+1) (by lia)) (jhd hd) Fg hFg mgg bg' hsn
noncomputable def G0  (a:Addr)(ns:List Int):Gp:=λb=>if b=a then some (.fro (ns.map .int)) else none
theorem jiV   : ∀ns:List Int,RUs K H (ns.map .int) (ns.map V.int)
 |[]=>rfl
 |_::r=>⟨_,_,rfl,rfl,jiV r⟩
theorem law_sp        (hT:∀t∈tabs,t.1∈tb)(hO:jkm tb H)(fr:H a=some (.frz o (.lst (ns.map V.int))))(h:jac T k n [.loc a] (G0 a ns) (λu _=>u=.bl true) λ_ _=>False) :
  lSp K (jac T k n) [.ref a] H (λv _=>v=.bl true) λ_ _ _=>False:=by
 refine⟨[.loc a],G0 a ns,_,_,⟨_,_,rfl,rfl,rfl⟩,⟨λb mo e=>?_,λt ht=>.inl ?_⟩,h,λw v G' H' r _ _ q=>?_,λ_ _ _ _ _ _ _ _ z=>z.elim⟩
 ·unfold G0 at e;split at e
  ·rename_i z;subst z;cases e;exact⟨o,_,fr,jiV ns⟩
  lia
 ·have:=hO t.1
  grind
 ·subst q;exact r
end

theorem jhv  {T: Tab}{sts:List Stmt}(F:L2.Fun K d.name d.name st f fd)(hst:jeX T 0 T.funs sts=true)(heq:jfr T sts 0 T.funs sts)(dyn:Dyn T K mg sts)(hU:∀t∈tabs,∀t'∈tabs,t.1=t'.1->t=t')(hKb:K.In base)(hB:BmAt mg base)
  (hb:∀x∈jc6,mg x=none) (hg:∀(n:Nat) x u ,T.gn[n]?=some x->T.gs[n]?=some u->∃v w,mg x=some w/\RelV v w/\∀H,RU K H u v) (hc:∀n∈T.cs,1<=n->∃C,XCls K (gK K) (clsN n) (clsF n) C) (hm:∀x v,gK K x=some v->mg x=some v) (hd:T.funs[n]?=some d) (hs:sts[n]?=some st) (hn:T.ns.lookup n=none) :
  FnOk P w K mg base (CX1 P w) (k+2) f fd d.ps (lSp K (jac T k n)):=by
 cases k with
 |zero=>exact jeP (n:=n) λ_ _ _ _ h=>h
 |succ k=>
  obtain⟨st',e,h1,h2⟩:=jcB hst heq hd;rw[hs]at e;cases e;rw[YdQ,hn]at h2;exact jgT F h1 h2.1 h2.2 (jls hst heq dyn hU hKb hB hb hg hc hm k) hd

theorem jpE    (h:gK K x=some v):Ya6 K Yaw x=some (some v):=by
 unfold gK at h;cases q:Ya6 K Yaw x with
 |none=>simp_all
 |some o=>simp_all
theorem jnU    (X:K.In h)(G:h.Ns Yaw mg):∀x v,gK K x=some v->mg x=some v:=λ_ _ e=>YcQ X G (jpE e)
theorem jok    (h:Ya6 K Yaw x=some (some v)):gK K x=some v:=by unfold gK;rw[h];rfl
noncomputable def ksB  : List Str:=["__module__", "__firstlineno__", "__static_attributes__", "__weakref__", "__doc__"]
noncomputable def ksC  : List Str:=["__module__", "__firstlineno__", "__init__", "__static_attributes__", "__doc__"]
def offB  (ks:List Str):Bool:=offN.all λy=>!ks.contains y
theorem jkz   {m:Str->Option Value}(h:offB ks=true)(hm:∀x,x∉ks->m x=none):∀y∈offN,m y=none:=λy hy=>hm y (by
 have:=List.all_eq_true.mp h y hy
 simp_all)
theorem jjr     {hd ab:Bool}(a:Ya6 K Yaw "PlanError" = some (some (.ref D)))(kp:Ybg K (.ref D)=true)
  (l:K.lookup D=some (YcP "PlanError" q D ND bs bmV hd sn sub ab col dd k0 k1 k2 k3 k5 nid)) (n:jeE K ND=some ks) (h1:offB ks=true) (h2:ks.contains ("__init__" : Str)=false):∃mD,XBase K (gK K) D mD:=by
 obtain⟨m,hn,hno,_⟩:=jnQ n;exact⟨m,jok a,kp,⟨_,_,_,_,_,_,_,_,_,_,_,_,_,_,_,l,hn⟩,jkz h1 hno,hno _ (by simp_all)⟩
theorem jkY               (B:XBase K (gK K) D mD)(a:Ya6 K Yaw x=some (some (.ref C)))(kp:Ybg K (.ref C)=true)
  (l:K.lookup C=some (YcP x q C N bs (.ref D::bmV) true sn sub ab col dd k0 k1 k2 k3 k5 "ValueError.__new__")) (n:jeE K N=some ks) (h1:offB ks=true) (i:Ya6 K N "__init__" = some (some (.ref fI))) (F:L2.Fun K "__init__" qual st fI fd) (lf:K.lookup fI=some ⟨.type "function",od,.func fd,osl⟩)
  (S:scB (("self" : Str)::fs) ("self" :: fs) (jaa st)=true) (b:Binds K fd (("self" : Str)::fs) []) (hloc:((("self" : Str)::fs).all λy=>(jaa st).names.lookup y==some .local)=true)
  (bd:(∃f p1 p2 p3 pos,fs=[f]/\jag st=[.Assign [.Attribute (.Name "self" p1) f p2] (.Name f p3) pos])\/∃f f2 p1 p2 p3 pos q1 q2 q3 qos,fs=[f,f2]/\f≠f2/\jag st=[.Assign [.Attribute (.Name "self" p1) f p2] (.Name f p3) pos,.Assign [.Attribute (.Name "self" q1) f2 q2] (.Name f2 q3) qos]):XCls K (gK K) x fs C:=by
 obtain⟨m,hn,hno,hso⟩:=jnQ n;exact⟨jok a,kp,D,N,fI,m,mD,B,⟨_,_,_,_,_,_,_,_,_,_,_,_,l⟩,hn,jkz h1 hno,hso _ _ i,st,qual,fd,F,⟨_,_,lf⟩,jig S,b,λy hy=>eq_of_beq (List.all_eq_true.mp hloc y hy),bd⟩
theorem jiZ     : gup (gup G a o) a u=gup G a u:=by funext b;unfold gup;lia
def Sm  (f:Addr)(G G':Gp):Prop:=∀b o,b≠f->G b=some o->G' b=some o
def Sa  (G G':Gp):Prop:=∀b o,G b=some o->G' b=some o
theorem Sm.refl    : Sm f G G:=λ_ _ _ h=>h
theorem Sa.refl   : Sa G G:=λ_ _ h=>h
theorem Sm.trans    (a:Sm f G G1)(b:Sm f G1 G2):Sm f G G2:=λc o n h=>b c o n (a c o n h)
theorem Sa.trans   (a:Sa G G1)(b:Sa G1 G2):Sa G G2:=λc o h=>b c o (a c o h)
theorem Sa.sm    (a:Sa G G'):Sm f G G':=λc o _ h=>a c o h
theorem Sa.new     (h:G p=none):Sa G (gup G p o):=λc u e=>by
 rw[jb9 (λz=>by lia)];exact e
theorem Sm.put     : Sm f G (gup G f o):=λc u n e=>by rw[jb9 n];exact e
theorem jgc  {G:Gp}(h:G a=some o)(hp:G p=none):p≠a:=λz=>by lia
theorem New.at     (n:New G p o G'):G' p=some o:=by rw[n.eq];exact jaz
theorem New.sa     (n:New G p o G'):Sa G G':=by rw[n.eq];exact Sa.new n.no
theorem Put.at     (n:Put G p o G'):G' p=some o:=by rw[n.eq];exact jaz
theorem Put.sm     (n:Put G p o G'):Sm p G G':=by rw[n.eq];exact Sm.put
mutual
noncomputable def pd:U->PyData
 |.non=>.none
 |.bl b=>.bool b
 |.int i=>.int i
 |.str x=>.str x
 |.tup us=>.tuple (pds us)
 |.loc _=>.none
 |.fn _=>.none
 |.ty _=>.none
 |.exc _ _=>.none
 |.own _=>.none
 |.clo _ _=>.none
noncomputable def pds:List U->List PyData
 |[]=>[]
 |u::us=>pd u::pds us
end
mutual
noncomputable def bare:U->Bool
 |.non=>true
 |.bl _=>true
 |.int _=>true
 |.str _=>true
 |.tup us=>bares us
 |.loc _=>false
 |.fn _=>false
 |.ty _=>false
 |.exc _ _=>false
 |.own _=>false
 |.clo _ _=>false
noncomputable def bares:List U->Bool
 |[]=>true
 |u::us=>bare u&&bares us
end
mutual
theorem jpI {G:Gp}:∀{u:U},bare u=true->DU G u (pd u)
 |.non,_=>.non
 |.bl b,_=>.bl b
 |.int i,_=>.int i
 |.str x,_=>.str x
 |.tup _,h=>.tup (ji6 h)
 |.loc _,h=>nomatch h
 |.fn _,h=>nomatch h
 |.ty _,h=>nomatch h
 |.exc _ _,h=>nomatch h
 |.own _,h=>nomatch h
 |.clo _ _,h=>nomatch h
theorem ji6 {G:Gp}:∀{us:List U},bares us=true->DUs G us (pds us)
 |[],_=>.nil
 |_::_,h=>.cons (jpI (ba h).1) (ji6 (ba h).2)
end
structure Sml (n:Nat)(u:U):Prop where
 b:bare u=true
 l:(pd u).canLay0=true
 d:(pd u).depth<=n
theorem Sml.int   i:Sml 0 (.int i):=⟨rfl,rfl,Yae _⟩
theorem smls   : ∀{us },(∀u∈us,Sml n u)->bares us=true/\YcK (pds us)=true/\Ybv (pds us)<=n
 |[],_=>⟨rfl,rfl,YaK _⟩
 |u::us,h=>by
  obtain⟨h1,h2,h3⟩:=smls λv hv=>h v (Yan _ hv);have hu:=h u YaH;refine⟨?_,?_,?_⟩
  ·show(bare u&&bares us)=true;rw[hu.b,h1];rfl
  ·show((pd u).canLay0&&YcK (pds us))=true;rw[hu.l,h2];rfl
  ·show max (pd u).depth (Ybv (pds us))<=n;exact Nat.max_le.mpr ⟨hu.d,h3⟩
theorem jon       (ga:G a=some (.lst us))(gb:G b=some (.lst []))(h:∀u∈us,Sml n u)(hn:n<100)(q:k us.isEmpty):eqU (.loc a) (.loc b) G k:=by
 obtain⟨h1,h2,h3⟩:=smls h;have la:lsG G a=some us:=by unfold lsG;rw[ga]
 have lb:lsG G b=some []:=by unfold lsG;rw[gb]
 refine⟨.list (pds us),.list [],.lst la (ji6 h1),.lst lb .nil,⟨h2,?_⟩,⟨rfl,by decide⟩,?_⟩
 ·show Ybv (pds us)+1<=100
  lia
 ·have e:YaG (.list (pds us)) (.list [])=us.isEmpty:=by
   show Yct (pds us) []=_;rw[jhR];cases us<;>rfl
  lia
theorem jbr     : ∀{xs } (I:Nat->Sg->Gp->Prop) (_:∀ς G,I xs.length ς G->ok G/\k ς G)
  (_:∀i x ς G K ,xs[i]?=some x->I i ς G->(∀ς' G',I (i+1) ς' G'->K ς' G')->ok G/\b x ς G K) {ς } {G } (_:I 0 ς G),forL ok b xs ς G k
 |[],_,h0,_,_,_,h=>h0 _ _ h
 |x::_,I,h0,h1,_,_,h=>h1 0 x _ _ _ rfl h λ_ _ h'=>jbr (λi=>I (i+1)) h0 (λi y ς G K e hi hk=>h1 (i+1) y ς G K e hi hk) h'
theorem jaC     : ∀{xs } (I:Nat->List U->Gp->Prop) (_:∀acc G,I xs.length acc G->ok G/\k acc G)
  (_:∀i x acc G K ,xs[i]?=some x->I i acc G->(∀u G',I (i+1) (acc++[u]) G'->K (some u) G')->(∀G',I (i+1) acc G'->K none G')->ok G/\b x G K) {acc } {G } (_:I 0 acc G),jfb ok b xs acc G k
 |[],_,h0,_,_,_,h=>h0 _ _ h
 |x::_,I,h0,h1,_,_,h=>h1 0 x _ _ _ rfl h (λ_ _ h'=>jaC (λi=>I (i+1)) h0 (λi y a G K e hi hk hn=>h1 (i+1) y a G K e hi hk hn) h') (λ_ h'=>jaC (λi=>I (i+1)) h0 (λi y a G K e hi hk hn=>h1 (i+1) y a G K e hi hk hn) h')
theorem jcg       f (hok:ok G):∀{xs } (_:∀x∈xs,∀K ,K (some (f x)) G->b x G K) {acc } (_:k (acc++xs.map f) G),jfb ok b xs acc G k
 |[],_,acc,q=>⟨hok,by simpa using q⟩
 |x::xs,hb,acc,q=>⟨hok,hb x YaH _ (jcg f hok (λy hy=>hb y (Yan _ hy)) (by simpa using q))⟩
theorem jaH   i n:(rngU i n).length=n:=by unfold rngU;simp
theorem jbn    (h:(rngU 0 n)[i]?=some x):i<n/\x=.int i:=by
 unfold rngU at h;rw[YaN]at h;by_cases hi:i<n
 ·rw[Yff hi]at h;exact⟨hi,by simpa using h.symm⟩
 ·rw[YeS (by simpa using hi)]at h
  cases h
theorem jgE   (f:α->β)(l:List α) i:atI (l.map f) i=(atI l i).map f:=by
 unfold atI;rw[Yaj];cases ixN l.length i with
 |none=>rfl
 |some j=>simp
theorem jaO   (a:α) l:atI (a::l) 0=some a:=jcG (xs:=a::l) (j:=0) rfl
theorem jat   (a b:α) l:atI (a::b::l) 1=some b:=jcG (xs:=a::b::l) (j:=1) rfl
theorem jjp   (a b c:α) l:atI (a::b::c::l) 2=some c:=jcG (xs:=a::b::c::l) (j:=2) rfl
theorem jkU   {l:List α}{r:Int}(h0:0<=r)(h1:r<l.length):∃x,x∈l/\atI l r=some x:=by
 obtain⟨j,rfl⟩:=YaJ h0;have hj:j<l.length:=by lia
 exact⟨l[j],YdT hj,jcG (YaD hj)⟩
noncomputable def fdU  (c:Addr)(a l t:Int):List (Key×U):=[(.inr "cells",.loc c),(.inr "at",.int a),(.inr "left",.int l),(.inr "turn",.int t)]
theorem k_ca  : ¬((Sum.inr ("cells" : Str):Key)=Sum.inr ("at" : Str)):=by decide +kernel
theorem k_cl  : ¬((Sum.inr ("cells" : Str):Key)=Sum.inr ("left" : Str)):=by decide +kernel
theorem k_ct  : ¬((Sum.inr ("cells" : Str):Key)=Sum.inr ("turn" : Str)):=by decide +kernel
theorem k_al  : ¬((Sum.inr ("at" : Str):Key)=Sum.inr ("left" : Str)):=by decide +kernel
theorem k_at  : ¬((Sum.inr ("at" : Str):Key)=Sum.inr ("turn" : Str)):=by decide +kernel
theorem k_lt  : ¬((Sum.inr ("left" : Str):Key)=Sum.inr ("turn" : Str)):=by decide +kernel

theorem jmj  : dGet (fdU c a l t) (.inr "cells")=some (.loc c):=by simp[dGet,fdU]
theorem g_at  : dGet (fdU c a l t) (.inr "at")=some (.int a):=by simp[dGet,fdU,k_ca,-Ycb]
theorem joj  : dGet (fdU c a l t) (.inr "left")=some (.int l):=by simp[dGet,fdU,k_cl,k_al,-Ycb]
theorem ji1  : dGet (fdU c a l t) (.inr "turn")=some (.int t):=by simp[dGet,fdU,k_ct,k_at,k_lt,-Ycb]
theorem jnq   x:dPut (fdU c a l t) (.inr "turn") (.int x)=fdU c a l x:=by simp[dPut,fdU,k_ct,k_at,k_lt,-Ycb]
theorem p_at   x:dPut (fdU c a l t) (.inr "at") (.int x)=fdU c x l t:=by simp[dPut,fdU,k_ca,Ne.symm k_al,Ne.symm k_at,-Ycb]
theorem jky   x:dPut (fdU c a l t) (.inr "left") (.int x)=fdU c a x t:=by simp[dPut,fdU,k_cl,k_al,Ne.symm k_lt,-Ycb]
theorem jnW   : jcz [((Sum.inr ("cells" : Str):Key),U.loc p),(.inr "at",.int 0),(.inr "left",.int 0),(.inr "turn",.int 0)]=fdU p 0 0 0:=by
 simp[jcz,dPut,fdU,k_ca,k_cl,k_ct,k_al,k_at,k_lt,-Ycb]
theorem jhf  : (fdU c a l t).length<Yag:=by show 4<Yag;decide
theorem Sm.nw     (s:Sm f G G1)(n:New G1 p o G2):Sm f G G2:=s.trans n.sa.sm
theorem D_v         i:(den gs Δ (.v i)).1 ς G Q X=(slot ς i λu=>Q u G):=rfl
theorem T_v         i:(den gs Δ (.v i)).2 ς G R X=(den gs Δ (.v i)).1 ς G (λx G1=>truU x G1 λb=>R b G1) X:=rfl
theorem D_non         : (den gs Δ (.non)).1 ς G Q X=(Q .non G):=rfl
theorem D_bl         b:(den gs Δ (.bl b)).1 ς G Q X=(Q (.bl b) G):=rfl
theorem D_int         i:(den gs Δ (.int i)).1 ς G Q X=(Q (.int i) G):=rfl
theorem D_str         x:(den gs Δ (.str x)).1 ς G Q X=(Q (.str x) G):=rfl
theorem D_g         n:(den gs Δ (.g n)).1 ς G Q X=(glU gs n λu=>Q u G):=rfl
theorem T_g         n:(den gs Δ (.g n)).2 ς G R X=(den gs Δ (.g n)).1 ς G (λx G1=>truU x G1 λb=>R b G1) X:=rfl
theorem D_ty         n:(den gs Δ (.ty n)).1 ς G Q X=(Q (.ty n) G):=rfl
theorem T_ty         n:(den gs Δ (.ty n)).2 ς G R X=(den gs Δ (.ty n)).1 ς G (λx G1=>truU x G1 λb=>R b G1) X:=rfl
theorem D_bin         o a b:(den gs Δ (.bin o a b)).1 ς G Q X=((den gs Δ a).1 ς G (λx G1=>(den gs Δ b).1 ς G1 (λy G2=>binU o x y G2 Q) X) X):=rfl
theorem T_bin         o a b:(den gs Δ (.bin o a b)).2 ς G R X=(den gs Δ (.bin o a b)).1 ς G (λx G1=>truU x G1 λb=>R b G1) X:=rfl
theorem D_neg         a:(den gs Δ (.neg a)).1 ς G Q X=((den gs Δ a).1 ς G (λx G1=>negU x G1 Q) X):=rfl
theorem D_cmp         o a b:(den gs Δ (.cmp o a b)).1 ς G Q X=((den gs Δ a).1 ς G (λx G1=>(den gs Δ b).1 ς G1 (λy G2=>cmpU o x y G2 λc=>Q (.bl c) G2) X) X):=rfl
theorem T_cmp         o a b:(den gs Δ (.cmp o a b)).2 ς G R X=(den gs Δ (.cmp o a b)).1 ς G (λx G1=>truU x G1 λb=>R b G1) X:=rfl
theorem D_cmp2         o p a b c:(den gs Δ (.cmp2 o p a b c)).1 ς G Q X=((den gs Δ a).1 ς G (λx G1=>(den gs Δ b).1 ς G1 (λy G2=>cmpU o x y G2 λt=>if t=true then (den gs Δ c).1 ς G2 (λz G3=>cmpU p y z G3 λt'=>Q (.bl t') G3) X else Q (.bl false) G2) X) X):=rfl
theorem T_cmp2         o p a b c:(den gs Δ (.cmp2 o p a b c)).2 ς G R X=(den gs Δ (.cmp2 o p a b c)).1 ς G (λx G1=>truU x G1 λb=>R b G1) X:=rfl
theorem D_tup         es:(den gs Δ (.tup es)).1 ς G Q X=(jaw gs Δ es ς G (λus G1=>us.length<=Yag/\Q (.tup us) G1) X):=rfl
theorem D_lst         es:(den gs Δ (.lst es)).1 ς G Q X=(jaw gs Δ es ς G (λus G1=>us.length<=Yag/\newO G1 (.lst us) Q) X):=rfl
theorem D_dic         es:(den gs Δ (.dic es)).1 ς G Q X=(denD gs Δ es ς G (λkvs G1=>kvs.length<=15/\newO G1 (.dK (jcz kvs)) Q) X):=rfl
theorem D_ix         a b:(den gs Δ (.ix a b)).1 ς G Q X=((den gs Δ a).1 ς G (λx G1=>(den gs Δ b).1 ς G1 (λy G2=>ixU x y G2 Q) X) X):=rfl
theorem T_ix         a b:(den gs Δ (.ix a b)).2 ς G R X=(den gs Δ (.ix a b)).1 ς G (λx G1=>truU x G1 λb=>R b G1) X:=rfl
theorem D_sl         a lo hi:(den gs Δ (.sl a lo hi)).1 ς G Q X=((den gs Δ a).1 ς G (λx G1=>denO gs Δ lo ς G1 (λl G2=>denO gs Δ hi ς G2 (λh G3=>slU x l h G3 Q) X) X) X):=rfl
theorem D_rev         a b:(den gs Δ (.rev a b)).1 ς G Q X=((den gs Δ a).1 ς G (λx G1=>(den gs Δ b).1 ς G1 (λy G2=>revU x y G2 Q) X) X):=rfl
theorem D_call         n es:(den gs Δ (.call n es)).1 ς G Q X=(jaw gs Δ es ς G (λus G1=>Δ n us G1 Q X) X):=rfl
theorem T_call         n es:(den gs Δ (.call n es)).2 ς G R X=(den gs Δ (.call n es)).1 ς G (λx G1=>truU x G1 λb=>R b G1) X:=rfl
theorem D_blt         b es:(den gs Δ (.blt b es)).1 ς G Q X=(jaw gs Δ es ς G (λus G1=>bltU b us G1 Q) X):=rfl
theorem T_blt         b es:(den gs Δ (.blt b es)).2 ς G R X=(den gs Δ (.blt b es)).1 ς G (λx G1=>truU x G1 λb=>R b G1) X:=rfl
theorem D_meth {gs:List U}{Δ:Cl}{ς:Sg}{G:Gp}{Q:K1}{X:KX}(m:Mth)(o:E)(es:Es):(den gs Δ (.meth m o es)).1 ς G Q X=((den gs Δ o).1 ς G (λx G1=>match mtU m x G1 with|some _=>jaw gs Δ es ς G1 (λus G2=>jaW m x us G2 Q) X|none=>False) X):=rfl
theorem D_lc         pick t it ifs e:(den gs Δ (.lc pick t it ifs e)).1 ς G Q X=(denI gs Δ it ς G (λxs ok G1=>xs.length<=Yag/\jfb ok (λx G2 k=>tgU t x (jdd pick ς) λτ=>denC gs Δ ifs τ G2 (λb G3=>if b=true then (den gs Δ e).1 τ G3 (λu G4=>k (some u) G4) (λ_ _=>False) else k none G3)) xs [] G1 λus G5=>newO G5 (.lst us) Q) X):=rfl
theorem D_mkT         e:(den gs Δ (.mkT e)).1 ς G Q X=((den gs Δ e).1 ς G (λx G1=>itU x G1 λxs _=>Q (.tup xs) G1) X):=rfl
theorem D_not         a:(den gs Δ (.not a)).1 ς G Q X=((den gs Δ a).1 ς G (λx G1=>truU x G1 λb=>Q (.bl (!b)) G1) X):=rfl
theorem T_not         a:(den gs Δ (.not a)).2 ς G R X=((den gs Δ a).2 ς G (λb G1=>R (!b) G1) X):=rfl
theorem D_ife         c a b:(den gs Δ (.ife c a b)).1 ς G Q X=((den gs Δ c).2 ς G (λt G1=>if t=true then (den gs Δ a).1 ς G1 Q X else (den gs Δ b).1 ς G1 Q X) X):=rfl
theorem T_ife         c a b:(den gs Δ (.ife c a b)).2 ς G R X=((den gs Δ c).2 ς G (λt G1=>if t=true then (den gs Δ a).2 ς G1 R X else (den gs Δ b).2 ς G1 R X) X):=rfl
theorem D_bop0      : den gs Δ (.bop k a .nil)=den gs Δ a:=rfl
theorem D_and          : (den gs Δ (.bop true a (.cons b es))).1 ς G Q X=(den gs Δ a).1 ς G (λx G1=>truU x G1 λc=>if c=true then (den gs Δ (.bop true b es)).1 ς G1 Q X else Q x G1) X:=rfl
theorem D_or          : (den gs Δ (.bop false a (.cons b es))).1 ς G Q X=(den gs Δ a).1 ς G (λx G1=>truU x G1 λc=>if c=true then Q x G1 else (den gs Δ (.bop false b es)).1 ς G1 Q X) X:=rfl
theorem T_and          : (den gs Δ (.bop true a (.cons b es))).2 ς G R X=(den gs Δ a).2 ς G (λc G1=>if c=true then (den gs Δ (.bop true b es)).2 ς G1 R X else R false G1) X:=rfl
theorem T_or          : (den gs Δ (.bop false a (.cons b es))).2 ς G R X=(den gs Δ a).2 ς G (λc G1=>if c=true then R true G1 else (den gs Δ (.bop false b es)).2 ς G1 R X) X:=rfl
theorem O_no        : denO gs Δ .no ς G Q X=Q none G:=rfl
theorem O_so {gs:List U}{Δ:Cl}{ς:Sg}{G:Gp}{X:KX}{Q:Option Int->Gp->Prop}{e:E}:denO gs Δ (.so e) ς G Q X=(den gs Δ e).1 ς G (λx G1=>match x with|.int i=>Q (some i) G1|_=>False) X:=rfl
theorem A_nil        : jaw gs Δ .nil ς G Q X=Q [] G:=rfl
theorem A_cons          : jaw gs Δ (.cons e es) ς G Q X=(den gs Δ e).1 ς G (λx G1=>jaw gs Δ es ς G1 (λxs G2=>Q (x::xs) G2) X) X:=rfl
theorem C_nil       : denC gs Δ .nil ς G Q=Q true G:=rfl
theorem C_cons         : denC gs Δ (.cons e es) ς G Q=(den gs Δ e).2 ς G (λb G1=>if b=true then denC gs Δ es ς G1 Q else Q false G1) (λ_ _=>False):=rfl
theorem P_nil        : denD gs Δ .nil ς G Q X=Q [] G:=rfl
theorem P_cons {gs:List U}{Δ:Cl}{ς:Sg}{G:Gp}{X:KX}{Q:List (Key×U)->Gp->Prop}{e f:E}{es:Es}:denD gs Δ (.cons e (.cons f es)) ς G Q X=(den gs Δ e).1 ς G (λx G1=>(den gs Δ f).1 ς G1 (λy G2=>match kU x with|some k=>denD gs Δ es ς G2 (λkvs G3=>Q ((k,y)::kvs) G3) X|none=>False) X) X:=rfl
theorem I_e         : denI gs Δ (.e e) ς G Q X=(den gs Δ e).1 ς G (λx G1=>itU x G1 λxs ok=>Q xs ok G1) X:=rfl
theorem I_r1 {gs:List U}{Δ:Cl}{ς:Sg}{G:Gp}{X:KX}{Q:List U->(Gp->Prop)->Gp->Prop}{e:E}:denI gs Δ (.r1 e) ς G Q X=(den gs Δ e).1 ς G (λx G1=>match x with|.int j=>-(2 ^ 62)<=j/\j<2 ^ 62/\Q (rngU 0 j.toNat) (λ_=>True) G1|_=>False) X:=rfl
theorem F_nil        : denF gs Δ .nil ς G Q X=Q [] G:=rfl
theorem F_cons          : denF gs Δ (.cons e es) ς G Q X=(den gs Δ e).1 ς G (λx G1=>fpU x λz=>denF gs Δ es ς G1 (λzs G2=>Q (z::zs) G2) X) X:=rfl
theorem S_expr        : denS gs Δ (.expr e) D ς G=(den gs Δ e).1 ς G (λ_ G1=>D.nx ς G1) λx G1=>D.ex x ς G1:=rfl
theorem S_asg         : denS gs Δ (.asg t e) D ς G=(den gs Δ e).1 ς G (λu G1=>tgU t u ς λς'=>D.nx ς' G1) λx G1=>D.ex x ς G1:=rfl
theorem S_asgC         : denS gs Δ (.asgC i e) D ς G=(den gs Δ e).1 ς G (λu G1=>D.nx (ς.set i (some u)) G1) λx G1=>D.ex x ς G1:=rfl
theorem S_setS        : denS gs Δ (.setS o i e) D ς G=(den gs Δ e).1 ς G (λv G1=>(den gs Δ o).1 ς G1 (λx G2=>(den gs Δ i).1 ς G2 (λy G3=>setU x y v G3 λG4=>D.nx ς G4) (λx G1=>D.ex x ς G1)) (λx G1=>D.ex x ς G1)) (λx G1=>D.ex x ς G1):=rfl
theorem S_par         : denS gs Δ (.par is es) D ς G=jaw gs Δ es ς G (λus G1=>us.length=is.length/\D.nx ((is.zip us).foldl (λs p=>s.set p.1 (some p.2)) ς) G1) λx G1=>D.ex x ς G1:=rfl
theorem S_aug          : denS gs Δ (.aug i o e) D ς G=slot ς i λx=>(den gs Δ e).1 ς G (λy G1=>jgo o x y G1 λz G2=>D.nx (ς.set i (some z)) G2) λx G1=>D.ex x ς G1:=rfl
theorem S_ite         : denS gs Δ (.ite c a b) D ς G=(den gs Δ c).2 ς G (λt G1=>if t=true then jam gs Δ a D ς G1 else jam gs Δ b D ς G1) λx G1=>D.ex x ς G1:=rfl
theorem S_fr          : denS gs Δ (.fr t it b) D ς G=denI gs Δ it ς G (λxs ok G1=>forL ok (λx ς1 G2 k=>tgU t x ς1 λς2=>jam gs Δ b { D with nx:=k } ς2 G2) xs ς G1 D.nx) λx G1=>D.ex x ς G1:=rfl
theorem S_ret        : denS gs Δ (.ret e) D ς G=(den gs Δ e).1 ς G D.rt λx G1=>D.ex x ς G1:=rfl
theorem S_raise         : denS gs Δ (.raise c es) D ς G=jaw gs Δ es ς G (λus G1=>us.length=(clsF c).length/\D.ex ⟨c,us⟩ ς G1) λx G1=>D.ex x ς G1:=rfl
theorem S_tr          : denS gs Δ (.tr b c n h) D ς G=jam gs Δ b { D with ex:=λx ς1 G1=>(c=0\/x.c=c)/\hsH x h (ς1.set n none) G1 λς2 G2=>D.nx (ς2.set n none) G2 } ς G:=rfl
theorem B_nil       : jam gs Δ .nil D ς G=D.nx ς G:=rfl
theorem B_cons         : jam gs Δ (.cons s r) D ς G=denS gs Δ s { D with nx:=λς' G'=>jam gs Δ r D ς' G' } ς G:=rfl
theorem S_wh         : denS gs Δ (.wh c b) D ς G=∃W:Nat->Sg->Gp->Prop,(∃m,W m ς G)/\∀m ς1 G1,W m ς1 G1->(den gs Δ c).2 ς1 G1 (λt G2=>if t=true then jam gs Δ b { D with nx:=λς' G'=>∃m',m'<m/\W m' ς' G' } ς1 G2 else D.nx ς1 G2) λx G1=>D.ex x ς1 G1:=rfl
theorem V_add     : binU .Add (.int i) (.int j) G Q=Q (.int (i+j)) G:=rfl
theorem V_cat     : binU .Add (.tup xs) (.tup ys) G Q=(xs.length+ys.length<=Yag/\Q (.tup (xs++ys)) G):=rfl
theorem V_catL     : binU .Add (.loc a) (.loc b) G Q=∃xs ys,G a=some (.lst xs)/\G b=some (.lst ys)/\xs.length+ys.length<=Yag/\newO G (.lst (xs++ys)) Q:=rfl
theorem V_sub     : binU .Sub (.int i) (.int j) G Q=Q (.int (i-j)) G:=rfl
theorem V_mul     : binU .Mult (.int i) (.int j) G Q=(CMul i j/\Q (.int (i*j)) G):=rfl
theorem V_mulL      : binU .Mult (.loc a) (.int k) G Q=∃xs,G a=some (.lst xs)/\-(2 ^ 63)<=k/\k<2 ^ 63/\xs.length*k.toNat<=Yag/\newO G (.lst (Yaa k.toNat xs).flatten) Q:=rfl
theorem V_mulT      : binU .Mult (.tup xs) (.int k) G Q=(xs≠[]/\0<=k/\k<2 ^ 62/\xs.length*k.toNat<=Yag/\Q (.tup (Yaa k.toNat xs).flatten) G):=rfl
theorem V_fdiv     : binU .FloorDiv (.int i) (.int j) G Q=(0<j/\j<1073741824/\Q (.int (i/j)) G):=rfl
theorem V_mod     : binU .Mod (.int i) (.int j) G Q=(0<j/\Q (.int (i%j)) G):=rfl
theorem V_pow     : binU .Pow (.int i) (.int j) G Q=(CPow i j/\Q (.int (i ^ j.toNat)) G):=rfl
theorem V_neg     : negU (.int i) G Q=Q (.int (-i)) G:=rfl
theorem W_eqI     : cmpU .Eq (.int i) (.int j) G k=k (decide (i=j)):=rfl
theorem W_neI     : cmpU .NotEq (.int i) (.int j) G k=k (!decide (i=j)):=rfl
theorem W_eqS     : cmpU .Eq (.str i) (.str j) G k=k (decide (i=j)):=rfl
theorem W_neS     : cmpU .NotEq (.str i) (.str j) G k=k (!decide (i=j)):=rfl
theorem W_lt     : cmpU .Lt (.int i) (.int j) G k=k (decide (i<j)):=rfl
theorem W_le     : cmpU .LtE (.int i) (.int j) G k=k (decide (i<=j)):=rfl
theorem W_gt     : cmpU .Gt (.int i) (.int j) G k=k (decide (j<i)):=rfl
theorem W_ge     : cmpU .GtE (.int i) (.int j) G k=k (decide (j<=i)):=rfl
theorem W_neT     : cmpU .NotEq (.tup xs) (.tup []) G k=k (!xs.isEmpty):=rfl
theorem W_eqT      : cmpU .Eq (.tup xs) (.tup (y::ys)) G k=eqU (.tup xs) (.tup (y::ys)) G k:=rfl
theorem W_eqT0     : cmpU .Eq (.tup xs) (.tup []) G k=k xs.isEmpty:=rfl
theorem W_neL     : cmpU .NotEq (.loc a) (.loc b) G k=((∃us,G a=some (.lst us)/\G b=some (.lst [])/\k (!us.isEmpty))\/eqU (.loc a) (.loc b) G λb=>k (!b)):=rfl
theorem W_eqL     : cmpU .Eq (.loc a) (.loc b) G k=eqU (.loc a) (.loc b) G k:=rfl
theorem W_in     : cmpU .In x y G k=inU x y G k:=rfl
theorem W_nin     : cmpU .NotIn x y G k=inU x y G λb=>k (!b):=rfl
theorem W_is     : cmpU .Is x y G k=isU x y k:=rfl
theorem W_isn     : cmpU .IsNot x y G k=isU x y λb=>k (!b):=rfl
theorem Y_bl     : truU (.bl b) G k=k b:=rfl
theorem Y_non    : truU .non G k=k false:=rfl
theorem Y_int     : truU (.int i) G k=k (i != 0):=rfl
theorem Y_tup     : truU (.tup xs) G k=k (!xs.isEmpty):=rfl
theorem J_tup     : itU (.tup xs) G k=k xs λ_=>True:=rfl
theorem X_tup      : slU (.tup xs) lo hi G Q=Q (.tup (cut xs lo hi)) G:=rfl
theorem F_len     : bltU .len us G Q=lenU us G Q:=rfl
theorem F_repr     : bltU .repr us G Q=jhu us G Q:=rfl
theorem F_min     : bltU .min us G Q=minU us G Q:=rfl
theorem F_sum     : bltU .sum us G Q=sumU us G Q:=rfl
theorem F_all     : bltU .all us G Q=allU us G Q:=rfl
theorem F_int     : bltU .int us G Q=intU us G Q:=rfl
theorem F_isi     : bltU .isi us G Q=jhO us G Q:=rfl
theorem X_str      : slU (.str x) lo hi G Q=(x.length<=Yag/\Q (.str (YeZ x lo hi)) G):=rfl
theorem V_addB      : binU .Add (.bl b) (.int j) G Q=Q (.int ((if b=true then (1:Int) else 0)+j)) G:=rfl
theorem V_subB      : binU .Sub (.bl b) (.int j) G Q=Q (.int ((if b=true then (1:Int) else 0)-j)) G:=rfl
theorem V_subI      : binU .Sub (.int i) (.bl b) G Q=Q (.int (i-if b=true then (1:Int) else 0)) G:=rfl
theorem F_lenT     : lenU [.tup xs] G Q=Q (.int xs.length) G:=rfl
theorem F_min2     : minU [.int i,.int j] G Q=Q (.int (if j<i then j else i)) G:=rfl
theorem F_max2     : maxU [.int i,.int j] G Q=Q (.int (if j>i then j else i)) G:=rfl
theorem F_intB     : intU [.bl b] G Q=Q (.int (if b then 1 else 0)) G:=rfl
theorem F_intI     : intU [.int i] G Q=Q (.int i) G:=rfl
theorem G_n      : tgU (.n i) u ς k=k (ς.set i (some u)):=rfl
theorem G_t      : tgU (.t ts) (.tup us) ς k=tgsU ts us ς k:=rfl
theorem G_nil     : tgsU .nil us ς k=(us=[]/\k ς):=rfl
theorem G_cons        : tgsU (.cons t ts) (u::r) ς k=tgU t u ς λς'=>tgsU ts r ς' k:=rfl
theorem sl_0   {ς:Sg}:slot (some u::ς) 0 k=k u:=rfl
theorem sl_s   {ς:Sg}:slot (o::ς) (i+1) k=slot ς i k:=rfl
theorem jeV      : putO G a o Q=Q (gup G a o):=propext ⟨λh=>h.at,λh G1 p=>by rw[p.eq];exact h⟩
theorem ix_t       (h:atI xs i=some u):ixU (.tup xs) (.int i) G Q=Q u G:=by unfold ixU;lia
theorem ix_l        (g:G a=some (.lst xs))(h:atI xs i=some u):ixU (.loc a) (.int i) G Q=Q u G:=by unfold ixU;lia
theorem ix_d        (g:G a=some (.dK kvs))(h:dGet kvs (.inr x)=some u):ixU (.loc a) (.str x) G Q=Q u G:=by unfold ixU;dsimp only;rw[g];show(match dGet kvs (.inr x)with|some u=>Q u G|none=>False)=_;rw[h]
theorem jgl       (g:G a=some (.lst xs))(h0:0<=r)(h1:r<xs.length)(q:∀u∈xs,Q u G):ixU (.loc a) (.int r) G Q:=by
 obtain⟨u,hu,e⟩:=jkU h0 h1;rw[ix_l g e];exact q u hu
theorem jaR  (zs:List Int){r:Int}(g:G a=some (.lst (zs.map .int)))(h0:0<=r)(h1:r<zs.length)(q:∀z∈zs,Q (.int z) G):ixU (.loc a) (.int r) G Q:=
 jgl g h0 (by simp_all) λu hu=>by
  grind
theorem jg9  : ∀zs ,jfH (zs.map .int)=some zs
 |[]=>rfl
 |x::r=>by show(match jfH (r.map .int)with|some l=>some (x::l)|none=>none)=_;rw[jg9 r]
theorem in_l       (g:G a=some (.lst ys))(h1:flat x=true)(h2:ys.all flat=true)(q:k (ys.any λy=>eqF y x)):inU x (.loc a) G k:=by
 cases x<;>first|(cases h1;done)|(unfold inU;lia)
theorem jiN      (g:G a=some (.lst xs)):lenU [.loc a] G Q=Q (.int xs.length) G:=by unfold lenU;lia
theorem it_l      (g:G a=some (.lst xs)):itU (.loc a) G k=k xs λG'=>lsG G' a=some xs:=by unfold itU;dsimp only;have e:lsG G a=some xs:=(by unfold lsG;rw[g]);rw[e]
theorem jkk       (g:G a=some (.lst xs)):jaW .append (.loc a) [v] G Q=(xs.length<Yag/\putO G a (.lst (xs++[v])) (Q .non)):=by unfold jaW jgG;dsimp only;rw[g]
theorem jg2     (g:G a=some (.lst xs)):mtU .append (.loc a) G=some ("list", "list.append"):=by unfold mtU;lia
theorem jie        (g:G a=some (.dK kvs)):setU (.loc a) (.str x) v G Q=(kvs.length<Yag/\putO G a (.dK (dPut kvs (.inr x) v)) Q):=by unfold setU;dsimp only;rw[g];rfl
noncomputable def jkc  : Nat->Ss->Ss
 |0,s=>s
 |_+1,.nil=>.nil
 |n+1,.cons _ r=>jkc n r
theorem dr_0   : jkc 0 s=s:=rfl
theorem dr_s     : jkc (n+1) (.cons s r)=jkc n r:=rfl
theorem pk_nil   : jdd [] ς=[]:=rfl
theorem pk_none    : jdd (none::r) ς=none::jdd r ς:=rfl
theorem pk_some     : jdd (some j::r) ς=(ς[j]?).join::jdd r ς:=rfl
theorem K_str   : kU (.str x)=some (.inr x):=rfl
theorem K_int   : kU (.int i)=some (.inl i):=rfl
theorem sl_f       (g:G a=some (.fro xs)):slU (.loc a) lo hi G Q=newO G (.lst (cut xs lo hi)) Q:=by unfold slU;dsimp only;have e:lsG G a=some xs:=(by unfold lsG;rw[g]);rw[e]
theorem sl_l       (g:G a=some (.lst xs)):slU (.loc a) lo hi G Q=newO G (.lst (cut xs lo hi)) Q:=by unfold slU;dsimp only;have e:lsG G a=some xs:=(by unfold lsG;rw[g]);rw[e]
theorem jmr   (f:α->β)(xs:List α) lo hi:cut (xs.map f) lo hi=(cut xs lo hi).map f:=by unfold cut;simp_all
theorem jhk   (xs:List α)(n:Nat):cut xs none (some (n:Int))=xs.take n:=by
 unfold cut;rw[HT.sIx_none,HT.sIx_nat,Yeq,Nat.sub_zero,List.take_eq_take_iff]
 lia
theorem jfa   (xs:List α)(n:Nat):cut xs (some (n:Int)) none=xs.drop n:=by
 unfold cut;rw[HT.sIx_none,HT.sIx_nat];by_cases h:n<=xs.length
 ·rw[Nat.min_eq_left h,YeM (by simp)]
 ·rw[Nat.min_eq_right (by lia),YeN (Yae _),YeN (by lia),List.take_nil]
theorem fx_cells      : ixU (.loc f) (.str "cells") (gup G f (.dK (fdU c a l t))) Q=Q (.loc c) (gup G f (.dK (fdU c a l t))):=ix_d jaz jmj
theorem fx_at      : ixU (.loc f) (.str "at") (gup G f (.dK (fdU c a l t))) Q=Q (.int a) (gup G f (.dK (fdU c a l t))):=ix_d jaz g_at
theorem fx_left      : ixU (.loc f) (.str "left") (gup G f (.dK (fdU c a l t))) Q=Q (.int l) (gup G f (.dK (fdU c a l t))):=ix_d jaz joj
theorem fs_at      : setU (.loc f) (.str "at") (.int x) (gup G f (.dK (fdU c a l t))) Q=Q (gup G f (.dK (fdU c x l t))):=by rw[jie jaz,p_at,jeV,jiZ];exact propext ⟨λh=>h.2,λh=>⟨jhf,h⟩⟩
theorem fs_left      : setU (.loc f) (.str "left") (.int x) (gup G f (.dK (fdU c a l t))) Q=Q (gup G f (.dK (fdU c a x t))):=by rw[jie jaz,jky,jeV,jiZ];exact propext ⟨λh=>h.2,λh=>⟨jhf,h⟩⟩
end Z

namespace Y
open PySem L2
noncomputable def nO  : Obj:=⟨.none,none,.fields ⟨[]⟩,⟨[]⟩⟩
noncomputable def tO  (v:List Value):Obj:=⟨.type "tuple",none,.seq ⟨v⟩ 0,⟨[]⟩⟩
noncomputable def sO  (c:Value)(v:List Value):Obj:=⟨c,none,.fields ⟨v⟩,⟨[]⟩⟩
noncomputable def rO  (v:List (Option Value)):Obj:=⟨.type "frame",none,.plain,⟨v⟩⟩
noncomputable def gO  (x q:Str)(s:Stmt):Obj:=⟨.none,none,.func { name:=x,qualname:=q,params:=jax s,body:=.stmts (jag s),scope:=jaa s,globals:=0,closure:=[],defaults:=.none,kwdefaults:=.none },⟨[]⟩⟩
noncomputable def fO  (x q:Str)(s:Stmt)(m:Value)(c:Nat):Obj:=⟨.type "function",none,.func (Ya2 x q (jax s) (jag s) (jaa s) .none .none .none m none (.ref c) .none),⟨[]⟩⟩
noncomputable def kO  (fi x q:Str)(t:Nat)(l a f:Int)(r:Nat)(b:Bool)(u v w:Value)(z:Nat):Obj:=⟨.type "code",none,.fields ⟨[.str x t,.str q (t+1),.str fi (t+2),.int l 0,.int a 0,.int 0 0,.int 0 0,.int f 0,.ref r,.bool b,.int 181 0,.ref (r+1),.none,u,v,w,.int z 0,.int l 0,.str fi (z+1)]⟩,⟨[]⟩⟩
noncomputable def dE  (P:Params)(x:Str)(t:Nat)(v:Value):Ydv:=⟨PyData.keyHash P x,.str x t,v⟩
noncomputable def dO  (e:List Ydv)(n:Nat):Obj:=⟨.type "dict",none,.dict ⟨e⟩ n,⟨[]⟩⟩
noncomputable def cO  (x:Str)(b m:List Value)(n:Nat)(u:List Value)(s:List (Option Value)):Obj:=⟨.type "type",none,.cls { name:=x,bases:=b,mro:=m,ns:=n,qualname:=x,subclasses:=u },⟨s⟩⟩
def tE  : Obj:=tO []
noncomputable abbrev bE  : Yb6:=.nil
noncomputable abbrev bN  (o:Obj)(l r:Yb6):Yb6:=.node o l r
noncomputable abbrev bL  (o:Obj):Yb6:=.node o .nil .nil
end Y
namespace Z
open PySem L2
noncomputable def argB  (ps:List Str)(a:YfW):Bool:=a.posonlyargs.isEmpty&&(a.args.map (·.arg)==ps)&&a.vararg.isNone&&a.kwonlyargs.isEmpty&&a.kwarg.isNone
theorem jn0  : ∀{ps:List Str} {us:List Value},us.length=ps.length->ps.Nodup->(ps.filterMap λn=>((ps.zip us).lookup n).map (n,·))=ps.zip us/\∀n∈ps,((ps.zip us).lookup n).isSome=true:=by
 have key:∀{l:List Str} {vs:List Value} {L:List (Str×Value)},vs.length=l.length->l.Nodup->(∀(i:Nat) n v,l[i]?=some n->vs[i]?=some v->L.lookup n=some v)->(l.filterMap λn=>(L.lookup n).map (n,·))=l.zip vs/\∀n∈l,(L.lookup n).isSome=true:=by
  intro l
  induction l with
  |nil=>simp_all
  |cons x l ih=>
   intro vs L hl nd hL;obtain _|⟨v,vs⟩:=vs
   ·cases hl
   ·have h0:=hL 0 x v rfl rfl;obtain⟨e1,e2⟩:=ih (L:=L) (vs:=vs) (by simp_all) (List.nodup_cons.mp nd).2 λi n v a b=>hL (i+1) n v a b
    refine⟨?_,λn hn=>?_⟩
    ·simp_all
    grind
 intro ps us hl nd;refine key hl nd λi n v a b=>?_;have hz:(ps.zip us)[i]?=some (n,v):=List.getElem?_zip_eq_some.mpr ⟨a,b⟩;have:∀(l:List (Str×Value)),(l.map (·.1)).Nodup->(n,v)∈l->l.lookup n=some v:=by
  intro l
  induction l with
  |nil=>simp_all
  |cons p l ih=>
   intro nd h;obtain⟨m,u⟩:=p;rw[YaT];by_cases e:n=m
   ·subst e;rw[beq_self_eq_true];rcases YaM.mp h with h|h
    ·cases h;rfl
    ·exact absurd (List.mem_map.mpr ⟨_,h,rfl⟩) (List.nodup_cons.mp nd).1
   ·rw[beq_eq_false_iff_ne.mpr e];rcases YaM.mp h with h|h
    ·cases h;exact absurd rfl e
    ·exact ih (List.nodup_cons.mp nd).2 h
 exact this _ (by rw[YfR (by lia)];exact nd) (Yay hz)
theorem jgB    (h:argB ps a=true)(nd:ps.Nodup){kV doc pm:Value}(hl:us.length=ps.length) :
  Yfo (Ya2 x q a b sc .none kV doc pm an cdv ct) ⟨us,[]⟩=pure (ps.zip us):=by
 obtain⟨po,as,va,ko,kd,ka,df⟩:=a;unfold argB at h;simp only[Yah,YfT,Option.isNone_iff_eq_none,beq_iff_eq]at h;obtain⟨⟨⟨⟨rfl,rfl⟩,rfl⟩,rfl⟩,rfl⟩:=h;obtain⟨e1,e2⟩:=jn0 hl nd;have e3:(List.filter (λn=>(Ybs n ((as.map (·.arg)).zip us)).isNone) (as.map (·.arg)))=[]:=List.filter_eq_nil_iff.mpr λn hn=>by
  have:=e2 n hn
  simp_all
 have e0:seqItems? Ybm=pure none:=rfl;unfold Yfo;dsimp only;rw[e0];generalize as.map (·.arg)=ns at *;have e4:ns.take (ns.length-0)=ns:=by simp_all
 simp[hl,e1,e3,e4]

abbrev FL:=List (Addr×Addr×Value)
noncomputable def refB  (v:Option (Option Value))(f:Addr):Bool:=match v with
 |some (some (.ref a))=>a==f
 |_=>false
theorem jgS    (h:refB v f=true):v=some (some (.ref f)):=by
 unfold refB at h
 lia
noncomputable def dynB  (T:Tab)(K:Yab):Nat->FL->List Fun->List Stmt->Bool
 |_,[],[],[]=>true
 |i,x::fs,d::ds,s::ss=>refB (Ya6 K Yaw d.name) x.1&&Ybo K (.ref x.2.1) d.name&&(match T.ns.lookup i with|none=>true|some z=>jem K (.ref x.2.1) z.P)&&argB d.ps (jax s)&&dynB T K (i+1) fs ds ss
 |_,_,_,_=>false
noncomputable def lkR  : FL->List Fun->List Stmt->List (Option Obj)
 |x::fs,d::ds,s::ss=>some (Y.fO d.name d.name s x.2.2 x.2.1)::lkR fs ds ss
 |_,_,_=>[]
theorem ji5  {T:Tab}:∀{i } {fs } {ds } {ss },dynB T K i fs ds ss=true->fs.map (λx=>K.lookup x.1)=lkR fs ds ss->∀{n } {d } {s },ds[n]?=some d->ss[n]?=some s->
  ∃x:Addr×Addr×Value,Ya6 K Yaw d.name=some (some (.ref x.1))/\K.lookup x.1=some (Y.fO d.name d.name s x.2.2 x.2.1)/\Ybo K (.ref x.2.1) d.name=true/\(∀z,T.ns.lookup (i+n)=some z->jem K (.ref x.2.1) z.P=true)/\argB d.ps (jax s)=true
 |_,_,[],_,_,_,_,_,_,e,_=>by simp at e
 |_,_,_::_,[],_,_,_,_,_,_,e=>by simp at e
 |_,[],_::_,_::_,h,_,_,_,_,_,_=>by unfold dynB at h;cases h
 |i,x::fs,d::ds,s::ss,h,g,n,d',s',e1,e2=>by
  unfold dynB at h;simp only[Yah]at h;obtain⟨⟨⟨⟨h1,h2⟩,h3⟩,h4⟩,h5⟩:=h;unfold lkR at g;rw[YaC]at g;injection g with g1 g2
  cases n with
  |zero=>
   cases(Yar e1:d=d');cases(Yar e2:s=s');exact⟨x,jgS h1,g1,h2,λz hz=>by lia,h4⟩
  |succ n=>
   obtain⟨y,q1,q2,q3,q4,q5⟩:=ji5 h5 g2 (n:=n) e1 e2;exact⟨y,q1,q2,q3,λz hz=>q4 z (by rw[show i+1+n=i+(n+1) by lia];exact hz),q5⟩
theorem jlq    (h:scB N ps sc=true):ps.Nodup:=by
 have S:=jig h;rw[<- S.pre];exact S.nd.sublist (YdE _ _)
theorem jgj        (h:K.lookup f=some ⟨c,d,.func fd,sl⟩):Ybg K (.ref f)=true:=by
 unfold Ybg
 lia
section
variable {T:Tab}{K:Yab}{h:Heap}{mg:Str->Option Value}
theorem jor   {sts:List Stmt}(X:K.In h)(G:h.Ns Yaw mg)(hst:jeX T 0 T.funs sts=true)(heq:jfr T sts 0 T.funs sts)(hB:dynB T K 0 fs T.funs sts=true)(hL:fs.map (λx=>K.lookup x.1)=lkR fs T.funs sts):Dyn T K mg sts:=by
 intro n d st h1 h2;obtain⟨x,q1,q2,q3,q4,q5⟩:=ji5 hB hL h1 h2;have F:=ji3 (st:=st) q2 q3 (jgj q2);obtain⟨st',e,hs,_⟩:=jcB hst heq h1;cases h2.symm.trans e;exact⟨_,_,F,YcQ X G q1,F.binds λ_ _ _ _ _ _ us hl=>jgB q5 (jlq hs) hl,λz hz=>q4 z (by lia)⟩
def bltB  (K:Yab):Bool:=jc6.all λx=>match Ya6 K Yaw x with
 |some none=>true
 |_=>false
theorem joB  (X:K.In h)(G:h.Ns Yaw mg)(hb:bltB K=true):∀x∈jc6,mg x=none:=λx hx=>by
 have:=List.all_eq_true.mp hb x hx;refine PySem.W.mg_none_of X G ?_
 lia
noncomputable def gsB  (K:Yab):List Str->List U->Bool
 |[],[]=>true
 |x::xs,u::us=>(match u,Ya6 K Yaw x with
  |.int i,some (some (.int j _))=>i==j
  |.str i,some (some (.str j _))=>i==j
  |_,_=>false)&&gsB K xs us
 |_,_=>false
theorem joh  (X:K.In h)(G:h.Ns Yaw mg):∀{xs } {us },gsB K xs us=true->∀(n:Nat) x u ,xs[n]?=some x->us[n]?=some u->∃v w,mg x=some w/\RelV v w/\∀H,RU K H u v
 |[],_,_,_,_,_,e,_=>by simp at e
 |_::_,[],_,_,_,_,_,e=>by simp at e
 |x::xs,u::us,hb,n,x',u',e1,e2=>by
  unfold gsB at hb;rw[Yah]at hb;cases n with
  |zero=>
   cases(Yar e1:x=x');cases(Yar e2:u=u');have h1:=hb.1;split at h1
   ·rename_i i j t q;cases eq_of_beq h1;exact⟨.int i,_,YcQ X G q,⟨_,rfl⟩,λ_=>rfl⟩
   ·rename_i i j t q;cases eq_of_beq h1;exact⟨.str i,_,YcQ X G q,⟨_,rfl⟩,λ_=>rfl⟩
   lia
  |succ n=>exact joh X G hb.2 n x' u' e1 e2
def CsA  (K:Yab):List Nat->Prop
 |[]=>True
 |n::r=>(∃C,XCls K (gK K) (clsN n) (clsF n) C)/\CsA K r
theorem jow  : ∀{l },CsA K l->∀n∈l,1<=n->∃C,XCls K (gK K) (clsN n) (clsF n) C
 |[],_,_,hn,_=>absurd hn Yau
 |m::r,hc,n,hn,h1=>by
  unfold CsA at hc;rcases YaM.mp hn with rfl|hn
  ·exact hc.1
  ·exact jow hc.2 n hn h1
theorem all2  {l:YdK}{sts:List Stmt}{d:Fun}(X:K.In h)(G:h.Ns Yaw mg)(hfa:mg "law" = some (.ref fa))(hst:jeX T 0 T.funs sts=true)(heq:jfr T sts 0 T.funs sts)
  (hU:∀t∈tabs,∀t'∈tabs,t.1=t'.1->t=t') (hB:dynB T K 0 fs T.funs sts=true) (hL:fs.map (λx=>K.lookup x.1)=lkR fs T.funs sts) (hb:bltB K=true) (hg:gsB K T.gn T.gs=true) (hc:CsA K T.cs)
  (hd:T.funs[n]?=some d) (hs:sts[n]?=some st) (hn:T.ns.lookup n=none) (hdn:d.name = "law") (hps:d.ps=[("_law_script" : Str)]) :
  ∃fd ,(∀(s:Shared) v ,BindsTo s fd ⟨[v],[]⟩ [("_law_script",v)])/\∀base ,K.In base->base.Ns Yaw mg->BmAt mg base->FnOk l.prog w K mg base (CX1 l.prog w) (k+2) fa fd ["_law_script"] (lSp K (jac T k n)):=by
 have dyn:=jor X G hst heq hB hL;obtain⟨x,q1,q2,q3,q4,q5⟩:=ji5 hB hL hd hs;obtain⟨st',e,hsc,_⟩:=jcB hst heq hd;cases hs.symm.trans e;have F:=ji3 (st:=st) q2 q3 (jgj q2);rw[hdn]at q1;cases hfa.symm.trans (YcQ X G q1);refine⟨Ya2 d.name d.name (jax st) (jag st) (jaa st) .none .none .none x.2.2 none (.ref x.2.1) .none,λs v=>.of_eq ((jgB (us:=[v]) q5 (jlq hsc) (by rw[hps];rfl)).trans (by rw[hps];rfl)),λbase hKb _ hBm=>?_⟩
 rw[<- hps];exact jhv F hst heq dyn hU hKb hBm (joB X G hb) (joh X G hg) (jow hc) (jnU X G) hd hs hn
end

def jpN  (x:Str)(D N b t t':Nat)(u:List Value):Obj:=Y.cO x [.type "ValueError"] (.ref D::bmV) N u [some (.ref b),none,some (.str x t),some (.str x t'),some (.builtin "ValueError.__new__"),some (.bool true)]
def clsO  (x:Str)(C D N b t t':Nat):Obj:=Y.cO x [.ref D] (.ref C::.ref D::bmV) N [] [some (.ref b),none,some (.str x t),some (.str x t'),some (.builtin "ValueError.__new__"),some (.bool true)]
theorem xb_mk   D N b t t' u (l:K.lookup D=some (jpN "PlanError" D N b t t' u))(h:(refB (Ya6 K Yaw "PlanError") D&&Ybg K (.ref D)&&(jeE K N==some ksB)&&offB ksB && !ksB.contains ("__init__" : Str))=true):∃mD,XBase K (gK K) D mD:=by
 simp only[Yah,Yb2]at h;obtain⟨⟨⟨⟨h1,h2⟩,h3⟩,h4⟩,h5⟩:=h;exact jjr (jgS h1) h2 l (eq_of_beq h3) h4 h5
theorem xc_mk   (B:∃mD,XBase K (gK K) D mD) x qual fs st (C N b t t' fI c:Nat)(m:Value)(l1:K.lookup C=some (clsO x C D N b t t'))(l2:K.lookup fI=some (Y.fO "__init__" qual st m c))
  (h:(refB (Ya6 K Yaw x) C&&Ybg K (.ref C)&&(jeE K N==some ksC)&&offB ksC&&refB (Ya6 K N "__init__") fI&&Ybo K (.ref c) qual&&scB (("self" : Str)::fs) ("self" :: fs) (jaa st)&&((("self" : Str)::fs).all λy=>(jaa st).names.lookup y==some .local)&&argB (("self" : Str)::fs) (jax st))=true)
  (bd:(∃f p1 p2 p3 pos,fs=[f]/\jag st=[.Assign [.Attribute (.Name "self" p1) f p2] (.Name f p3) pos])\/∃f f2 p1 p2 p3 pos q1 q2 q3 qos,fs=[f,f2]/\f≠f2/\jag st=[.Assign [.Attribute (.Name "self" p1) f p2] (.Name f p3) pos,.Assign [.Attribute (.Name "self" q1) f2 q2] (.Name f2 q3) qos]):∃C,XCls K (gK K) x fs C:=by
 obtain⟨mD,B⟩:=B;simp only[Yah]at h;obtain⟨⟨⟨⟨⟨⟨⟨⟨h1,h2⟩,h3⟩,h4⟩,h5⟩,h6⟩,h7⟩,h8⟩,h9⟩:=h;have F:=ji3 (st:=st) l2 h6 (jgj l2);exact⟨C,jkY B (jgS h1) h2 l1 (eq_of_beq h3) h4 (jgS h5) F l2 h7 (F.binds λ_ _ _ _ _ _ us hl=>jgB h9 (jlq h7) hl) h8 bd⟩
section
local macro_rules
 |`(#[])=>`(.nil)
 |`(#[$x])=>`(.cons $x .nil)
 |`(#[$x,$xs,*])=>`(.cons $x #[$xs,*])
noncomputable abbrev jcj  : Nat:=0
noncomputable abbrev ja2  : Nat:=1
noncomputable abbrev jg1  : Nat:=2
noncomputable abbrev jgd  : Nat:=3
noncomputable abbrev jb3  : Nat:=4
noncomputable abbrev jbo  : Nat:=5
noncomputable abbrev jb7  : Nat:=6
noncomputable abbrev jeB  : Nat:=7
noncomputable abbrev jfB  : Nat:=8
noncomputable abbrev jfA  : Nat:=9
noncomputable abbrev jdA  : Nat:=10
noncomputable abbrev jfx  : Nat:=11
noncomputable abbrev jd2  : Nat:=12
noncomputable abbrev ja3  : Nat:=13
noncomputable abbrev jcS  : Nat:=14
noncomputable abbrev jdv  : Nat:=15
noncomputable abbrev jdw  : Nat:=16
noncomputable abbrev jbp  : Nat:=17
noncomputable abbrev jdu  : Nat:=19
noncomputable abbrev jdt  : Nat:=20
noncomputable abbrev jfy  : Nat:=21
noncomputable abbrev jdx  : Nat:=22
noncomputable abbrev jfz  : Nat:=23
noncomputable abbrev jab  : Nat:=24
noncomputable abbrev jd3  : Nat:=25
noncomputable abbrev ja7  : Nat:=26
noncomputable abbrev jdz  : Nat:=27
noncomputable abbrev jdy  : Nat:=28
noncomputable abbrev jbe  : Nat:=29
noncomputable abbrev jaq  : Nat:=30
noncomputable abbrev jcv  : Nat:=31
noncomputable abbrev jcV  : Nat:=32
noncomputable abbrev jcU  : Nat:=33
noncomputable abbrev jj2  : Nat:=34
noncomputable abbrev jb5  : Nat:=35
noncomputable abbrev jdf  : Nat:=36
noncomputable abbrev jcT  : Nat:=37
noncomputable abbrev jb6  : Nat:=38
noncomputable abbrev ja1  : Nat:=39
noncomputable abbrev jbq  : Nat:=40
noncomputable abbrev jb4  : Nat:=41
noncomputable abbrev jbI  : Nat:=42
noncomputable abbrev jeA  : Nat:=43
noncomputable abbrev jlY  : Nat:=44
noncomputable def jeK  : Fun:=⟨"is_whole",["thing"],["thing"],#[.ret (.bop true (.blt .isi #[.v 0,.ty "int"]) #[.not (.blt .isi #[.v 0,.ty "bool"])])]⟩
def jei  : Fun:=⟨"is_within",["thing", "least", "most"],["thing", "least", "most"],#[.ret (.bop true (.call jcj #[.v 0]) #[.cmp2 .LtE .LtE (.v 1) (.v 0) (.v 2)])]⟩
noncomputable def jhi  : Fun:=⟨"top_of",["plan", "period", "s"],["plan", "period", "s", "word", "one", "other", "low", "high"],#[.asg (.t #[.n 3,.n 4,.n 5,.n 6,.n 7]) (.ix (.ix (.v 0) (.int 1)) (.v 2)),.ret (.ife (.cmp .Eq (.v 3) (.str "span")) (.v 7) (.bin .Sub (.v 1) (.v 7)))]⟩
def jef  : Fun:=⟨"window_of",["plan", "period", "s"],["plan", "period", "s", "low"],#[.asg (.n 3) (.ix (.ix (.ix (.v 0) (.int 1)) (.v 2)) (.int 3)),(.ret (.tup #[.v 3,(.blt .min #[.call jg1 #[.v 0,.v 1,.v 2],.bin .Sub (.bin .Add (.v 3) (.v 1)) (.int 1)])]))]⟩
def jdC  : Fun:=⟨"windows_of",["plan", "period"],["plan", "period"],#[.ret (.mkT (.lc [none,some 0,some 1] (.n 0) (.r1 (.blt .len #[.ix (.v 0) (.int 1)])) .nil (.call jgd #[.v 1,.v 2,.v 0])))]⟩
noncomputable def jcZ  : Fun:=⟨"with_window",["windows", "s", "window"],["windows", "s", "window"],#[.ret (.bin .Add (.bin .Add (.sl (.v 0) .no (.so (.v 1))) (.tup #[.v 2])) (.sl (.v 0) (.so (.bin .Add (.v 1) (.int 1))) .no))]⟩
def jdJ  : Fun:=⟨"is_work_of",["stays", "thing"],["stays", "thing"],#[.ret (.bop true (.call jcj #[.v 1]) #[.cmp .In (.v 1) (.v 0)])]⟩
def jdq  : Ss:=#[.asg (.t #[.n 6,.n 7]) (.v 2),(.ret (.bop true (.call ja2 #[.v 6,.int 0,.bin .Sub (.blt .len #[.ix (.v 0) (.int 1)]) (.int 1)]) #[.call jcj #[.v 7],.cmp .In (.v 7) (.tup #[.int 1,.neg (.int 1)])]))]
def jaS  : Ss:=(.cons (.ite (.cmp .NotEq (.blt .len #[.v 2]) (.int 2)) #[.ret (.bl false)] .nil) jdq)
def jdr  : Ss:=(.cons (.ite (.cmp .Eq (.blt .len #[.v 2]) (.int 3)) #[.asg (.t #[.n 3,.n 4,.n 5]) (.v 2),(.ret (.bop true (.cmp .Eq (.v 3) (.str "home")) #[.call jb7 #[.v 1,.v 4],.call jb7 #[.v 1,.v 5]]))] .nil) jaS)
def jeL  : Fun:=⟨"is_entry",["plan", "stays", "thing"],["plan", "stays", "thing", "word", "start", "end", "s", "way"],(.cons (.ite (.not (.blt .isi #[.v 2,.ty "tuple"])) #[.ret (.bl false)] .nil) jdr)⟩
noncomputable def jek  : Fun:=⟨"ends_of",["plan", "entry"],["plan", "entry", "s", "way", "word", "one", "other", "low", "high"],#[.ite (.cmp .Eq (.blt .len #[.v 1]) (.int 3)) #[.ret (.tup #[.ix (.v 1) (.int 1),.ix (.v 1) (.int 2)])] .nil,.asg (.t #[.n 2,.n 3]) (.v 1),.asg (.t #[.n 4,.n 5,.n 6,.n 7,.n 8]) (.ix (.ix (.v 0) (.int 1)) (.v 2)),.ret (.ife (.cmp .Eq (.v 3) (.int 1)) (.tup #[.v 5,.v 6]) (.tup #[.v 6,.v 5]))]⟩
noncomputable def jdV  : Ss:=#[.ret (.blt .all #[.lc [none,some 3] (.n 0) (.r1 (.blt .len #[.v 3])) .nil (.cmp .Eq (.ix (.ix (.v 1) (.bin .Sub (.v 0) (.int 1))) (.int 1)) (.ix (.ix (.v 1) (.v 0)) (.int 0)))])]
def jdW  : Ss:=(.cons (.asg (.n 3) (.lc [none,some 0] (.n 0) (.e (.v 2)) .nil (.call jfB #[.v 1,.v 0]))) jdV)
def jdX  : Ss:=(.cons (.ite (.not (.blt .all #[.lc [none,some 0,some 1] (.n 0) (.e (.v 2)) .nil (.call jeB #[.v 1,.v 2,.v 0])])) #[.ret (.bl false)] .nil) jdW)
def jfO  : Fun:=⟨"is_ring",["plan", "stays", "thing"],["plan", "stays", "thing", "ends"],(.cons (.ite (.not (.bop true (.blt .isi #[.v 2,.ty "tuple"]) #[.cmp2 .LtE .LtE (.int 1) (.blt .len #[.v 2]) (.g 0)])) #[.ret (.bl false)] .nil) jdX)⟩
noncomputable def jcf  : Fun:=⟨"entry_sums",["beats", "windows", "entry"],["beats", "windows", "entry", "apart", "s", "way", "least", "most"],#[.ite (.cmp .Eq (.blt .len #[.v 2]) (.int 3)) #[.asg (.n 3) (.bin .Sub (.ix (.v 0) (.ix (.v 2) (.int 2))) (.ix (.v 0) (.ix (.v 2) (.int 1)))),.ret (.tup #[.v 3,.v 3])] .nil,.asg (.t #[.n 4,.n 5]) (.v 2),.asg (.t #[.n 6,.n 7]) (.ix (.v 1) (.v 4)),.ret (.ife (.cmp .Eq (.v 5) (.int 1)) (.tup #[.v 6,.v 7]) (.tup #[.neg (.v 7),.neg (.v 6)]))]⟩
def jfL  : Fun:=⟨"sums_of",["plan", "period", "beats", "windows", "ring"],["plan", "period", "beats", "windows", "ring", "sums"],#[.asgC 5 (.lc [none,some 2,some 3] (.n 0) (.e (.v 4)) .nil (.call jdA #[.v 1,.v 2,.v 0])),(.ret (.tup #[.blt .sum #[.lc [none,none] (.t #[.n 0,.n 1]) (.e (.v 5)) .nil (.v 0)],.blt .sum #[.lc [none,none] (.t #[.n 0,.n 1]) (.e (.v 5)) .nil (.v 1)]]))]⟩
def jeg  : Fun:=⟨"ring_bars",["plan", "period", "beats", "windows", "ring"],["plan", "period", "beats", "windows", "ring", "least", "most"],#[.asg (.t #[.n 5,.n 6]) (.call jfx #[.v 0,.v 1,.v 2,.v 3,.v 4]),.ret (.cmp .Lt (.bin .Mult (.bin .FloorDiv (.v 6) (.v 1)) (.v 1)) (.v 5))]⟩
noncomputable def jej  : Fun:=⟨"has_shape",["node", "word", "many"],["node", "word", "many"],#[(.ret (.bop true (.blt .isi #[.v 0,.ty "tuple"]) #[.cmp .Eq (.blt .len #[.v 0]) (.v 2),.cmp .Eq (.ix (.v 0) (.int 0)) (.v 1)]))]⟩
def jbN  : Ss:=#[.asg (.t #[.n 8,.n 9]) (.ix (.v 1) (.v 4)),.ret (.ife (.call ja2 #[.v 5,.v 8,.bin .Sub (.v 9) (.int 1)]) .non (.str "cut"))]
def jbO  : Ss:=(.cons (.ite (.not (.call ja2 #[.v 4,.int 0,.bin .Sub (.blt .len #[.ix (.v 0) (.int 1)]) (.int 1)])) #[.ret (.str "span")] .nil) jbN)
def jc0  : Fun:=⟨"split_fault",["plan", "windows", "node"],["plan", "windows", "node", "word", "s", "cut", "lower", "upper", "least", "most"],(.cons (.asg (.t #[.n 3,.n 4,.n 5,.n 6,.n 7]) (.v 2)) jbO)⟩
def jdF  : Fun:=⟨"ring_fault",["plan", "period", "beats", "stays", "windows", "ring"],["plan", "period", "beats", "stays", "windows", "ring"],#[.ite (.not (.call jfA #[.v 0,.v 3,.v 5])) #[.ret (.str "ring")] .nil,.ret (.ife (.call jd2 #[.v 0,.v 1,.v 2,.v 4,.v 5]) .non (.str "bar"))]⟩
noncomputable def jcq  : Ss:=#[.ret (.str "shape")]
def jcr  : Ss:=(.cons (.ite (.call ja3 #[.v 5,.str "split",.int 5]) #[.ret (.call jcS #[.v 0,.v 4,.v 5])] .nil) jcq)
def jdG  : Fun:=⟨"node_fault",["plan", "period", "beats", "stays", "windows", "node"],["plan", "period", "beats", "stays", "windows", "node"],(.cons (.ite (.call ja3 #[.v 5,.str "ring",.int 2]) #[.ret (.call jdv #[.v 0,.v 1,.v 2,.v 3,.v 4,.ix (.v 5) (.int 1)])] .nil) jcr)⟩
def jbM  : Ss:=#[.asg (.t #[.n 2,.n 3,.n 4,.n 5,.n 6]) (.v 1),.asg (.t #[.n 7,.n 8]) (.ix (.v 0) (.v 3)),(.ret (.lst #[.tup #[.v 5,.call jbo #[.v 0,.v 3,.tup #[.v 7,.v 4]]],.tup #[.v 6,.call jbo #[.v 0,.v 3,.tup #[.bin .Add (.v 4) (.int 1),.v 8]]]]))]
def jbu  : Fun:=⟨"split_sides",["windows", "node"],["windows", "node", "word", "s", "cut", "lower", "upper", "least", "most"],(.cons (.ite (.cmp .NotEq (.ix (.v 1) (.int 0)) (.str "split")) #[.ret (.lst .nil)] .nil) jbM)⟩
noncomputable def jcw  : Fun:=⟨"look_through",["thing", "start", "fault_of", "sides_of"],["thing", "start", "fault_of", "sides_of", "waiting", "at", "node", "held", "word"],#[.asg (.n 4) (.lst #[.tup #[.v 0,.v 1]]),.asg (.n 5) (.int 0),(.wh (.v 4) #[.asg (.t #[.n 6,.n 7]) (.meth .pop (.v 4) .nil),.asg (.n 8) (.app 2 #[.v 7,.v 6]),.ite (.cmp .IsNot (.v 8) .non) #[.raise 1 #[.v 8,.v 5]] .nil,.expr (.meth .extend (.v 4) #[.rev (.app 3 #[.v 7,.v 6]) (.neg (.int 1))]),.aug 5 .Add (.int 1)]),.ret (.bl true)]⟩
noncomputable def jcp  : Ss:=#[.ret (.ife (.bop false (.cmp .In (.v 3) (.v 1)) #[.cmp .In (.v 3) (.v 2)]) (.str "work") .non)]
def jdE  : Fun:=⟨"stay_fault",["plan", "stays", "moved", "work"],["plan", "stays", "moved", "work"],(.cons (.ite (.not (.call ja2 #[.v 3,.int 0,.bin .Sub (.blt .len #[.ix (.v 0) (.int 0)]) (.int 1)])) #[.ret (.str "work")] .nil) jcp)⟩
noncomputable def jco  : Ss:=#[(.ret (.lst #[(.tup #[.v 6,(.tup #[.v 0,.bin .Add (.v 1) (.tup #[.v 5]),.v 2])]),.tup #[.v 7,.tup #[.v 0,.v 1,.bin .Add (.v 2) (.tup #[.v 5])]]]))]
def jdD  : Fun:=⟨"stay_sides",["windows", "stays", "moved", "node"],["windows", "stays", "moved", "node", "word", "work", "kept_cases", "moved_cases"],(.cons (.asg (.t #[.n 4,.n 5,.n 6,.n 7]) (.v 3)) jco)⟩
def jaP  : Ss:=#[.ret (.lc [none,none,some 3,some 4] (.t #[.n 0,.n 1]) (.e (.call jbp #[.v 2,.v 1])) .nil (.tup #[.v 0,.tup #[.v 1,.v 2,.v 3]]))]
def jaB  : Ss:=(.cons (.ite (.cmp .Eq (.ix (.v 1) (.int 0)) (.str "stay")) #[.ret (.call jdt #[.v 2,.v 3,.v 4,.v 1])] .nil) jaP)
def jaF  : Fun:=⟨"move_sides",["held", "node"],["held", "node", "windows", "stays", "moved"],(.cons (.asg (.t #[.n 2,.n 3,.n 4]) (.v 0)) jaB)⟩
noncomputable abbrev je4  : Nat:=45
noncomputable abbrev je6  : Nat:=46
noncomputable def jcs  : Ss:=#[.asg (.t #[.n 4,.n 5]) (.meth .pop (.v 2) .nil),.asg (.n 6) (.call 46 #[.v 5,.v 4,.v 7,.v 8,.v 9,.v 10]),.ite (.cmp .IsNot (.v 6) .non) #[.raise 1 #[.v 6,.v 3]] .nil,.expr (.meth .extend (.v 2) #[.rev (.call 21 #[.v 5,.v 4]) (.neg (.int 1))]),.aug 3 .Add (.int 1)]
def jca  : Fun:=⟨"lets_moved",["plan", "period", "beats", "count", "thing"],["plan", "period", "beats", "count", "thing", "fault_of"],#[(.ret (.call 45 #[.v 4,(.tup #[.call jb3 #[.v 0,.v 1],.tup .nil,.tup .nil]),.non,.non,.non,.non,.non,.v 0,.v 1,.v 2,.v 3]))]⟩
def jbs  : Fun:=⟨"lt@lets_moved",["thing@", "start@", "waiting@", "at@", "node@", "held@", "word@", "plan", "period", "beats", "count"],["thing@", "start@", "waiting@", "at@", "node@", "held@", "word@", "plan", "period", "beats", "count"],#[.asg (.n 2) (.lst #[.tup #[.v 0,.v 1]]),.asg (.n 3) (.int 0),.wh (.v 2) jcs,.ret (.bl true)]⟩
def jbt  : Fun:=⟨"fault_of@lets_moved",["held", "node", "plan", "period", "beats", "count"],["held", "node", "plan", "period", "beats", "count", "windows", "stays", "moved"],#[.asg (.t #[.n 6,.n 7,.n 8]) (.v 0),.ite (.call ja3 #[.v 1,.str "stay",.int 4]) #[.ret (.call jdu #[.v 2,.v 7,.v 8,.ix (.v 1) (.int 1)])] .nil,.ite (.call ja3 #[.v 1,.str "enough",.int 1]) #[.ret (.ife (.cmp .GtE (.blt .len #[.v 8]) (.v 5)) .non (.str "enough"))] .nil,.ret (.call jdw #[.v 2,.v 3,.v 4,.v 7,.v 6,.v 1])]⟩
def jdj  : Nst:=⟨270,18,45,46,21,[0,1,2,3],5, "fault_of",["held", "node"], "move_sides",(.v 4),(.tup (.cons (.call jb3 (.cons (.v 0) (.cons (.v 1) .nil))) (.cons (.tup .nil) (.cons (.tup .nil) .nil))))⟩
noncomputable def jfN  : Fun:=⟨"_law_fed",["_law_script"],["_law_script"],#[.ret (.dic #[.str "cells",.sl (.v 0) .no (.so (.int 63)),.str "at",.int 0,.str "left",.int 0,.str "turn",.int 0])]⟩
noncomputable def jeJ  : Fun:=⟨"_law_draw",["_law_feed", "_law_many"],["_law_feed", "_law_many", "_law_digit", "_law_cells", "_law_at", "_law_cell", "_law_mixed"],#[.setS (.v 0) (.str "turn") (.bin .Add (.ix (.v 0) (.str "turn")) (.int 1)),.ite (.cmp .Gt (.ix (.v 0) (.str "left")) (.int 0)) #[.asg (.n 2) (.bin .Mod (.ix (.v 0) (.str "left")) (.v 1)),.setS (.v 0) (.str "left") (.bin .FloorDiv (.ix (.v 0) (.str "left")) (.v 1)),.ret (.v 2)] .nil,.asg (.n 3) (.ix (.v 0) (.str "cells")),.asg (.n 4) (.ix (.v 0) (.str "at")),.setS (.v 0) (.str "at") (.bin .Add (.v 4) (.int 1)),.asg (.n 5) (.ife (.cmp .NotEq (.v 3) (.lst .nil)) (.ix (.v 3) (.bin .Mod (.v 4) (.blt .len #[.v 3]))) (.int 0)),.ite (.bop true (.cmp .GtE (.v 5) (.bin .Pow (.int 10) (.int 18))) #[.cmp .Lt (.v 4) (.blt .len #[.v 3])]) #[.setS (.v 0) (.str "left") (.bin .FloorDiv (.v 5) (.v 1)),.ret (.bin .Mod (.v 5) (.v 1))] .nil,.asg (.n 6) (.bin .Mod (.bin .Add (.bin .Add (.bin .Mult (.bin .Mod (.v 5) (.int 1000003)) (.int 48271)) (.bin .Mult (.int 7919) (.ix (.v 0) (.str "turn")))) (.int 104729)) (.int 2147483647)),.asg (.n 6) (.bin .Mod (.bin .Add (.bin .Add (.bin .Mult (.bin .FloorDiv (.v 6) (.int 64)) (.int 69621)) (.bin .Mult (.bin .Mult (.int 31) (.ix (.v 0) (.str "turn"))) (.ix (.v 0) (.str "turn")))) (.int 17)) (.int 2147483587)),.ret (.bin .Mod (.bin .FloorDiv (.v 6) (.int 64)) (.v 1))]⟩
def jfM  : Fun:=⟨"_law_fit",["_law_feed", "_law_cycle", "_law_beats", "_law_one", "_law_other"],["_law_feed", "_law_cycle", "_law_beats", "_law_one", "_law_other", "_law_gap", "_law_far", "_law_low"],#[.asg (.n 5) (.bin .Mod (.bin .Sub (.ix (.v 2) (.v 4)) (.ix (.v 2) (.v 3))) (.v 1)),(.ite (.cmp .Eq (.call jab #[.v 0,.int 4]) (.int 0)) #[(.ret (.tup #[.str "apart",.v 3,.v 4,.call jab #[.v 0,.bin .Add (.v 5) (.int 1)],.call jab #[.v 0,.bin .Add (.bin .Sub (.v 1) (.v 5)) (.int 1)]]))] .nil),.asg (.n 6) (.bin .Add (.v 5) (.bin .Mult (.v 1) (.ix (.lst #[.int 0,.int 0,.int 0,.int 1,.int 2]) (.call jab #[.v 0,.int 5])))),.asg (.n 7) (.bin .Sub (.v 6) (.blt .min #[.v 6,.ix (.lst #[.int 0,.int 1,.int 2,.call jab #[.v 0,.v 1]]) (.call jab #[.v 0,.int 4])])),.ret (.tup #[.str "span",.v 3,.v 4,.v 7,.bin .Add (.v 6) (.ix (.lst #[.int 0,.int 0,.int 1,.call jab #[.v 0,.v 1]]) (.call jab #[.v 0,.int 4]))])]⟩
def jcy  : Fun:=⟨"_law_any_span",["_law_feed", "_law_cycle", "_law_one", "_law_other"],["_law_feed", "_law_cycle", "_law_one", "_law_other", "_law_low"],#[(.asg (.n 4) (.ix (.lst #[.int 0,.call jab #[.v 0,.v 1],.call jab #[.v 0,.bin .Mult (.int 3) (.v 1)],.v 1]) (.call jab #[.v 0,.int 4]))),(.ite (.cmp .Eq (.call jab #[.v 0,.int 3]) (.int 0)) #[(.ret (.tup #[.str "apart",.v 2,.v 3,.call jab #[.v 0,.bin .Add (.v 1) (.int 1)],.call jab #[.v 0,.bin .Add (.v 1) (.int 2)]]))] .nil),(.ret (.tup #[.str "span",.v 2,.v 3,.v 4,(.bin .Add (.v 4) (.ix (.lst #[.int 0,.int 0,.int 1,.call jab #[.v 0,.v 1],.bin .Sub (.v 1) (.int 1),.bin .Mult (.int 2) (.v 1)]) (.call jab #[.v 0,.int 6])))]))]⟩
def jaQ  : Ss:=#[.asg (.n 6) (.rev (.v 6) (.ix (.lst #[.int 1,.neg (.int 1)]) (.blt .int #[.cmp .Eq (.call jab #[.v 0,.int 3]) (.int 0)]))),(.ret (.tup #[.sl (.tup #[.str "a",.str "ab",.str "works",.str "span",.str "apart",.str "ring",.str "b",.str "stay"]) .no (.so (.v 1)),.mkT (.v 6)]))]
def ja6  : Ss:=(.cons (.asg (.n 6) (.bin .Add (.v 6) (.bin .Mult (.sl (.v 6) .no (.so (.int 1))) (.blt .int #[.bop true (.cmp2 .Lt .Lt (.int 0) (.blt .len #[.v 6]) (.v 3)) #[.cmp .Eq (.call jab #[.v 0,.int 4]) (.int 0)]])))) jaQ)
def jay  : Ss:=#[.asg (.n 11) (.bop false (.cmp .Eq (.v 5) (.int 5)) #[.bop true (.cmp .Gt (.v 5) (.int 2)) #[.cmp .Eq (.call jab #[.v 0,.int 5]) (.int 0)]]),.expr (.meth .append (.v 6) #[.ife (.v 11) (.call ja7 #[.v 0,.v 2,.v 9,.v 10]) (.call jd3 #[.v 0,.v 2,.v 4,.v 9,.v 10])])]
def jaK  : Ss:=(.cons (.asg (.t #[.n 9,.n 10]) (.ix (.lst #[.tup #[.v 9,.v 10],.tup #[.v 10,.v 9]]) (.call jab #[.v 0,.int 2]))) jay)
def jaL  : Ss:=(.cons (.ite (.cmp .Lt (.bin .Add (.v 8) (.int 1)) (.v 1)) #[.par [9,10] #[.bin .Add (.v 8) (.int 1),.call jab #[.v 0,.bin .Add (.v 8) (.int 1)]]] .nil) jaK)
def jaM  : Ss:=(.cons (.par [9,10] #[.call jab #[.v 0,.v 1],.call jab #[.v 0,.v 1]]) (.cons (.ite (.bop true (.cmp .Eq (.v 9) (.v 10)) #[.cmp .Gt (.call jab #[.v 0,.int 4]) (.int 0)]) #[.asg (.n 10) (.bin .Mod (.bin .Add (.v 9) (.int 1)) (.v 1))] .nil) jaL))
def jct  : Ss:=(.cons (.fr (.n 8) (.r1 (.blt .min #[.v 3,.v 7])) jaM) ja6)
def jcu  : Ss:=(.cons (.asg (.n 3) (.ix (.lst #[.v 3,.int 24]) (.blt .int #[.cmp .Eq (.call jab #[.v 0,.int 16]) (.int 0)]))) (.cons (.asg (.n 5) (.call jab #[.v 0,.int 6])) (.cons (.asg (.n 6) (.lst .nil)) (.cons (.asg (.n 7) (.ix (.lst #[.bin .Sub (.v 1) (.int 1),.v 1,.bin .Add (.v 1) (.int 1),.call jab #[.v 0,.bin .Add (.v 3) (.int 1)],.v 3,.v 1]) (.call jab #[.v 0,.int 6]))) jct))))
def jdI  : Fun:=⟨"_law_a_plan",["_law_feed", "_law_works", "_law_cycle", "_law_most"],["_law_feed", "_law_works", "_law_cycle", "_law_most", "_law_beats", "_law_way", "_law_spans", "_law_many", "_law_k", "_law_one", "_law_other", "_law_odd"],(.cons (.asgC 4 (.lc [none,some 0,some 2] (.n 0) (.r1 (.v 1)) .nil (.call jab #[.v 1,.v 2]))) jcu)⟩
noncomputable def jdH  : Fun:=⟨"_law_window",["_law_plan", "_law_cycle", "_law_s"],["_law_plan", "_law_cycle", "_law_s", "_law_word", "_law_one", "_law_other", "_law_low", "_law_high", "_law_top"],#[.asg (.t #[.n 3,.n 4,.n 5,.n 6,.n 7]) (.ix (.ix (.v 0) (.int 1)) (.v 2)),.asg (.n 8) (.ife (.cmp .Eq (.v 3) (.str "span")) (.v 7) (.bin .Sub (.v 1) (.v 7))),.ret (.tup #[.v 6,.blt .min #[.v 8,.bin .Sub (.bin .Add (.v 6) (.v 1)) (.int 1)]])]⟩
def jbf  : Fun:=⟨"_law_all_windows",["_law_plan", "_law_cycle"],["_law_plan", "_law_cycle"],#[.ret (.mkT (.lc [none,some 0,some 1] (.n 0) (.r1 (.blt .len #[.ix (.v 0) (.int 1)])) .nil (.call jdy #[.v 1,.v 2,.v 0])))]⟩
noncomputable def jc4  : Fun:=⟨"_law_is_from",["_law_least", "_law_most", "_law_thing"],["_law_least", "_law_most", "_law_thing"],#[(.ret (.bop true (.blt .isi #[.v 2,.ty "int"]) #[.not (.blt .isi #[.v 2,.ty "bool"]),.cmp2 .LtE .LtE (.v 0) (.v 2) (.v 1)]))]⟩
noncomputable def jaT  : Ss:=#[.asg (.t #[.n 4,.n 5]) (.sl (.ix (.ix (.v 0) (.int 1)) (.ix (.v 2) (.int 0))) (.so (.int 1)) (.so (.int 3))),(.ret (.ix (.lst #[.tup #[.v 4,.v 5],.tup #[.v 5,.v 4]]) (.blt .int #[.cmp .Eq (.ix (.v 2) (.int 1)) (.neg (.int 1))])))]
def jbv  : Ss:=(.cons (.ite (.bop false (.not (.call jaq #[.int 0,.bin .Sub (.blt .len #[.ix (.v 0) (.int 1)]) (.int 1),.ix (.v 2) (.int 0)])) #[.not (.call jaq #[.neg (.int 1),.int 1,.ix (.v 2) (.int 1)]),.cmp .Eq (.ix (.v 2) (.int 1)) (.int 0)]) #[.ret .non] .nil) jaT)
def jaU  : Ss:=(.cons (.ite (.cmp .Eq (.blt .len #[.v 2]) (.int 3)) #[.asgC 3 (.lc [none,some 1] (.n 0) (.e (.sl (.v 2) (.so (.int 1)) .no)) .nil (.bop true (.call jaq #[.int 0,.int 7,.v 0]) #[.cmp .In (.v 0) (.v 1)])),.ret (.ife (.bop true (.blt .isi #[.ix (.v 2) (.int 0),.ty "str"]) #[.cmp .Eq (.ix (.v 2) (.int 0)) (.str "home"),.cmp .NotIn (.bl false) (.v 3)]) (.sl (.v 2) (.so (.int 1)) .no) .non)] .nil) jbv)
def jcx  : Fun:=⟨"_law_two_ends",["_law_plan", "_law_stays", "_law_entry"],["_law_plan", "_law_stays", "_law_entry", "_law_fine", "_law_one", "_law_other"],(.cons (.ite (.bop false (.not (.blt .isi #[.v 2,.ty "tuple"])) #[.cmp .NotIn (.blt .len #[.v 2]) (.tup #[.int 2,.int 3])]) #[.ret .non] .nil) jaU)⟩
noncomputable def jbX  : Ss:=#[.ret (.cmp .Eq (.lc [none,some 3] (.n 0) (.r1 (.blt .len #[.v 3])) #[.cmp .NotEq (.ix (.ix (.v 1) (.bin .Sub (.v 0) (.int 1))) (.int 1)) (.ix (.ix (.v 1) (.v 0)) (.int 0))] (.v 0)) (.lst .nil))]
def jbY  : Ss:=(.cons (.ite (.cmp .In .non (.v 3)) #[.ret (.bl false)] .nil) jbX)
def jbZ  : Ss:=(.cons (.asg (.n 3) (.lc [none,some 0,some 1] (.n 0) (.e (.v 2)) .nil (.call jcv #[.v 1,.v 2,.v 0]))) jbY)
def jc3  : Fun:=⟨"_law_is_ring",["_law_plan", "_law_stays", "_law_thing"],["_law_plan", "_law_stays", "_law_thing", "_law_ends"],(.cons (.ite (.bop false (.not (.blt .isi #[.v 2,.ty "tuple"])) #[.not (.cmp2 .LtE .LtE (.int 1) (.blt .len #[.v 2]) (.int 60))]) #[.ret (.bl false)] .nil) jbZ)⟩
noncomputable def jbQ  : Ss:=#[.ret (.v 3)]
def jbR  : Ss:=(.cons (.fr (.n 4) (.e (.v 2)) #[(.ite (.cmp .Eq (.blt .len #[.v 4]) (.int 3)) #[.asg (.n 5) (.bin .Mult (.tup #[.bin .Sub (.ix (.v 0) (.ix (.v 4) (.int 2))) (.ix (.v 0) (.ix (.v 4) (.int 1)))]) (.int 2))] #[.asg (.t #[.n 6,.n 7]) (.ix (.v 1) (.ix (.v 4) (.int 0))),(.asg (.n 5) (.ix (.lst #[.tup #[.v 6,.v 7],.tup #[.bin .Sub (.int 0) (.v 7),.bin .Sub (.int 0) (.v 6)]]) (.blt .int #[.cmp .Eq (.ix (.v 4) (.int 1)) (.neg (.int 1))])))]),.asg (.n 3) (.tup #[.bin .Add (.ix (.v 3) (.int 0)) (.ix (.v 5) (.int 0)),.bin .Add (.ix (.v 3) (.int 1)) (.ix (.v 5) (.int 1))])]) jbQ)
def jc2  : Fun:=⟨"_law_sums_of",["_law_beats", "_law_windows", "_law_ring"],["_law_beats", "_law_windows", "_law_ring", "_law_sums", "_law_entry", "_law_ends", "_law_low", "_law_high"],(.cons (.asg (.n 3) (.tup #[.int 0,.int 0])) jbR)⟩
noncomputable def jhj  : Fun:=⟨"_law_up",["_law_cycle", "_law_number"],["_law_cycle", "_law_number"],#[.ret (.bin .Mult (.bin .FloorDiv (.bin .Sub (.bin .Add (.v 1) (.v 0)) (.int 1)) (.v 0)) (.v 0))]⟩
def jcd  : Fun:=⟨"_law_is_barred",["_law_cycle", "_law_beats", "_law_windows", "_law_ring"],["_law_cycle", "_law_beats", "_law_windows", "_law_ring", "_law_least", "_law_most"],#[.asg (.t #[.n 4,.n 5]) (.call jcU #[.v 1,.v 2,.v 3]),.ret (.cmp .Gt (.call jj2 #[.v 0,.v 4]) (.v 5))]⟩
noncomputable def jeH  : Fun:=⟨"_law_with",["_law_windows", "_law_s", "_law_least", "_law_most"],["_law_windows", "_law_s", "_law_least", "_law_most"],#[.ret (.bin .Add (.bin .Add (.sl (.v 0) .no (.so (.v 1))) (.tup #[.tup #[.v 2,.v 3]])) (.sl (.v 0) (.so (.bin .Add (.v 1) (.int 1))) .no))]⟩
noncomputable def ja0  : Ss:=#[.ret (.ife (.cmp .Eq (.blt .len #[.v 1]) (.ix (.v 2) (.ix (.v 1) (.int 0)))) (.ix (.v 1) (.int 0)) (.str ""))]
def jbP  : Ss:=(.cons (.ite (.bop false (.not (.blt .isi #[.v 1,.ty "tuple"])) #[.cmp .Eq (.v 1) (.tup .nil),.not (.blt .isi #[.ix (.v 1) (.int 0),.ty "str"]),.cmp .NotIn (.ix (.v 1) (.int 0)) (.v 0)]) #[.ret (.str "")] .nil) ja0)
def jc1  : Fun:=⟨"_law_word_of",["_law_words", "_law_node"],["_law_words", "_law_node", "_law_many"],(.cons (.asg (.n 2) (.dic #[.str "ring",.int 2,.str "split",.int 5,.str "prices",.int 2,.str "stay",.int 4,.str "enough",.int 1])) jbP)⟩
def jce  : Fun:=⟨"_law_few_shape",["_law_feed"],["_law_feed", "_law_works"],#[(.ite (.cmp .Eq (.call jab #[.v 0,.int 16]) (.int 0)) #[(.ret (.tup #[.bin .Add (.int 6) (.call jab #[.v 0,.int 3]),.bin .Add (.int 1) (.call jab #[.v 0,.int 2])]))] .nil),.asg (.n 1) (.ix (.lst #[.int 2,.int 3,.int 3,.int 4,.int 2,.int 4,.int 5,.int 1]) (.call jab #[.v 0,.int 8])),.ret (.tup #[.v 1,.bin .Add (.int 1) (.call jab #[.v 0,.ix (.lst #[.int 30,.int 30,.int 7,.int 4,.int 2]) (.bin .Sub (.v 1) (.int 1))])])]⟩
def ja9  : Ss:=#[.ret (.ife (.call jb5 #[.ix (.v 0) (.str "cycle"),.ix (.v 0) (.str "beats"),.v 4,.ix (.v 1) (.int 1)]) .non (.tup #[.str "bar",.v 3]))]
def jba  : Ss:=(.cons (.ite (.not (.call jcV #[.ix (.v 0) (.str "plan"),.v 5,.ix (.v 1) (.int 1)])) #[.ret (.tup #[.str "ring",.v 3])] .nil) ja9)
def jaJ  : Ss:=(.cons (.ite (.cmp .Eq (.ix (.v 1) (.int 0)) (.str "enough")) #[.ret (.ife (.cmp .GtE (.blt .len #[.v 6]) (.ix (.v 0) (.str "count"))) .non (.tup #[.str "enough",.v 3]))] .nil) jba)
def jcb  : Fun:=⟨"_law_mover_end",["_law_book", "_law_node", "_law_state", "_law_at"],["_law_book", "_law_node", "_law_state", "_law_at", "_law_windows", "_law_stays", "_law_gone"],(.cons (.asg (.t #[.n 4,.n 5,.n 6]) (.v 2)) jaJ)⟩
def jbh  : Ss:=#[(.asg (.n 12) (.call jbq #[.v 0,.ix (.v 1) (.bin .Sub (.blt .len #[.v 1]) (.int 2)),.ix (.v 9) (.int 0)])),(.ret (.ife (.cmp .IsNot (.v 12) .non) (.v 12) (.call jbq #[.v 0,.ix (.v 1) (.bin .Sub (.blt .len #[.v 1]) (.int 1)),.ix (.v 9) (.int 1)])))]
noncomputable def jbB  : Ss:=#[(.asg (.n 9) (.lst #[(.tup #[.v 3,.bin .Add (.v 4) (.tup #[.v 8]),.v 5]),.tup #[.v 3,.v 4,.bin .Add (.v 5) (.tup #[.v 8])]]))]
def jbC  : Ss:=(.cons (.ite (.bop false (.not (.call jaq #[.int 0,.bin .Sub (.blt .len #[.ix (.ix (.v 0) (.str "plan")) (.int 0)]) (.int 1),.v 8])) #[.cmp .In (.v 8) (.bin .Add (.v 4) (.v 5))]) #[.ret (.tup #[.str "work",.v 6])] .nil) jbB)
def jbw  : Ss:=#[(.expr (.meth .append (.v 9) #[(.tup #[.call jdf #[.v 3,.v 8,.bin .Add (.ix (.v 1) (.int 2)) (.int 1),.v 11],.v 4,.v 5])]))]
def jbx  : Ss:=(.cons (.asg (.n 9) (.lst #[(.tup #[.call jdf #[.v 3,.v 8,.v 10,.ix (.v 1) (.int 2)],.v 4,.v 5])])) jbw)
def jby  : Ss:=(.cons (.ite (.not (.call jaq #[.v 10,.bin .Sub (.v 11) (.int 1),.ix (.v 1) (.int 2)])) #[.ret (.tup #[.str "cut",.v 6])] .nil) jbx)
def jbz  : Ss:=(.cons (.asg (.t #[.n 10,.n 11]) (.ix (.v 3) (.v 8))) jby)
def jbA  : Ss:=(.cons (.ite (.not (.call jaq #[.int 0,.bin .Sub (.blt .len #[.ix (.ix (.v 0) (.str "plan")) (.int 1)]) (.int 1),.v 8])) #[.ret (.tup #[.str "span",.v 6])] .nil) jbz)
def jbi  : Ss:=(.cons (.ite (.cmp .Eq (.v 7) (.str "stay")) jbC jbA) jbh)
def jbj  : Ss:=(.cons (.asg (.n 8) (.ix (.v 1) (.int 1))) jbi)
def jaG  : Ss:=(.cons (.ite (.bop false (.cmp .Eq (.v 7) (.str "ring")) #[.cmp .Eq (.v 7) (.str "enough")]) #[.ret (.call ja1 #[.v 0,.v 1,.v 2,.v 6])] .nil) jbj)
def jcJ  : Ss:=(.cons (.ite (.cmp .Eq (.v 7) (.str "")) #[.ret (.tup #[.str "shape",.v 6])] .nil) jaG)
def jcK  : Ss:=(.cons (.asg (.n 7) (.call jcT #[.lst #[.str "ring",.str "split",.str "stay",.str "enough"],.v 1])) jcJ)
def jeh  : Fun:=⟨"_law_mover",["_law_book", "_law_node", "_law_state"],["_law_book", "_law_node", "_law_state", "_law_windows", "_law_stays", "_law_gone", "_law_at", "_law_word", "_law_thing", "_law_below", "_law_least", "_law_most", "_law_found"],(.cons (.asg (.t #[.n 3,.n 4,.n 5]) (.v 2)) (.cons (.asg (.n 6) (.ix (.v 0) (.str "at"))) (.cons (.setS (.v 0) (.str "at") (.bin .Add (.v 6) (.int 1))) jcK)))⟩
def jcc  : Fun:=⟨"_law_moved_due",["_law_plan", "_law_cycle", "_law_beats", "_law_count", "_law_thing"],["_law_plan", "_law_cycle", "_law_beats", "_law_count", "_law_thing", "_law_book", "_law_found"],#[.asg (.n 5) (.dic #[.str "plan",.v 0,.str "cycle",.v 1,.str "beats",.v 2,.str "count",.v 3,.str "at",.int 0]),(.asg (.n 6) (.call jbq #[.v 5,.v 4,(.tup #[.call jbe #[.v 0,.v 1],.tup .nil,.tup .nil])])),.ret (.ife (.cmp .Is (.v 6) .non) (.bl true) (.v 6))]⟩
def jbK  : Fun:=⟨"_law_moved_told",["_law_plan", "_law_cycle", "_law_beats", "_law_count", "_law_thing"],["_law_plan", "_law_cycle", "_law_beats", "_law_count", "_law_thing", "_law_found", "e", "_law_others"],#[.asg (.n 5) (.str "odd"),(.tr #[.asg (.n 5) (.call jdx #[.v 0,.v 1,.v 2,.v 3,.v 4])] 0 6 [.asg 7 (.cond true (false,.isi [3,5,4,2]) []),.ifa true (false,.is1 1) [(false,.isiV),(true,.v 7)] 5 (.tup [(.att "word"),(.att "at")])]),.ret (.v 5)]⟩
noncomputable def jcL  : Ss:=#[(.ret (.bin .Add (.v 5) (.lst #[.v 8,.tup #[.str "split",.int 0,.int 0,.v 3],.tup #[.str "split",.int 0,.bl true,.v 3,.v 3],.tup #[.str "split",.int 0,.neg (.int 1),.v 3,.v 3]])))]
noncomputable def jbD  : Ss:=#[.asg (.n 8) (.tup #[.str "stay",.bin .Sub (.bin .Sub (.v 2) (.int 1)) (.v 6),.v 3,.v 8])]
def jcM  : Ss:=(.cons (.fr (.n 6) (.r1 (.v 2)) jbD) jcL)
def jbk  : Ss:=(.cons (.asg (.n 8) (.v 3)) jcM)
def jbS  : Ss:=#[(.expr (.meth .append (.v 5) #[(.tup #[.str "split",.v 7,.call jab #[.v 0,.int 3],.v 3,.v 3])]))]
def jbT  : Ss:=(.cons (.fr (.n 7) (.e (.tup #[.int 0,.blt .len #[.ix (.v 1) (.int 1)],.neg (.int 1),.bl true,.non])) jbS) jbk)
def jdk  : Ss:=(.cons (.asg (.n 5) (.bin .Add (.v 5) (.lst #[(.tup #[.str "stay",.int 0,.tup #[.str "ring",.tup #[.tup #[.str "home",.int 0,.int 0,.int 0]]],.v 3]),(.tup #[.str "stay",.int 0,.tup #[.str "ring",.tup #[.tup #[.str "house",.int 0,.int 0]]],.v 3])]))) jbT)
def jdl  : Ss:=(.cons (.asg (.n 5) (.bin .Add (.v 5) (.lst #[(.tup #[.str "stay",.int 0,.tup #[.str "ring",.tup #[.tup #[.str "home",.int 0,.int 0]]],.v 3]),.tup #[.str "stay",.int 0,.v 3,.tup #[.str "ring",.tup #[.tup #[.str "home",.int 0,.int 0]]]]]))) jdk)
def jbU  : Ss:=(.cons (.asg (.n 5) (.bin .Add (.v 5) (.lst #[(.tup #[.str "stay",.int 0,.tup #[.str "stay",.int 0,.v 3,.v 3],.v 3]),.tup #[.str "stay",.int 0,.v 3,.tup #[.str "stay",.int 0,.v 3,.v 3]]]))) jdl)
def jbV  : Ss:=#[(.expr (.meth .append (.v 5) #[(.tup #[.str "stay",.v 6,.ix (.lst #[.v 4,.v 3]) (.call jab #[.v 0,.int 2]),.v 3])]))]
def jbW  : Ss:=(.cons (.fr (.n 6) (.e (.tup #[.int 0,.bin .Sub (.v 2) (.int 1),.v 2,.neg (.int 1),.bl true,.non,.str "0",.bin .Pow (.int 10) (.int 39),.tup #[.int 0]])) jbV) jbU)
def jdm  : Ss:=(.cons (.asg (.n 5) (.bin .Add (.v 5) (.lst #[.tup #[.str "stay",.int 0,.v 3],.tup #[.str "stay",.int 0,.v 3,.v 3,.v 3],.lst #[.str "stay",.int 0,.v 3,.v 3],.tup #[.str "stay",.int 0,.non,.v 3]]))) jbW)
def jdn  : Ss:=(.cons (.asg (.n 5) (.bin .Add (.v 5) (.lst #[.non,.bl true,.int 0,.str "",.tup .nil,.lst .nil,.dic .nil,.tup #[.tup .nil],.tup #[.v 3],(.tup #[.lst #[.str "stay"],.int 0,.v 3,.v 3]),.tup #[.str "ring",.non],.tup #[.int 0,.int 1,.int 2,.int 3]]))) jdm)
def jdo  : Ss:=(.cons (.asg (.n 5) (.lst #[.v 3,.tup #[.str "enough",.int 0],.lst #[.str "enough"],.tup #[.str "Enough"],.str "enough",.tup #[.str "prices",.tup .nil],.tup #[.str "ring",.tup .nil],.tup #[.str "ring"],.v 4])) jdn)
def jdp  : Ss:=(.cons (.asg (.n 4) (.tup #[.str "ring",(.tup #[.tup #[.str "home",.int 0,.bin .Sub (.v 2) (.int 1)],.tup #[.str "home",.bin .Sub (.v 2) (.int 1),.int 0]])])) jdo)
def jeI  : Fun:=⟨"_law_menu",["_law_feed", "_law_plan", "_law_works"],["_law_feed", "_law_plan", "_law_works", "_law_end", "_law_home", "_law_some", "_law_work", "_law_s", "_law_chain"],(.cons (.asg (.n 3) (.tup #[.str "enough"])) jdp)⟩
noncomputable def jbE  : Ss:=#[.ite (.bop false (.cmp .NotEq (.blt .repr #[.v 11]) (.blt .repr #[.v 10])) #[.cmp .NotEq (.blt .repr #[.v 7]) (.v 8)]) #[.ret (.bl false)] .nil]
def jbF  : Ss:=(.cons (.asg (.n 11) (.call jbI #[.v 5,.v 4,.v 6,.v 9,.v 7])) jbE)
def jaV  : Ss:=(.cons (.asg (.n 10) (.call jb4 #[.v 5,.v 4,.v 6,.v 9,.v 7])) jbF)
def jcN  : Ss:=#[.fr (.n 9) (.e (.tup #[.int 0,.int 1,.call jab #[.v 1,.int 9]])) jaV]
def jbl  : Ss:=(.cons (.asg (.n 8) (.blt .repr #[.v 7])) jcN)
def jc9  : Ss:=#[.fr (.n 7) (.e (.call jeA #[.v 1,.v 5,.v 3])) jbl]
def jeu  : Ss:=(.cons (.asg (.n 6) (.mkT (.lc [none,some 1,some 4] (.n 0) (.r1 (.v 3)) .nil (.call jab #[.v 1,.v 2])))) jc9)
def jda  : Ss:=(.cons (.asg (.n 5) (.call jdz #[.v 1,.v 3,.v 4,.int 9])) jeu)
def jev  : Ss:=(.cons (.ite (.cmp .Eq (.call jab #[.v 1,.int 4]) (.int 0)) #[.asg (.t #[.n 3,.n 4]) (.tup #[.int 8,.int 600])] .nil) jda)
def jdb  : Ss:=(.cons (.asg (.t #[.n 3,.n 4]) (.call jb6 #[.v 1])) jev)
def jh7  : Ss:=#[.fr (.n 2) (.r1 (.int 3)) jdb,.ret (.bl true)]
def jou  : Fun:=⟨"law",["_law_script"],["_law_script", "_law_feed", "_law_k", "_law_works", "_law_cycle", "_law_plan", "_law_beats", "_law_thing", "_law_former", "_law_count", "_law_due", "_law_told"],(.cons (.asg (.n 1) (.call jfz #[.v 0])) jh7)⟩
def T  : Tab:=⟨[jeK,jei,jhi,jef,jdC,jcZ,jdJ,jeL,jek,jfO,jcf,jfL,jeg,jej,jc0,jdF,jdG,jbu,jcw,jdE,jdD,jaF,jca,jfN,jeJ,jfM,jcy,jdI,jdH,jbf,jc4,jcx,jc3,jc2,jhj,jcd,jeH,jc1,jce,jcb,jeh,jcc,jbK,jeI,jou],[(.int 60)],["MOST_ENTRIES"],[1,2,3,4,5],[jbs,jbt],[(22,jdj)]⟩
def top  (i:Nat):Stmt:=PySem.Challenge.pw_beatplans_k47_no_cases_of_moving.main.body.getD i (.Pass ⟨0,0,0,0⟩)
noncomputable abbrev s_is_whole  : Stmt:=top 8
noncomputable abbrev s_is_within  : Stmt:=top 9
noncomputable abbrev s_top_of  : Stmt:=top 10
noncomputable abbrev s_window_of  : Stmt:=top 11
noncomputable abbrev s_windows_of  : Stmt:=top 12
noncomputable abbrev s_with_window  : Stmt:=top 13
noncomputable abbrev s_is_work_of  : Stmt:=top 16
noncomputable abbrev s_is_entry  : Stmt:=top 17
noncomputable abbrev s_ends_of  : Stmt:=top 18
noncomputable abbrev s_is_ring  : Stmt:=top 19
noncomputable abbrev s_entry_sums  : Stmt:=top 20
noncomputable abbrev s_sums_of  : Stmt:=top 21
noncomputable abbrev s_ring_bars  : Stmt:=top 22
noncomputable abbrev s_has_shape  : Stmt:=top 24
noncomputable abbrev s_split_fault  : Stmt:=top 25
noncomputable abbrev s_ring_fault  : Stmt:=top 26
noncomputable abbrev s_node_fault  : Stmt:=top 27
noncomputable abbrev s_split_sides  : Stmt:=top 28
noncomputable abbrev s_look_through  : Stmt:=top 29
noncomputable abbrev s_stay_fault  : Stmt:=top 31
noncomputable abbrev s_stay_sides  : Stmt:=top 32
noncomputable abbrev s_move_sides  : Stmt:=top 33
noncomputable abbrev s_lets_moved  : Stmt:=top 34
noncomputable abbrev s_law_fed  : Stmt:=top 36
noncomputable abbrev s_law_draw  : Stmt:=top 37
noncomputable abbrev s_law_fit  : Stmt:=top 38
noncomputable abbrev s_law_any_span  : Stmt:=top 39
noncomputable abbrev s_law_a_plan  : Stmt:=top 40
noncomputable abbrev s_law_window  : Stmt:=top 41
noncomputable abbrev s_law_all_windows  : Stmt:=top 42
noncomputable abbrev s_law_is_from  : Stmt:=top 43
noncomputable abbrev s_law_two_ends  : Stmt:=top 44
noncomputable abbrev s_law_is_ring  : Stmt:=top 45
noncomputable abbrev s_law_sums_of  : Stmt:=top 46
noncomputable abbrev s_law_up  : Stmt:=top 47
noncomputable abbrev s_law_is_barred  : Stmt:=top 48
noncomputable abbrev s_law_with  : Stmt:=top 49
noncomputable abbrev s_law_word_of  : Stmt:=top 50
noncomputable abbrev s_law_few_shape  : Stmt:=top 51
noncomputable abbrev s_law_mover_end  : Stmt:=top 52
noncomputable abbrev s_law_mover  : Stmt:=top 53
noncomputable abbrev s_law_moved_due  : Stmt:=top 54
noncomputable abbrev s_law_moved_told  : Stmt:=top 55
noncomputable abbrev s_law_menu  : Stmt:=top 56
noncomputable abbrev s_law  : Stmt:=top 57
end
local macro_rules
 |`(tactic| simp! only[$xs,*])=>do
  let ys <- ("D_v T_v D_non D_bl D_int D_str D_g T_g D_ty T_ty D_bin T_bin D_neg D_cmp T_cmp D_cmp2 T_cmp2 D_tup D_lst D_dic D_ix T_ix D_sl D_rev D_call T_call D_blt T_blt D_meth D_lc D_mkT D_not T_not D_ife T_ife D_bop0 D_and D_or T_and T_or O_no O_so A_nil A_cons C_nil C_cons P_nil P_cons I_e I_r1 F_nil F_cons S_expr S_asg S_asgC S_setS S_par S_aug S_ite S_fr S_ret S_raise S_tr B_nil B_cons V_add V_cat V_catL V_sub V_mul V_mulL V_mulT V_fdiv V_mod V_pow V_neg W_eqI W_neI W_eqS W_neS W_lt W_le W_gt W_ge W_neT W_eqT W_eqT0 W_neL W_eqL W_in W_nin W_is W_isn Y_bl Y_non Y_int Y_tup J_tup X_tup F_len F_repr F_min F_sum F_all F_int F_isi X_str V_addB V_subB V_subI F_lenT F_min2 F_max2 F_intB F_intI G_n G_t G_nil G_cons sl_0 sl_s dr_0 dr_s pk_nil pk_none pk_some K_str K_int fx_cells fx_at fx_left fs_at fs_left".splitOn " ").toArray.mapM λs=>`(YfH| $(Lean.mkIdent s.toName):ident)
  `(tactic| try simp only[YaC,YdM,List.cons_append,YbA,YbL,YcB,Yfv,Yfw,Yfu,List.zip_nil_right,List.zip_nil_left,Yeb,List.foldl_nil,List.getElem?_cons_zero,YeE,Option.join_some,ite_true,ite_false,YbT,Yb3,$ys:simpLemma,*,$xs,*])
structure Fn (G:Gp)(f c:Addr)(n:Nat):Prop where
 ex:∃(ns:List Int) (a l t:Int),G f=some (.dK (fdU c a l t))/\G c=some (.lst (ns.map .int))/\0<=t/\t<=n

theorem Fn.mono  (h:Fn G f c n)(e:n<=m):Fn G f c m:=let ⟨ns,a,l,t,h1,h2,h3,h4⟩:=h.ex;⟨ns,a,l,t,h1,h2,h3,by lia⟩
theorem Fn.sa  (h:Fn G f c n)(s:Sa G G'):Fn G' f c n:=let ⟨ns,a,l,t,h1,h2,h3⟩:=h.ex;⟨ns,a,l,t,s _ _ h1,s _ _ h2,h3⟩
theorem Fn.new  (h:Fn G f c n)(w:New G p o G'):Fn G' f c n:=h.sa w.sa
theorem Fn.away  (h:Fn G f c n)(w:New G p o G'):p≠f/\p≠c:=by
 obtain⟨ns,a,l,t,h1,h2,_⟩:=h.ex;exact⟨jgc h1 w.no,jgc h2 w.no⟩
theorem Fn.off  (h:Fn G f c n)(hp:p≠f/\p≠c)(w:Put G p o G'):Fn G' f c n:=let ⟨ns,a,l,t,h1,h2,h3⟩:=h.ex;⟨ns,a,l,t,w.sm _ _ (Ne.symm hp.1) h1,w.sm _ _ (Ne.symm hp.2) h2,h3⟩
theorem jgw   : ∀l:List Int,DUs G (l.map .int) (l.map .int)
 |[]=>.nil
 |_::r=>.cons (.int _) (jgw r)
theorem jfo  (l:List Int):Small (.list (l.map .int)):=⟨(jdh l).1,by show Ybv (l.map .int)+1<=100;rw[(jdh l).2.1];decide⟩
theorem jmm   {ns ms:List Int}{kk:Bool->Prop}(g:G p=some (.lst (ns.map .int)))(g':G q=some (.lst (ms.map .int)))(h:kk (decide (ns=ms))):eqU (.loc p) (.loc q) G kk:=by
 refine⟨.list (ns.map .int),.list (ms.map .int),.lst (by unfold lsG;rw[g]) (jgw _),.lst (by unfold lsG;rw[g']) (jgw _),jfo _,jfo _,?_⟩
 rw[jmk];exact h

theorem jaf   (hf:Fn G f c n)(hn:n<=1000000000)(h0:0<m)(h1:m<1000000000)(q:∀r G' ,0<=r->r<m->Fn G' f c (n+1)->Sm f G G'->Q (.int r) G'):jac T (k+1) jab [.loc f,.int m] G Q X:=by
 obtain⟨ns,a,l,t,g1,g2,t0,t1⟩:=hf.ex;have ne:c≠f:=λz=>by rw[z,g1]at g2;cases g2
 have fin:∀(z a' l':Int) (G1:Gp),Sm f G G1->Q (.int (z%m)) (gup G1 f (.dK (fdU c a' l' (t+1)))):=λz a' l' G1 s=>q _ _ (Yck z (by lia)) (YbU z h0) ⟨ns,_,_,_,jaz,by rw[jb9 ne];exact s _ _ ne g2,by lia,by lia⟩ (s.trans Sm.put)
 refine⟨rfl,?_⟩;simp! only[jeJ,jad,Yaa,ix_d g1 ji1,jie g1,jeV,jnq,jhf,true_and];by_cases hl:0<l
 ·rw[if_pos (by simpa using hl)]
  exact⟨h0,h0,by lia,fin _ _ _ _ Sm.refl⟩
 ·rw[if_neg (by simpa using hl)]
  simp! only[];refine⟨by decide,λp G2 n2=>?_⟩
  have s2:Sm f G G2:=Sm.put.trans n2.sa.sm;have gf:G2 f=some (.dK (fdU c (a+1) l (t+1))):=n2.sa _ _ jaz;have gc:G2 c=some (.lst (ns.map .int)):=s2 _ _ ne g2;simp! only[];refine .inr (jmm (ms:=[]) gc n2.at ?_);have two:CMul (31*(t+1)) (t+1):=.inr ⟨by lia,by lia⟩
  have e3:CMul 7919 (t+1):=.inl (by decide)
  have e4:CMul 31 (t+1):=.inl (by decide)
  have mix:∀z:Int,Q (.int (z%m)) G2:=λz=>q _ _ (Yck z (by lia)) (YbU z h0) ⟨ns,_,_,_,gf,gc,by lia,by lia⟩ s2
  by_cases hns:ns=[]
  ·subst hns;rw[if_neg (by decide)]
   simp! only[ix_d gf ji1,jiN gc];refine⟨⟨by decide,by decide,by decide⟩,?_⟩
   rw[if_neg (by decide)]
   exact⟨by decide,.inr (by decide),e3,by decide,by decide,by decide,.inr (by decide),e4,two,by decide,by decide,by decide,h0,mix _⟩
  ·rw[if_pos (by simpa using hns)]
   have hlen:0<ns.length:=List.length_pos_iff.mpr hns;obtain⟨z,hz,ez⟩:=jkU (l:=ns) (r:=a%ns.length) (Yck _ (by lia)) (YbU _ (by lia))
   simp! only[ix_d gf ji1,jiN gc,Yaj,ix_l gc ((jgE U.int ns _).trans (congrArg _ ez)),jie gf,jeV,jky,jhf,true_and];refine⟨by lia,⟨by decide,by decide,by decide⟩,?_⟩
   by_cases hc:10 ^ Yel 18<=z
   ·rw[if_pos (by simpa using hc)]
    by_cases ha:a<ns.length
    ·rw[if_pos (by simpa using ha)]
     exact⟨h0,by lia,h0,fin _ _ _ _ s2⟩
    ·rw[if_neg (by simpa using ha)]
     exact⟨by decide,.inr (by decide),e3,by decide,by decide,by decide,.inr (by decide),e4,two,by decide,by decide,by decide,h0,mix _⟩
   ·rw[if_neg (by simpa using hc)]
    exact⟨by decide,.inr (by decide),e3,by decide,by decide,by decide,.inr (by decide),e4,two,by decide,by decide,by decide,h0,mix _⟩
theorem jnN   {ns:List Int}(ha:G a=some (.fro (ns.map .int)))(q:∀f c G' ,Fn G' f c 0->Q (.loc f) G'):jac T (k+1) jfz [.loc a] G Q X:=by
 refine⟨rfl,?_⟩;simp! only[jfN,jad,Yaa,sl_f ha,jmr];intro p1 G1 n1;refine⟨by decide,λp6 G6 n6=>?_⟩
 rw[jnW]at n6;exact q _ p1 _ ⟨_,0,0,0,n6.at,n6.sa _ _ n1.at,Int.le_refl _,Int.le_refl _⟩

structure Nm (x:Str):Prop where
 l8:x.length<=8
 ch:∀c∈x.cps.toList,c<128
structure Spn where
 w:Str
 o:Nat
 t:Nat
 lo:Int
 hi:Int
noncomputable def Spn.u  (s:Spn):U:=.tup [.str s.w,.int s.o,.int s.t,.int s.lo,.int s.hi]
structure Spn.Ok (W:Nat)(s:Spn):Prop where
 w:s.w = "apart" \/ s.w = "span"
 o:s.o<W
 t:s.t<W
 lo:0<=s.lo/\s.lo<=9999
 hi:0<=s.hi/\s.hi<=9999
noncomputable def jak  (l:List Int):U:=.tup (l.map .int)
def jal  (xs:List Str)(ss:List Spn):U:=.tup [.tup (xs.map .str),.tup (ss.map Spn.u)]
theorem jiE  {bs:List Int}(h:i<bs.length):atI (bs.map U.int) (i:Int)=some (.int (bs.getD i 0)):=jcG (by rw[YaN,YaD h];simp[Ych,h])

theorem jnL  {bs: List Int}(hf:Fn G f c n)(hn:n<=900000000)(h1:1<=P)(h2:P<=600)(gb:G pb=some (.lst (bs.map .int)))(bl:bs.length=W)(ho:o<W)(ht:t<W)(q:∀(s:Spn) G' ,s.Ok W->Fn G' f c (n+6)->Sm f G G'->Q s.u G'):jac T (k+2) jd3 [.loc f,.int P,.loc pb,.int o,.int t] G Q X:=by
 refine⟨rfl,?_⟩;simp! only[jfM,jad,Yaa,ix_l gb (jiE (show t<bs.length by omega)),ix_l gb (jiE (show o<bs.length by omega))]
 refine⟨by lia,?_⟩
 have g0:=Yck (bs.getD t 0-bs.getD o 0) (show P≠0 by lia)
 have g1:=YbU (bs.getD t 0-bs.getD o 0) (show 0<P by lia)
 generalize (bs.getD t 0-bs.getD o 0)%P=gap at g0 g1 ⊢;refine jaf hf (by lia) (by decide) (by decide) λr1 G1 a1 b1 f1 s1=>?_
 simp! only[];by_cases hr:r1=0
 ·rw[if_pos (by simpa using hr)]
  refine jaf f1 (by lia) (by lia) (by lia) λlo G2 a2 b2 f2 s2=>jaf f2 (by lia) (by lia) (by lia) λhi G3 a3 b3 f3 s3=>⟨by decide,?_⟩
  exact q ⟨"apart",o,t,lo,hi⟩ _ ⟨.inl rfl,ho,ht,by dsimp only;lia,by dsimp only;lia⟩ (f3.mono (by lia)) ((s1.trans s2).trans s3)
 ·rw[if_neg (by simpa using hr)]
  refine⟨by decide,λp2 G2 n2=>jaf (f1.new n2) (by lia) (by decide) (by decide) λr3 G3 a3 b3 f3 s3=>?_⟩
  refine jaR [0,0,0,1,2] (s3 _ _ (f1.away n2).1 n2.at) a3 b3 λz hz=>?_;have hz':z=0\/z=1\/z=2:=by simp only[YaM,Yau,or_false]at hz;lia
  have S3:=(s1.nw n2).trans s3;simp! only[];refine⟨.inr (by lia),?_⟩
  obtain⟨far,ef,fa,fb⟩:∃far,gap+P*z=far/\0<=far/\far<=1800:=⟨_,rfl,by rcases hz' with rfl|rfl|rfl<;>lia,by rcases hz' with rfl|rfl|rfl<;>lia⟩
  rw[ef];refine jaf f3 (by lia) (by lia) (by lia) λr4 G4 a4 b4 f4 s4=>⟨by decide,λp5 G5 n5=>jaf (f4.new n5) (by lia) (by decide) (by decide) λr6 G6 a6 b6 f6 s6=>?_⟩
  refine jaR [0,1,2,r4] (s6 _ _ (f4.away n5).1 n5.at) a6 b6 λy hy=>?_;have hy':0<=y/\y<=600:=by simp only[YaM,Yau,or_false]at hy;lia
  have S6:=((S3.trans s4).nw n5).trans s6;simp! only[];refine jaf f6 (by lia) (by lia) (by lia) λr7 G7 a7 b7 f7 s7=>⟨by decide,λp8 G8 n8=>jaf (f7.new n8) (by lia) (by decide) (by decide) λr9 G9 a9 b9 f9 s9=>?_⟩
  refine jaR [0,0,1,r7] (s9 _ _ (f7.away n8).1 n8.at) a9 b9 λx hx=>?_;have hx':0<=x/\x<=600:=by simp only[YaM,Yau,or_false]at hx;lia
  simp! only[];refine⟨by decide,q ⟨"span",o,t,far-(if y<far then y else far),far+x⟩ _ ⟨.inr rfl,ho,ht,?_,by dsimp only;lia⟩ (f9.mono (by lia)) (((S6.trans s7).nw n8).trans s9)⟩
  dsimp only;split<;>lia
theorem jgb  (hf:Fn G f c n)(hn:n<=900000000)(h1:1<=P)(h2:P<=600)(ho:o<W)(ht:t<W)(q:∀(s:Spn) G' ,s.Ok W->Fn G' f c (n+6)->Sm f G G'->Q s.u G'):jac T (k+2) ja7 [.loc f,.int P,.int o,.int t] G Q X:=by
 refine⟨rfl,?_⟩;simp! only[jcy,jad,Yaa];refine jaf hf (by lia) (by lia) (by lia) λr1 G1 a1 b1 f1 s1=>⟨.inl (by decide),jaf f1 (by lia) (by lia) (by lia) λr2 G2 a2 b2 f2 s2=>⟨by decide,λp3 G3 n3=>jaf (f2.new n3) (by lia) (by decide) (by decide) λr4 G4 a4 b4 f4 s4=>?_⟩⟩
 refine jaR [0,r1,r2,P] (s4 _ _ (f2.away n3).1 n3.at) a4 b4 λz hz=>?_;have hz':0<=z/\z<=1800:=by simp only[YaM,Yau,or_false]at hz;lia
 have S4:=((s1.trans s2).nw n3).trans s4;simp! only[];refine jaf f4 (by lia) (by decide) (by decide) λr5 G5 a5 b5 f5 s5=>?_
 simp! only[];by_cases hr:r5=0
 ·rw[if_pos (by simpa using hr)]
  refine jaf f5 (by lia) (by lia) (by lia) λlo G6 a6 b6 f6 s6=>jaf f6 (by lia) (by lia) (by lia) λhi G7 a7 b7 f7 s7=>⟨by decide,?_⟩
  exact q ⟨"apart",o,t,lo,hi⟩ _ ⟨.inl rfl,ho,ht,by dsimp only;lia,by dsimp only;lia⟩ (f7.mono (by lia)) (((S4.trans s5).trans s6).trans s7)
 ·rw[if_neg (by simpa using hr)]
  refine jaf f5 (by lia) (by lia) (by lia) λr6 G6 a6 b6 f6 s6=>⟨.inl (by decide),by decide,λp7 G7 n7=>jaf (f6.new n7) (by lia) (by decide) (by decide) λr8 G8 a8 b8 f8 s8=>?_⟩
  refine jaR [0,0,1,r6,P-1,2*P] (s8 _ _ (f6.away n7).1 n7.at) a8 b8 λx hx=>?_;have hx':0<=x/\x<=1200:=by simp only[YaM,Yau,or_false]at hx;lia
  simp! only[];exact⟨by decide,q ⟨"span",o,t,z,z+x⟩ _ ⟨.inr rfl,ho,ht,by dsimp only;lia,by dsimp only;lia⟩ (f8.mono (by lia)) ((((S4.trans s5).trans s6).nw n7).trans s8)⟩

theorem atM  {α:Type}{f:α->U}{l:List α}{n:Nat}{a:α}(h:l[n]?=some a):atI (l.map f) (n:Int)=some (f a):=(jgE f l _).trans (congrArg _ (jcG h))
theorem jgZ  : ∀(W:Nat) (l:List Int),l.Nodup->(∀x∈l,0<=x/\x<W)->l.length<=W
 |0,l,_,h=>by
  cases l with
  |nil=>exact Yae _
  |cons a l=>have:=h a (by simp);lia
 |W+1,l,nd,h=>by
  have ih:=jgZ W (l.erase (W:Int)) (nd.erase _) λx hx=>by
   obtain⟨h1,h2⟩:=nd.mem_erase_iff.mp hx;have:=h x h2
   lia
  by_cases hm:(W:Int)∈l
  ·rw[List.length_erase_of_mem hm]at ih;lia
  ·rw[List.erase_of_not_mem hm]at ih;lia
theorem jof   z (l:List Int):((l.map U.int).any λy=>eqF y (.int z))=decide (z∈l):=by
 rw[Ybc,List.any_eq_true,decide_eq_true_eq];constructor
 ·rintro⟨y,hy,e⟩;obtain⟨x,hx,rfl⟩:=List.mem_map.mp hy;have:x=z:=by simpa[eqF]using e
  rw[<- this];exact hx
 ·intro h;exact⟨.int z,List.mem_map.mpr ⟨z,h,rfl⟩,by simp[eqF]⟩
theorem jka  (l:List Int):(l.map U.int).all flat=true:=by simp[flat]
theorem jiG     (h:k false):cmpU .NotEq (.str x) (.str x) G k:=by
 show k (!decide (x=x));rw[decide_eq_true rfl];exact h

mutual
inductive Th (G:Gp):U->PyData->Prop
 |non:Th G .non .none
 |bl (b:Bool):Th G (.bl b) (.bool b)
 |int (i:Int):Th G (.int i) (.int i)
 |str (x:Str):Th G (.str x) (.str x)
 |tup {us:List U} {ds:List PyData}:Ths G us ds->Th G (.tup us) (.tuple ds)
 |lst {a:Addr} {us:List U} {ds:List PyData}:G a=some (.lst us)->Ths G us ds->Th G (.loc a) (.list ds)
 |dic {a:Addr}:G a=some (.dK [])->Th G (.loc a) (.dict [])
inductive Ths (G:Gp):List U->List PyData->Prop
 |nil:Ths G [] []
 |cons {u:U} {d:PyData} {us:List U} {ds:List PyData}:Th G u d->Ths G us ds->Ths G (u::us) (d::ds)
end
mutual
theorem Th.du {G:Gp}:∀{u:U} {d:PyData},Th G u d->DU G u d
 |_,_,.non=>.non
 |_,_,.bl b=>.bl b
 |_,_,.int i=>.int i
 |_,_,.str x=>.str x
 |_,_,.tup h=>.tup (Ths.dus h)
 |_,_,.lst g h=>.lst (by unfold lsG;rw[g]) (Ths.dus h)
 |_,_,.dic g=>.dic g
theorem Ths.dus {G:Gp}:∀{us:List U} {ds:List PyData},Ths G us ds->DUs G us ds
 |_,_,.nil=>.nil
 |_,_,.cons a b=>.cons (Th.du a) (Ths.dus b)
end
mutual
theorem Th.mono {G G':Gp}{f c:Addr}{n:Nat}(hf:Fn G f c n)(s:Sm f G G'):∀{u:U} {d:PyData},Th G u d->Th G' u d
 |_,_,.non=>.non
 |_,_,.bl b=>.bl b
 |_,_,.int i=>.int i
 |_,_,.str x=>.str x
 |_,_,.tup h=>.tup (Ths.mono hf s h)
 |_,_,.lst g h=>.lst (s _ _ (λe=>by obtain⟨ns,x,y,z,h1,_⟩:=hf.ex;rw[e,h1]at g;cases g) g) (Ths.mono hf s h)
 |_,_,.dic g=>.dic (s _ _ (λe=>by obtain⟨ns,x,y,z,h1,_⟩:=hf.ex;rw[e,h1]at g;cases g) g)
theorem Ths.mono {G G':Gp}{f c:Addr}{n:Nat}(hf:Fn G f c n)(s:Sm f G G'):∀{us:List U} {ds:List PyData},Ths G us ds->Ths G' us ds
 |_,_,.nil=>.nil
 |_,_,.cons a b=>.cons (Th.mono hf s a) (Ths.mono hf s b)
end
mutual
theorem Th.sa {G G':Gp}(s:Sa G G'):∀{u:U} {d:PyData},Th G u d->Th G' u d
 |_,_,.non=>.non
 |_,_,.bl b=>.bl b
 |_,_,.int i=>.int i
 |_,_,.str x=>.str x
 |_,_,.tup h=>.tup (Ths.sa s h)
 |_,_,.lst g h=>.lst (s _ _ g) (Ths.sa s h)
 |_,_,.dic g=>.dic (s _ _ g)
theorem Ths.sa {G G':Gp}(s:Sa G G'):∀{us:List U} {ds:List PyData},Ths G us ds->Ths G' us ds
 |_,_,.nil=>.nil
 |_,_,.cons a b=>.cons (Th.sa s a) (Ths.sa s b)
end
section
variable {G:Gp}
theorem Ths.get  : ∀{us } {ds } {i:Nat} {u },Ths G us ds->us[i]?=some u->∃d,ds[i]?=some d/\Th G u d
 |_,_,_,_,.nil,e=>by simp at e
 |_,_,0,_,.cons a _,e=>by simp at e;subst e;exact⟨_,rfl,a⟩
 |_,_,i+1,u,.cons _ b,e=>by
  obtain⟨d,e1,h⟩:=Ths.get (i:=i) (u:=u) b (by simpa using e)
  exact⟨d,by simpa using e1,h⟩
end
noncomputable def kdD  : PyData->String
 |.none => "NoneType"
 |.bool _ => "bool"
 |.int _ => "int"
 |.str _ => "str"
 |.tuple _ => "tuple"
 |.list _ => "list"
 |.dict _ => "dict"
def isD  (d:PyData)(t:String):Bool:=kdD d==t||(kdD d == "bool" && t == "int")
theorem joY     (h:Th G u d):tyN u G=some (kdD d):=by
 cases h with
 |lst g _=>unfold tyN;dsimp only;rw[g];rfl
 |dic g=>unfold tyN;dsimp only;rw[g];rfl
 |_=>rfl
theorem jbJ       (h:Th G u d)(ht:t∈["bool", "int", "str", "list", "tuple", "dict"]):jhO [u,.ty t] G Q=Q (.bl (isD d t)) G:=by
 unfold jhO isiU;dsimp only;rw[joY h];dsimp only;rw[if_pos ht];rfl
noncomputable def cmpD  (_:PyData):Bool:=true
noncomputable def jd7  : U->Bool
 |.str w=>decide (w = "home")
 |_=>false
theorem jmn      (h:Th G u d)(_:cmpD d=true)(q:k (jd7 u)):cmpU .Eq u (.str "home") G k:=by
 show eqQ u (.str "home") G k;cases h with
 |lst g h=>exact .inr (.inl ⟨_,g,q⟩)
 |dic g=>exact .inl ⟨_,g,q⟩
 |_=>exact q
noncomputable def isI  : U->Bool
 |.int _=>true
 |_=>false
noncomputable def inI  (lo hi:Int):U->Bool
 |.int i=>decide (lo<=i)&&decide (i<=hi)
 |_=>false
noncomputable def jau  (st:List Int):U->Bool
 |.int i=>decide (i∈st)
 |_=>false
noncomputable def wayB  : U->Bool
 |.int i=>decide (i=1)||decide (i=-1)
 |_=>false
def entB  (n:Nat)(st:List Int):U->Bool
 |.tup [w,a,b]=>jd7 w&&(jau st a&&jau st b)
 |.tup [s,y]=>inI 0 ((n:Int)-1) s&&wayB y
 |_=>false
def entD  : PyData->Bool
 |.tuple ds=>ds.all cmpD
 |_=>true
def jm2  : PyData->Bool
 |.tuple ds=>ds.all entD
 |_=>true
noncomputable def endZ  (ss:List Spn):U->Int×Int
 |.tup [_,.int a,.int b]=>(a,b)
 |.tup [.int s,.int y]=>if y=1 then (((ss.getD s.toNat ⟨"",0,0,0,0⟩).o:Int),((ss.getD s.toNat ⟨"",0,0,0,0⟩).t:Int)) else (((ss.getD s.toNat ⟨"",0,0,0,0⟩).t:Int),((ss.getD s.toNat ⟨"",0,0,0,0⟩).o:Int))
 |_=>(0,0)
noncomputable def prZ  (p:Int×Int):U:=.tup [.int p.1,.int p.2]
theorem jmp  : ∀d ,entD d=true
 |.tuple ds=>List.all_eq_true.mpr λ_ _=>rfl
 |.none|.bool _|.int _|.str _|.list _|.dict _=>rfl
theorem jjC  : ∀d ,jm2 d=true
 |.tuple ds=>List.all_eq_true.mpr λd _=>jmp d
 |.none|.bool _|.int _|.str _|.list _|.dict _=>rfl
theorem gs07  : T.gs=[.int 60]:=rfl
theorem jea      (q:k (decide (i∈st))):inU (.int i) (jak st) G k:=by
 refine⟨rfl,jka _,?_⟩;rw[jof];exact q

theorem je0  (h:Th G u d)(q:Q (.bl (isI u)) G):jac T (k+1) jcj [u] G Q X:=by
 refine⟨rfl,?_⟩;simp! only[jeK,jad,Yaa,jbJ h (show "int" ∈ ["bool", "int", "str", "list", "tuple", "dict"] by decide),jbJ h (show "bool" ∈ ["bool", "int", "str", "list", "tuple", "dict"] by decide)]
 cases h<;>exact q
theorem jcR   (h:Th G u d)(q:Q (.bl (inI lo hi u)) G):jac T (k+2) ja2 [u,.int lo,.int hi] G Q X:=by
 refine⟨rfl,?_⟩;simp! only[jei,jad,Yaa];refine je0 h ?_;simp! only[];cases h with
 |int i=>
  rw[show isI (.int i)=true from rfl,if_pos rfl];simp! only[];by_cases c:lo<=i
  ·rw[if_pos (decide_eq_true c)];have:inI lo hi (.int i)=decide (i<=hi):=by show(decide (lo<=i)&&_)=_;rw[decide_eq_true c];rfl
   rw[this]at q;exact q
  ·rw[if_neg (by simpa using c)]
   have:inI lo hi (.int i)=false:=by show(decide (lo<=i)&&_)=_;rw[decide_eq_false c];rfl
   rw[this]at q;exact q
 |_=>exact q
theorem jey  (h:Th G u d)(q:Q (.bl (jau st u)) G):jac T (k+2) jb7 [jak st,u] G Q X:=by
 refine⟨rfl,?_⟩;simp! only[jdJ,jad,Yaa];refine je0 h ?_;simp! only[];cases h with
 |int i=>
  rw[show isI (.int i)=true from rfl,if_pos rfl];simp! only[];exact jea q
 |_=>exact q
theorem and3   : (a&&(b&&c))=true↔a=true/\b=true/\c=true:=by cases a<;>cases b<;>cases c<;>simp
theorem jj0  (h:Th G u d)(hd:entD d=true)(sl:ss.length<=24)(q:Q (.bl (entB ss.length st u)) G):jac T (k+3) jeB [jal xs ss,jak st,u] G Q X:=by
 refine⟨rfl,?_⟩;simp! only[jeL,jad,Yaa,jbJ h (show "tuple" ∈ ["bool", "int", "str", "list", "tuple", "dict"] by decide)]
 cases h with
 |@tup us ds h=>
  rw[show isD (.tuple ds) "tuple" = true from rfl,if_neg (by decide)]
  simp! only[jdr];have hd:ds.all cmpD=true:=hd
  match us,ds,h with
  |[],_,.nil=>
   rw[if_neg (by simp)]
   simp! only[jaS];exact q
  |[x],_,.cons _ .nil=>
   rw[if_neg (by simp)]
   simp! only[jaS];exact q
  |[s,y],[_,_],.cons hs (.cons hy .nil)=>
   rw[if_neg (by simp)]
   simp! only[jaS];simp! only[jdq,jal,ix_t (jat _ _ _),Yaj];refine⟨trivial,jcR (k:=k) hs ?_⟩
   have eq:entB ss.length st (.tup [s,y])=(inI 0 ((ss.length:Int)-1) s&&wayB y):=rfl;rw[eq]at q;simp! only[];cases c:inI 0 ((ss.length:Int)-1) s with
   |false=>rw[if_neg (by decide)];rw[c]at q;exact q
   |true=>
    rw[if_pos rfl];rw[c,Ycy]at q;refine je0 (k:=k+1) hy ?_;simp! only[];cases hy with
    |int i=>
     rw[show isI (.int i)=true from rfl,if_pos rfl];simp! only[];refine⟨by decide,rfl,rfl,?_⟩
     have:(List.any [U.int 1,.int (-1)] λy=>eqF y (.int i))=wayB (.int i):=by
      show((1==i)||(((-1:Int)==i)||false))=(decide (i=1)||decide (i=-1));rw[Ybc];simp;lia
     rw[this];exact q
    |_=>exact q
  |[w,x,y],[dw,_,_],.cons hw (.cons hx (.cons hy .nil))=>
   rw[if_pos (by simp)]
   simp! only[];have cw:cmpD dw=true:=by simp only[Yba,Yah]at hd;exact hd.1
   refine⟨trivial,jmn hw cw ?_⟩;have eq:entB ss.length st (.tup [w,x,y])=(jd7 w&&(jau st x&&jau st y)):=rfl;rw[eq]at q;cases c:jd7 w with
   |false=>rw[c]at q;exact q
   |true=>
    rw[c,Ycy]at q;simp! only[];refine jey (k:=k) hx ?_;simp! only[];cases c2:jau st x with
    |false=>rw[c2]at q;exact q
    |true=>
     rw[c2,Ycy]at q;rw[if_pos rfl];simp! only[];exact jey (k:=k) hy q
  |_::_::_::_::r,_,h=>
   rw[if_neg (by simp;lia)]
   simp! only[jaS];rw[if_pos (by simp;lia)]
   simp! only[];exact q
 |non=>exact q
 |bl b=>exact q
 |int i=>exact q
 |str x=>exact q
 |lst g h=>exact q
 |dic g=>exact q
theorem jee   (he:entB n st u=true):(∃a b ,u=.tup [.str "home",.int a,.int b]/\a∈st/\b∈st)\/∃(s:Nat) (y:Int),u=.tup [.int s,.int y]/\s<n/\(y=1\/y=-1):=by
 unfold entB at he;split at he
 ·rename_i w a b;rw[and3]at he;obtain⟨h1,h2,h3⟩:=he;cases w<;>try (cases h1;done)
  cases a<;>try (cases h2;done)
  cases b<;>try (cases h3;done)
  rename_i w a b;refine .inl ⟨a,b,?_,of_decide_eq_true h2,of_decide_eq_true h3⟩;rw[of_decide_eq_true h1]
 ·rename_i s y;rw[Yah]at he;cases s<;>try (cases he.1;done)
  cases y<;>try (cases he.2;done)
  rename_i s y;obtain⟨h1,h2⟩:=he;have h1:(decide (0<=s)&&decide (s<=(n:Int)-1))=true:=h1;have h2:(decide (y=1)||decide (y=-1))=true:=h2;simp only[Yah,YbB,decide_eq_true_eq]at h1 h2;exact .inr ⟨s.toNat,y,by rw[show((s.toNat:Nat):Int)=s by lia],by lia,h2⟩
 ·cases he
theorem jmT  {ss: List Spn}(h:s<ss.length):ss[s]?=some (ss.getD s ⟨"",0,0,0,0⟩):=by simp[Ych,h]
theorem jhH  (he:entB ss.length st u=true)(q:Q (prZ (endZ ss u)) G):jac T (k+1) jfB [jal xs ss,u] G Q X:=by
 refine⟨rfl,?_⟩;rcases jee he with⟨a,b,rfl,_,_⟩|⟨s,y,rfl,hs,hy⟩
 ·simp! only[jek,jad,Yaa,ix_t (jat _ _ _)];rw[if_pos (by decide)]
  simp! only[ix_t (jat _ _ _)];exact⟨by decide,q⟩
 ·have e:=atM (f:=Spn.u) (jmT hs);simp! only[jek,jad,Yaa];rw[if_neg (by decide)]
  simp! only[jal,ix_t (jat _ _ _),ix_t e,Spn.u];refine⟨trivial,trivial,?_⟩;rcases hy with rfl|rfl
  ·rw[if_pos (by decide)]
   exact⟨by decide,q⟩
  ·rw[if_neg (by decide)]
   exact⟨by decide,q⟩

noncomputable def prvZ  (l:List (Int×Int))(i:Nat):Int×Int:=l.getD (if i=0 then l.length-1 else i-1) (0,0)
def fitB  (l:List (Int×Int))(i:Nat):Bool:=decide ((prvZ l i).2=(l.getD i (0,0)).1)
def jdi  (l:List (Int×Int)):Bool:=(Ya9 l.length).all (fitB l)
def jdc  (ss:List Spn)(st:List Int):U->Bool
 |.tup us=>decide (1<=us.length/\us.length<=60)&&(us.all (entB ss.length st)&&jdi (us.map (endZ ss)))
 |_=>false
theorem jkS   {i:Nat}(h:i<l.length):atI (l.map prZ) ((i:Int)-1)=some (prZ (prvZ l i)):=by
 suffices h:atI l ((i:Int)-1)=some (prvZ l i) by rw[jgE,h];rfl
 unfold prvZ;by_cases z:i=0
 ·subst z;rw[if_pos rfl];have:atI l (((0:Nat):Int)-1)=l[l.length-1]?:=by
   unfold atI ixN;simp only[show ¬(0:Int)<=((0:Nat):Int)-1 by lia,if_false]
   rw[if_pos (by lia)]
   show l[_]?=_;congr 1
   lia
  rw[this];simp[Ych,YaD (show l.length-1<l.length by lia)]
 ·rw[if_neg z,show(i:Int)-1=((i-1:Nat):Int) by lia]
  refine jcG ?_;simp[Ych,YaD (show i-1<l.length by lia)]
theorem jkT  {l:List (Int×Int)}(h:i<l.length):atI (l.map prZ) (i:Int)=some (prZ (l.getD i (0,0))):=atM (by simp[Ych,h])
theorem joC   {bs:List Bool}(g:G a=some (.lst (bs.map .bl)))(q:Q (.bl (bs.all id)) G):allU [.loc a] G Q:=by
 unfold allU;dsimp only;rw[g];have:jeo (bs.map .bl)=some bs:=by
  clear g q
  induction bs with
  |nil=>rfl
  |cons b r ih=>rw[YaC,jeo,ih]
 dsimp only;rw[this];exact q

theorem jhG  (h:Th G u d)(hd:jm2 d=true)(sl:ss.length<=24)(q:∀G',Sa G G'->Q (.bl (jdc ss st u)) G'):jac T (k+4) jfA [jal xs ss,jak st,u] G Q X:=by
 refine⟨rfl,?_⟩;simp! only[jfO,jad,Yaa,jbJ h (show "tuple" ∈ ["bool", "int", "str", "list", "tuple", "dict"] by decide)]
 cases h with
 |@tup us ds h=>
  have hd:ds.all entD=true:=hd;rw[show isD (.tuple ds) "tuple" = true from rfl,if_pos rfl];simp! only[gs07,glU];by_cases c1:1<=us.length
  ·rw[if_pos (by simpa using (by lia:(1:Int)<=us.length))]
   by_cases c2:us.length<=60
   ·have e:decide ((us.length:Int)<=60)=true:=decide_eq_true (by lia)
    rw[e,if_neg (by decide)]
    have q:∀G',Sa G G'->Q (.bl (us.all (entB ss.length st)&&jdi (us.map (endZ ss)))) G':=λG' s=>by
     have:=q G' s;have e:jdc ss st (.tup us)=(us.all (entB ss.length st)&&jdi (us.map (endZ ss))):=by
      show(decide (1<=us.length/\us.length<=60)&&_)=_;rw[decide_eq_true ⟨c1,c2⟩];rfl
     rw[e]at this;exact this
    simp! only[jdX];refine⟨Yaf c2 (by decide),?_⟩
    refine jaC (λi acc G'=>G'=G/\acc=((us.take i).map (entB ss.length st)).map .bl) ?_ ?_ ⟨rfl,rfl⟩
    ·rintro acc G1 ⟨rfl,rfl⟩;rw[Yca];refine⟨trivial,λp G2 n2=>joC n2.at ?_⟩;have ea:(us.map (entB ss.length st)).all id=us.all (entB ss.length st):=by rw[List.all_map];rfl
     rw[ea];cases c:us.all (entB ss.length st)with
     |false=>
      have:=q G2 n2.sa;rw[c]at this;exact this
     |true=>
      simp! only[];have he:∀v∈us,entB ss.length st v=true:=List.all_eq_true.mp c;simp! only[jdW];refine⟨Yaf c2 (by decide),?_⟩
      refine jaC (λi acc G'=>G'=G2/\acc=((us.take i).map (endZ ss)).map prZ) ?_ ?_ ⟨rfl,rfl⟩
      ·rintro acc G3 ⟨rfl,rfl⟩;rw[Yca];refine⟨trivial,λp4 G4 n4=>?_⟩;rw[c]at q;have q:∀G',Sa G1 G'->Q (.bl (jdi (us.map (endZ ss)))) G':=q;generalize hl:us.map (endZ ss)=l at n4 q;have ll:l.length=us.length:=by rw[<- hl,Yaj]
       have g4:=n4.at
       simp! only[jdV,jiN g4,Yaj];refine⟨by lia,by lia,by rw[jaH];exact Yaf (show _<=60 by lia) (by decide),?_⟩
       refine jaC (λi acc G'=>G'=G4/\acc=((Ya9 i).map (fitB l)).map .bl) ?_ ?_ ⟨rfl,rfl⟩
       ·rintro acc G5 ⟨rfl,rfl⟩;rw[jaH];refine⟨trivial,λp6 G6 n6=>joC n6.at ?_⟩;have:((Ya9 l.length).map (fitB l)).all id=jdi l:=by unfold jdi;rw[List.all_map];rfl
        rw[this];exact q G6 ((n2.sa.trans n4.sa).trans n6.sa)
       ·rintro i x acc G5 K hx ⟨rfl,rfl⟩ hk _;obtain⟨hi,rfl⟩:=jbn hx;refine⟨trivial,?_⟩;have hi:i<l.length:=by lia
        simp! only[ix_l g4 (jkS hi),ix_l g4 (jkT hi),prZ,ix_t (jat _ _ _),ix_t (jaO _ _)];exact hk _ _ ⟨rfl,by rw[Yd9,YaB,YaB];rfl⟩
      ·rintro i x acc G3 K hx ⟨rfl,rfl⟩ hk _;refine⟨trivial,?_⟩;simp! only[];refine jhH (k:=k+2) (he x (Yay hx)) (hk _ _ ⟨rfl,?_⟩);rw[YbO,hx];simp
    ·rintro i x acc G1 K hx ⟨rfl,rfl⟩ hk _;refine⟨trivial,?_⟩;obtain⟨dx,ex,hx'⟩:=h.get hx;simp! only[];refine jj0 (k:=k) hx' (List.all_eq_true.mp hd dx (Yay ex)) sl (hk _ _ ⟨rfl,?_⟩);rw[YbO,hx];simp
   ·have e:decide ((us.length:Int)<=60)=false:=decide_eq_false (by lia)
    rw[e,if_pos (by decide)]
    simp! only[];have e:jdc ss st (.tup us)=false:=by
     show(decide (1<=us.length/\us.length<=60)&&_)=_;rw[decide_eq_false (by lia)];rfl
    have:=q G Sa.refl;rw[e]at this;exact this
  ·rw[if_neg (by simp;lia),if_pos (by decide)]
   simp! only[];have e:jdc ss st (.tup us)=false:=by
    show(decide (1<=us.length/\us.length<=60)&&_)=_;rw[decide_eq_false (by lia)];rfl
   have:=q G Sa.refl;rw[e]at this;exact this
 |non=>exact q G Sa.refl
 |bl b=>exact q G Sa.refl
 |int i=>exact q G Sa.refl
 |str x=>exact q G Sa.refl
 |lst g h=>exact q G Sa.refl
 |dic g=>exact q G Sa.refl


theorem jbd   (h:Th G u d)(q:Q (.bl (inI lo hi u)) G):jac T (k+1) jaq [.int lo,.int hi,u] G Q X:=by
 refine⟨rfl,?_⟩;simp! only[jc4,jad,Yaa,jbJ h (show "int" ∈ ["bool", "int", "str", "list", "tuple", "dict"] by decide),jbJ h (show "bool" ∈ ["bool", "int", "str", "list", "tuple", "dict"] by decide)]
 cases h with
 |int i=>
  rw[show isD (.int i) "int" = true from rfl,if_pos rfl,show isD (.int i) "bool" = false from rfl,if_pos (by decide)]
  simp! only[];by_cases c:lo<=i
  ·rw[if_pos (decide_eq_true c)];have:inI lo hi (.int i)=decide (i<=hi):=by show(decide (lo<=i)&&_)=_;rw[decide_eq_true c];rfl
   rw[this]at q;exact q
  ·rw[if_neg (by simpa using c)]
   have:inI lo hi (.int i)=false:=by show(decide (lo<=i)&&_)=_;rw[decide_eq_false c];rfl
   rw[this]at q;exact q
 |_=>exact q
def jhT  (ss:List Spn)(st:List Int)(u:U):U:=if entB ss.length st u=true then prZ (endZ ss u) else .non
theorem jkZ  (hs:∀z∈st,0<=z/\z<=7) v:(inI 0 7 v&&jau st v)=jau st v:=by
 cases v with
 |int i=>
  show((decide (0<=i)&&decide (i<=7))&&decide (i∈st))=decide (i∈st);by_cases c:i∈st
  ·have:=hs i c;rw[decide_eq_true c,decide_eq_true this.1,decide_eq_true this.2];rfl
  ·rw[decide_eq_false c];simp
 |_=>rfl
theorem jjU    {K:Option U->Gp->Prop}(hv:Th G v dv)(hs:∀z∈st,0<=z/\z<=7)(hK:K (some (.bl (jau st v))) G) :
  jac T (k+1) jaq [.int 0,.int 7,v] G (λx G1=>truU x G1 λc=>if c=true then inU v (jak st) G1 λc=>K (some (.bl c)) G1 else K (some x) G1) (λ_ _=>False):=by
 refine jbd (k:=k) hv ?_;show(if inI 0 7 v=true then _ else _)
 have e:=jkZ hs v;cases c:inI 0 7 v with
 |true=>
  rw[if_pos rfl];cases hv<;>first|(cases c;done)|exact jea hK
 |false=>
  rw[if_neg (by decide)]
  rw[c,Bool.false_and]at e;rw[<- e]at hK;exact hK
theorem in23   {kk:Bool->Prop}(h2:n≠2)(h3:n≠3)(q:kk false):inU (.int n) (.tup [.int 2,.int 3]) G kk:=by
 refine⟨rfl,rfl,?_⟩;have:(List.any [U.int 2,.int 3] λy=>eqF y (.int n))=false:=by
  show(((2:Int)==n)||(((3:Int)==n)||false))=false;simp;lia
 rw[this];exact q
theorem c13  {a b c d e:U}:Z.cut [a,b,c,d,e] (some 1) (some 3)=[b,c]:=rfl
theorem jlR  (h:Th G u d)(hs:∀z∈st,0<=z/\z<=7)(sl:ss.length<=24)(q:∀G',Sa G G'->Q (jhT ss st u) G'):jac T (k+2) jcv [jal xs ss,jak st,u] G Q X:=by
 refine⟨rfl,?_⟩;simp! only[jcx,jad,Yaa,jbJ h (show "tuple" ∈ ["bool", "int", "str", "list", "tuple", "dict"] by decide)]
 cases h with
 |@tup us ds h=>
  rw[show isD (.tuple ds) "tuple" = true from rfl,if_neg (by decide)]
  match us,ds,h with
  |[],_,.nil=>
   refine⟨by decide,rfl,rfl,?_⟩
   exact q G Sa.refl
  |[x],_,.cons _ .nil=>
   refine⟨by decide,rfl,rfl,?_⟩
   exact q G Sa.refl
  |[s,y],[_,_],.cons hs' (.cons hy .nil)=>
   refine⟨by decide,rfl,rfl,?_⟩
   have q:∀G',Sa G G'->Q (if (inI 0 ((ss.length:Int)-1) s&&wayB y)=true then prZ (endZ ss (.tup [s,y])) else .non) G':=q
   simp! only[jaU];rw[if_neg (by decide),if_neg (by simp)]
   simp! only[jbv,ix_t (jaO _ _),ix_t (jat _ _ _),jal,Yaj];refine jbd (k:=k) hs' ?_;simp! only[];cases c:inI 0 ((ss.length:Int)-1) s with
   |false=>rw[if_pos (by decide)];simp! only[];have:=q G Sa.refl;rw[c]at this;exact this
   |true=>
    rw[if_neg (by decide)]
    rw[c]at q;simp! only[ix_t (jat _ _ _)];refine jbd (k:=k) hy ?_;simp! only[];cases hy with
    |int y=>
     cases s with
     |int s=>
      have hr:0<=s/\s<=(ss.length:Int)-1:=by
       have:(decide (0<=s)&&decide (s<=(ss.length:Int)-1))=true:=c;simpa using this
      obtain⟨n,rfl⟩:=YaJ hr.1;have e:=atM (f:=Spn.u) (jmT (ss:=ss) (s:=n) (by lia))
      have w:wayB (.int y)=(decide (y=1)||decide (y=-1)):=rfl;have i1:inI (-1) 1 (.int y)=(decide (-1<=y)&&decide (y<=1)):=rfl;by_cases c1:y=1
      ·subst c1;rw[show inI (-1) 1 (.int 1)=true from rfl,if_neg (by decide)]
       simp! only[ix_t (jat _ _ _)];rw[if_neg (by decide)]
       simp! only[jaT,jal,ix_t (jat _ _ _),ix_t (jaO _ _),ix_t e,Spn.u,c13,ix_t (jat _ _ _)];refine⟨trivial,by decide,by decide,by decide,λp G2 n2=>?_⟩
       show ixU (.loc p) (.int 0) G2 Q;rw[ix_l n2.at (jaO _ _)];exact q G2 n2.sa
      ·by_cases c2:y=-1
       ·subst c2;rw[show inI (-1) 1 (.int (-1))=true from rfl,if_neg (by decide)]
        simp! only[ix_t (jat _ _ _)];rw[if_neg (by decide)]
        simp! only[jaT,jal,ix_t (jat _ _ _),ix_t (jaO _ _),ix_t e,Spn.u,c13,ix_t (jat _ _ _)];refine⟨trivial,by decide,by decide,by decide,λp G2 n2=>?_⟩
        show ixU (.loc p) (.int 1) G2 Q;rw[ix_l n2.at (jat _ _ _)];exact q G2 n2.sa
       ·have q:=q G Sa.refl;rw[w,decide_eq_false c1,decide_eq_false c2]at q;by_cases c3:y=0
        ·subst c3;rw[show inI (-1) 1 (.int 0)=true from rfl,if_neg (by decide)]
         simp! only[ix_t (jat _ _ _)];exact q
        ·have:inI (-1) 1 (.int y)=false:=by rw[i1];simp;lia
         rw[this,if_pos (by decide)]
         simp! only[];exact q
     |_=>cases c
    |_=>rw[if_pos (by rfl)];simp! only[];exact q G Sa.refl
  |[w,x,y],[dw,_,_],.cons hw (.cons hx (.cons hy .nil))=>
   refine⟨by decide,rfl,rfl,?_⟩
   have q:∀G',Sa G G'->Q (if (jd7 w&&(jau st x&&jau st y))=true then prZ (endZ ss (.tup [w,x,y])) else .non) G':=q
   simp! only[jaU];rw[if_neg (by decide),if_pos (by simp)]
   have ec:Z.cut [w,x,y] (some 1) none=[x,y]:=jfa [w,x,y] 1;simp! only[ec];refine⟨show 2<=Yag by decide,?_⟩
   have hxy:Ths G [x,y] _:=.cons hx (.cons hy .nil);refine jaC (λi acc G'=>G'=G/\acc=([x,y].take i).map λv=>.bl (jau st v)) ?_ ?_ ⟨rfl,rfl⟩
   ·rintro acc G1 ⟨rfl,rfl⟩;refine⟨trivial,λp G2 n2=>?_⟩;have g2:G2 p=some (.lst [.bl (jau st x),.bl (jau st y)]):=n2.at
    simp! only[ix_t (jaO _ _),jbJ (hw.sa n2.sa) (show "str" ∈ ["bool", "int", "str", "list", "tuple", "dict"] by decide)]
    cases hw with
    |str w=>
     rw[show isD (.str w) "str" = true from rfl,if_pos rfl];simp! only[ix_t (jaO _ _)];by_cases c:w = "home"
     ·subst c;rw[show jd7 (.str "home")=true from rfl,Ycy]at q;rw[if_pos (by simp)]
      refine in_l g2 rfl rfl ?_;have ea:(List.any [U.bl (jau st x),.bl (jau st y)] λz=>eqF z (.bl false)) = !(jau st x&&jau st y):=by
       show((jau st x==false)||((jau st y==false)||false))=_;cases jau st x<;>cases jau st y<;>rfl
      rw[ea];cases c2:(jau st x&&jau st y)with
      |false=>
       rw[c2]at q;exact q G2 n2.sa
      |true=>
       rw[c2]at q;rw[Yah]at c2;obtain⟨w1,w2⟩:=c2;cases hx<;>try (cases w1;done)
       cases hy<;>try (cases w2;done)
       exact q G2 n2.sa
     ·rw[if_neg (by simpa using c)]
      have:=q G2 n2.sa;rw[show jd7 (.str w)=decide (w = "home")from rfl,decide_eq_false c]at this;exact this
    |_=>exact q G2 n2.sa
   ·rintro i v acc G1 K hv ⟨rfl,rfl⟩ hk _;obtain⟨dv,_,tv⟩:=hxy.get hv;refine⟨trivial,jjU tv hs (hk _ _ ⟨rfl,?_⟩)⟩;rw[YbO,hv,YaB];rfl
  |_::_::_::_::r,_,h=>
   simp! only[];refine⟨by decide,in23 (by simp;lia) (by simp;lia) ?_⟩
   exact q G Sa.refl
 |non=>exact q G Sa.refl
 |bl b=>exact q G Sa.refl
 |int i=>exact q G Sa.refl
 |str x=>exact q G Sa.refl
 |lst g h=>exact q G Sa.refl
 |dic g=>exact q G Sa.refl

def jgv  (ss:List Spn)(st:List Int)(u:U):PyData:=if entB ss.length st u=true then .tuple [.int (endZ ss u).1,.int (endZ ss u).2] else .none
theorem ji7     : ∀us:List U,DUs G (us.map (jhT ss st)) (us.map (jgv ss st))
 |[]=>.nil
 |u::r=>by
  refine .cons ?_ (ji7 r);unfold jhT jgv;split
  ·exact .tup (.cons (.int _) (.cons (.int _) .nil))
  ·exact .non
theorem jhS     u:Small (jgv ss st u):=by
 unfold jgv;split
 ·exact⟨rfl,by show max 0 (max 0 0)+1<=100;decide⟩
 ·exact⟨rfl,by decide⟩
theorem jlV      {us:List U}{kk:Bool->Prop}(g:G p=some (.lst (us.map (jhT ss st))))(q:kk (!us.all (entB ss.length st))):inU .non (.loc p) G kk:=by
 unfold inU;dsimp only;rw[g];refine .inr ⟨.none,us.map (jgv ss st),.non,ji7 us,⟨rfl,by decide⟩,λe he=>?_,?_⟩
 ·obtain⟨v,_,rfl⟩:=List.mem_map.mp he;exact jhS v
 ·have:(us.map (jgv ss st)).any (λe=>YaG e .none) = !us.all (entB ss.length st):=by
   clear g q
   induction us with
   |nil=>rfl
   |cons v r ih=>
    rw[YaC,Ybr,Yba,ih,Bool.not_and];congr 1;unfold jgv;cases entB ss.length st v<;>rfl
  rw[this];exact q

theorem jjY  (h:Th G u d)(hs:∀z∈st,0<=z/\z<=7)(sl:ss.length<=24)(q:∀G',Sa G G'->Q (.bl (jdc ss st u)) G'):jac T (k+3) jcV [jal xs ss,jak st,u] G Q X:=by
 refine⟨rfl,?_⟩;simp! only[jc3,jad,Yaa,jbJ h (show "tuple" ∈ ["bool", "int", "str", "list", "tuple", "dict"] by decide)]
 cases h with
 |@tup us ds h=>
  rw[show isD (.tuple ds) "tuple" = true from rfl,if_neg (by decide)]
  simp! only[];by_cases c1:1<=us.length
  ·rw[if_pos (by simpa using (by lia:(1:Int)<=us.length))]
   by_cases c2:us.length<=60
   ·have e:decide ((us.length:Int)<=60)=true:=decide_eq_true (by lia)
    rw[e,if_neg (by decide)]
    have q:∀G',Sa G G'->Q (.bl (us.all (entB ss.length st)&&jdi (us.map (endZ ss)))) G':=λG' s=>by
     have:=q G' s;have e:jdc ss st (.tup us)=(us.all (entB ss.length st)&&jdi (us.map (endZ ss))):=by
      show(decide (1<=us.length/\us.length<=60)&&_)=_;rw[decide_eq_true ⟨c1,c2⟩];rfl
     rw[e]at this;exact this
    simp! only[jbZ];refine⟨Yaf c2 (by decide),?_⟩
    refine jaC (λi acc G'=>Sa G G'/\acc=(us.take i).map (jhT ss st)) ?_ ?_ ⟨Sa.refl,rfl⟩
    ·rintro acc G1 ⟨s1,rfl⟩;rw[Yca];refine⟨trivial,λp G2 n2=>?_⟩;simp! only[jbY];refine jlV n2.at ?_;cases c:us.all (entB ss.length st)with
     |false=>
      have:=q G2 (s1.trans n2.sa);rw[c]at this;exact this
     |true=>
      rw[if_neg (by decide)]
      rw[c]at q;have q:∀G',Sa G G'->Q (.bl (jdi (us.map (endZ ss)))) G':=q;have he:∀v∈us,entB ss.length st v=true:=List.all_eq_true.mp c;have eu:us.map (jhT ss st)=(us.map (endZ ss)).map prZ:=by
       rw[YcI];refine Ydo λv hv=>?_;show(if entB ss.length st v=true then _ else _)=_
       rw[if_pos (he v hv)];rfl
      have g2:=n2.at
      rw[eu]at g2;generalize hl:us.map (endZ ss)=l at g2 q;have ll:l.length=us.length:=by rw[<- hl,Yaj]
      simp! only[jbX,jiN g2,Yaj];refine⟨by lia,by lia,by rw[jaH];exact Yaf (show _<=60 by lia) (by decide),?_⟩
      refine jaC (λi acc G'=>G'=G2/\acc=((Ya9 i).filter λj=>!fitB l j).map λ(j:Nat)=>U.int (j:Int)) ?_ ?_ ⟨rfl,rfl⟩
      ·rintro acc G3 ⟨rfl,rfl⟩;rw[jaH];refine⟨trivial,λp4 G4 n4=>⟨by decide,λp5 G5 n5=>?_⟩⟩
       simp! only[];refine jon (n:=0) (n5.sa _ _ n4.at) n5.at (λu hu=>?_) (by decide) ?_
       ·obtain⟨j,_,rfl⟩:=List.mem_map.mp hu;exact Sml.int _
       ·have e:(((Ya9 l.length).filter λj=>!fitB l j).map λ(j:Nat)=>U.int (j:Int)).isEmpty=jdi l:=by
         unfold jdi;rw[Ybc,YfT,List.map_eq_nil_iff,List.filter_eq_nil_iff,List.all_eq_true];exact forall_congr' λj=>forall_congr' λ_=>by simp
        rw[e];exact q G5 (((s1.trans n2.sa).trans n4.sa).trans n5.sa)
      ·rintro i x acc G3 K hx ⟨rfl,rfl⟩ hk hn;obtain⟨hi,rfl⟩:=jbn hx;have hi:i<l.length:=by lia
       refine⟨trivial,?_⟩;simp! only[ix_l g2 (jkS hi),ix_l g2 (jkT hi),prZ,ix_t (jat _ _ _),ix_t (jaO _ _)];have ef:fitB l i=decide ((prvZ l i).2=(l.getD i (0,0)).1):=rfl;have er:(Ya9 (i+1)).filter (λj=>!fitB l j)=(Ya9 i).filter (λj=>!fitB l j)++if fitB l i=true then [] else [i]:=by
        rw[Yd9,List.filter_append];cases c:fitB l i<;>simp[c]
       rw[<- ef];cases c:fitB l i with
       |true=>
        rw[c,if_pos rfl,Ybb]at er;rw[if_neg (by decide)]
        exact hn _ ⟨rfl,by rw[er]⟩
       |false=>
        rw[c,if_neg (by decide)]at er
        rw[if_pos (by decide)]
        exact hk _ _ ⟨rfl,by rw[er,YaB];rfl⟩
    ·rintro i x acc G1 K hx ⟨s1,rfl⟩ hk _;refine⟨trivial,?_⟩;obtain⟨dx,ex,hx'⟩:=h.get hx;simp! only[];refine jlR (k:=k) (hx'.sa s1) hs sl λG2 s2=>hk _ _ ⟨s1.trans s2,?_⟩;rw[YbO,hx,YaB];rfl
   ·have e:decide ((us.length:Int)<=60)=false:=decide_eq_false (by lia)
    rw[e,if_pos (by decide)]
    simp! only[];have e:jdc ss st (.tup us)=false:=by
     show(decide (1<=us.length/\us.length<=60)&&_)=_;rw[decide_eq_false (by lia)];rfl
    have:=q G Sa.refl;rw[e]at this;exact this
  ·rw[if_neg (by simp;lia),if_pos (by decide)]
   simp! only[];have e:jdc ss st (.tup us)=false:=by
    show(decide (1<=us.length/\us.length<=60)&&_)=_;rw[decide_eq_false (by lia)];rfl
   have:=q G Sa.refl;rw[e]at this;exact this
 |non=>exact q G Sa.refl
 |bl b=>exact q G Sa.refl
 |int i=>exact q G Sa.refl
 |str x=>exact q G Sa.refl
 |lst g h=>exact q G Sa.refl
 |dic g=>exact q G Sa.refl


theorem ap_4  {X: KX}{bs: List Int}{u11: Option U}{o t:Nat}(hf:Fn G f c n)(hn:n<=850000000)(h1:1<=P)(h2:P<=600)(gb:G pb=some (.lst (bs.map .int)))(bl:bs.length=W)(ho:o<W)(ht:t<W)(gp:G p=some (.lst (ss.map Spn.u)))(hp:p≠f/\p≠c/\p≠pb)(sl:ss.length<=30)
  (kk:∀(s:Spn) o11 G',s.Ok W->Fn G' f c (n+7)->G' p=some (.lst ((ss++[s]).map Spn.u))->G' pb=some (.lst (bs.map .int))->(∀q v,q≠f->q≠p->G q=some v->G' q=some v)->K [some (.loc f),some (.int W),some (.int P),u3,some (.loc pb),some (.int way),some (.loc p),u7,u8,some (.int o),some (.int t),o11] G') :
  jam T.gs (jac T (k+2)) jay ⟨K,Q,λx _ G'=>X x G'⟩ [some (.loc f),some (.int W),some (.int P),u3,some (.loc pb),some (.int way),some (.loc p),u7,u8,some (.int o),some (.int t),u11] G:=by
 have fin:∀(s:Spn) o11 G1,s.Ok W->Fn G1 f c (n+7)->Sm f G G1->putO G1 p (.lst (ss.map Spn.u++[s.u])) λG2=>K [some (.loc f),some (.int W),some (.int P),u3,some (.loc pb),some (.int way),some (.loc p),u7,u8,some (.int o),some (.int t),o11] G2:=λs o11 G1 so f1 s1 G2 p2=>by
  refine kk s o11 G2 so (f1.off ⟨hp.1,hp.2.1⟩ p2) (by rw[YaB];exact p2.at) (p2.sm _ _ (Ne.symm hp.2.2) (s1 _ _ ?_ gb)) λq v hq hqp e=>p2.sm _ _ hqp (s1 _ _ hq e)
  intro z;obtain⟨ns,a,l,t,e1,_⟩:=hf.ex;rw[z,e1]at gb;cases gb
 have app:∀(b:Bool) (G0:Gp) (n0:Nat),n0<=n+1->Fn G0 f c n0->Sm f G G0->(match mtU .append (.loc p) G0 with
   |some _=>if b=true then jac T (k+2) ja7 [.loc f,.int P,.int o,.int t] G0 (λx G1=>jaW .append (.loc p) [x] G1 λ_ G1=>K [some (.loc f),some (.int W),some (.int P),u3,some (.loc pb),some (.int way),some (.loc p),u7,u8,some (.int o),some (.int t),some (.bl b)] G1) (λx G1=>X x G1) else jac T (k+2) jd3 [.loc f,.int P,.loc pb,.int o,.int t] G0 (λx G1=>jaW .append (.loc p) [x] G1 λ_ G1=>K [some (.loc f),some (.int W),some (.int P),u3,some (.loc pb),some (.int way),some (.loc p),u7,u8,some (.int o),some (.int t),some (.bl b)] G1) (λx G1=>X x G1)
   |none=>False):=by
  intro b G0 n0 h0 f0 s0;have g0:=s0 _ _ hp.1 gp;have pbf:pb≠f:=λz=>by
   obtain⟨ns,a,l,t,e1,_⟩:=hf.ex;rw[z,e1]at gb;cases gb
  rw[jg2 g0];dsimp only;have ap:∀(s:Spn) (G1:Gp),s.Ok W->Fn G1 f c (n0+6)->Sm f G0 G1->jaW .append (.loc p) [s.u] G1 λ_ G1=>K [some (.loc f),some (.int W),some (.int P),u3,some (.loc pb),some (.int way),some (.loc p),u7,u8,some (.int o),some (.int t),some (.bl b)] G1:=λs G1 so f1 s1=>by
   have g1:=s1 _ _ hp.1 g0;rw[jkk g1];exact⟨by rw[Yaj];exact Ya0 sl (by decide),fin s _ G1 so (f1.mono (by lia)) (s0.trans s1)⟩
  cases b with
  |true=>rw[if_pos rfl];exact jgb (k:=k) f0 (by lia) h1 h2 ho ht ap
  |false=>rw[if_neg (by decide)];exact jnL (k:=k) f0 (by lia) h1 h2 (s0 _ _ pbf gb) bl ho ht ap
 simp! only[jay];by_cases c5:way=5
 ·rw[if_pos (by simpa using c5)]
  exact app _ G n (by lia) hf Sm.refl
 ·rw[if_neg (by simpa using c5)]
  by_cases c2:2<way
  ·rw[if_pos (by simpa using c2)]
   refine jaf hf (by lia) (by decide) (by decide) λr G1 a1 b1 f1 s1=>?_
   simp! only[];exact app _ G1 (n+1) (Yae _) f1 s1
  ·rw[if_neg (by simpa using c2)]
   exact app _ G n (by lia) hf Sm.refl
theorem ap_0  {X: KX}{bs: List Int}{u9: Option U}{u10: Option U}{u11: Option U}{i:Nat}(hf:Fn G f c n)(hn:n<=840000000)(h1:1<=P)(h2:P<=600)(gb:G pb=some (.lst (bs.map .int)))(bl:bs.length=W)(w0:0<W)(w8:W<=8)(gp:G p=some (.lst (ss.map Spn.u)))(hp:p≠f/\p≠c/\p≠pb)(sl:ss.length<=30)
  (kk:∀(s:Spn) o9 o10 o11 G',s.Ok W->Fn G' f c (n+12)->G' p=some (.lst ((ss++[s]).map Spn.u))->G' pb=some (.lst (bs.map .int))->(∀q v,q≠f->q≠p->G q=some v->G' q=some v)->K [some (.loc f),some (.int W),some (.int P),u3,some (.loc pb),some (.int way),some (.loc p),u7,some (.int i),o9,o10,o11] G') :
  jam T.gs (jac T (k+2)) jaM ⟨K,Q,λx _ G'=>X x G'⟩ [some (.loc f),some (.int W),some (.int P),u3,some (.loc pb),some (.int way),some (.loc p),u7,some (.int i),u9,u10,u11] G:=by
 have pbf:pb≠f:=λz=>by
  obtain⟨ns,a,l,t,e1,_⟩:=hf.ex;rw[z,e1]at gb;cases gb
 have t3:∀(o t:Nat) (G0:Gp),o<W->t<W->Fn G0 f c (n+4)->Sm f G G0->jam T.gs (jac T (k+2)) jaK ⟨K,Q,λx _ G'=>X x G'⟩ [some (.loc f),some (.int W),some (.int P),u3,some (.loc pb),some (.int way),some (.loc p),u7,some (.int i),some (.int o),some (.int t),u11] G0:=by
  intro o t G0 ho ht f0 s0;simp! only[jaK];refine⟨by decide,by decide,by decide,λp1 G1 n1=>jaf (f0.new n1) (by lia) (by decide) (by decide) λr G2 a2 b2 f2 s2=>?_⟩
  have S2:Sm f G G2:=(s0.nw n1).trans s2;have fin:∀(o t:Nat),o<W->t<W->jam T.gs (jac T (k+2)) jay ⟨K,Q,λx _ G'=>X x G'⟩ [some (.loc f),some (.int W),some (.int P),u3,some (.loc pb),some (.int way),some (.loc p),u7,some (.int i),some (.int o),some (.int t),u11] G2:=λo t ho ht=>
   ap_4 (k:=k) f2 (by lia) h1 h2 (S2 _ _ pbf gb) bl ho ht (S2 _ _ hp.1 gp) hp sl λs o11 G3 so f3 g3 gb3 fr=>kk s _ _ _ G3 so (f3.mono (by lia)) g3 gb3 λq v hq hqp e=>fr q v hq hqp (S2 _ _ hq e)
  refine jgl (s2 _ _ (f0.away n1).1 n1.at) a2 b2 λu hu=>?_;simp only[YaM,Yau,or_false]at hu;rcases hu with rfl|rfl
  ·simp! only[];exact⟨trivial,fin o t ho ht⟩
  ·simp! only[];exact⟨trivial,fin t o ht ho⟩
 have t2:∀(o t:Nat) (G0:Gp),o<W->t<W->Fn G0 f c (n+3)->Sm f G G0->jam T.gs (jac T (k+2)) jaL ⟨K,Q,λx _ G'=>X x G'⟩ [some (.loc f),some (.int W),some (.int P),u3,some (.loc pb),some (.int way),some (.loc p),u7,some (.int i),some (.int o),some (.int t),u11] G0:=by
  intro o t G0 ho ht f0 s0;simp! only[jaL];by_cases c:(i:Int)+1<W
  ·rw[if_pos (by simpa using c)]
   refine jaf f0 (by lia) (by lia) (by lia) λr G2 a2 b2 f2 s2=>?_
   obtain⟨r,rfl⟩:=YaJ a2;simp! only[];exact⟨trivial,t3 (i+1) r G2 (by lia) (by lia) f2 (s0.trans s2)⟩
  ·rw[if_neg (by simpa using c)]
   exact t3 o t G0 ho ht (f0.mono (by lia)) s0
 simp! only[jaM];refine jaf hf (by lia) (by lia) (by lia) λo G1 a1 b1 f1 s1=>jaf f1 (by lia) (by lia) (by lia) λt G2 a2 b2 f2 s2=>?_
 obtain⟨o,rfl⟩:=YaJ a1;obtain⟨t,rfl⟩:=YaJ a2;have S2:=s1.trans s2;simp! only[];refine⟨trivial,?_⟩;by_cases c:(o:Int)=t
 ·rw[if_pos (by simpa using c)]
  refine jaf f2 (by lia) (by decide) (by decide) λr G3 a3 b3 f3 s3=>?_
  simp! only[];by_cases c2:0<r
  ·rw[if_pos (by simpa using c2)]
   refine⟨by lia,?_⟩
   exact t2 o ((o+1)%W) G3 (by lia) (Nat.mod_lt _ w0) f3 (S2.trans s3)
  ·rw[if_neg (by simpa using c2)]
   exact t2 o t G3 (by lia) (by lia) f3 (S2.trans s3)
 ·rw[if_neg (by simpa using c)]
  exact t2 o t G2 (by lia) (by lia) (f2.mono (by lia)) S2

noncomputable def jj5  : List Str:=["a", "ab", "works", "span", "apart", "ring", "b", "stay"]
theorem jj4  : ∀x∈jj5,Nm x:=by
 have h:∀x∈jj5,x.length<=8/\∀c∈x.cps.toList,c<128:=by decide +kernel
 exact λx hx=>⟨(h x hx).1,(h x hx).2⟩

theorem ap_6  {X: KX}{ss: List Spn}{u11: Option U}{M:Int}(hf:Fn G f c n)(hn:n<=850000000)(w0:0<W)(w8:W<=8)(M0:1<=M)(M1:M<=24)(gp:G p=some (.lst (ss.map Spn.u)))(sl:(ss.length:Int)<=M)(so:∀s∈ss,s.Ok W)
  (q:∀(xs:List Str) (ss:List Spn) G' ,xs.length=W->(∀x∈xs,Nm x)->ss.length<=24->(∀s∈ss,s.Ok W)->Fn G' f c (n+2)->Sm f G G'->Q (jal xs ss) G') :
  jam T.gs (jac T (k+2)) ja6 ⟨λ_ G'=>Q .non G',Q,λx _ G'=>X x G'⟩ [some (.loc f),some (.int W),u3,some (.int M),u4,u5,some (.loc p),u7,u8,u9,u10,u11] G:=by
 have fin:∀(ss:List Spn) (p:Addr) (G1:Gp),G1 p=some (.lst (ss.map Spn.u))->ss.length<=24->(∀s∈ss,s.Ok W)->Fn G1 f c (n+1)->Sm f G G1->jam T.gs (jac T (k+2)) jaQ ⟨λ_ G'=>Q .non G',Q,λx _ G'=>X x G'⟩ [some (.loc f),some (.int W),u3,some (.int M),u4,u5,some (.loc p),u7,u8,u9,u10,u11] G1:=by
  intro ss p G1 g1 sl so f1 s1;simp! only[jaQ];refine⟨by decide,λp2 G2 n2=>jaf (f1.new n2) (by lia) (by decide) (by decide) λr G3 a3 b3 f3 s3=>?_⟩
  have S3:=(s1.nw n2).trans s3;have pf:p≠f:=λz=>by
   obtain⟨ns,a,l,t,e1,_⟩:=f1.ex;rw[z,e1]at g1;cases g1
  have g3:=s3 _ _ pf (n2.sa _ _ g1);simp! only[];refine jaR [1,-1] (s3 _ _ (f1.away n2).1 n2.at) (by split<;>decide) (by split<;>decide) λz hz=>?_
  have hz':z=1\/z=-1:=by simpa using hz
  unfold revU lsG;dsimp only;rw[g3];dsimp only;refine⟨hz',λp4 G4 n4=>⟨by decide,?_⟩⟩
  obtain⟨ts,et,lt,mt⟩:∃ts:List Spn,(if z=1 then ss.map Spn.u else (ss.map Spn.u).reverse)=ts.map Spn.u/\ts.length=ss.length/\∀s∈ts,s∈ss:=by
   rcases hz' with rfl|rfl
   ·exact⟨ss,rfl,rfl,λ_ h=>h⟩
   ·exact⟨ss.reverse,by rw[if_neg (by decide),Ycu],by simp,λs h=>List.mem_reverse.mp h⟩
  rw[et]at n4;rw[it_l n4.at];refine⟨by decide,?_⟩
  have ec:Z.cut [U.str "a",.str "ab",.str "works",.str "span",.str "apart",.str "ring",.str "b",.str "stay"] none (some (W:Int))=(jj5.take W).map .str:=by rw[jhk,YdB];rfl
  rw[ec];exact q (jj5.take W) ts G4 (by rw[Ycv];exact Nat.min_eq_left w8) (λx hx=>jj4 x (Ye4 hx)) (by lia) (λs hs=>so s (mt s hs)) (f3.new n4) (S3.nw n4)
 have pf:p≠f:=λz=>by
  obtain⟨ns,a,l,t,e1,_⟩:=hf.ex;rw[z,e1]at gp;cases gp
 simp! only[ja6,sl_l gp];intro p1 G1 n1;have c1:Z.cut (ss.map Spn.u) none (some 1)=(ss.take 1).map Spn.u:=by rw[show(1:Int)=((1:Nat):Int)from rfl,jhk,YdB]
 rw[c1]at n1;have f1:=hf.new n1;have hp1:=hf.away n1;have mul:∀(z:Int) (G2:Gp),(z=0\/(z=1/\(ss.length:Int)<M))->Fn G2 f c (n+1)->Sm f G1 G2->binU .Mult (.loc p1) (.int z) G2 λy G2=>binU .Add (.loc p) y G2 λu G1=>jam T.gs (jac T (k+2)) jaQ ⟨λ_ G'=>Q .non G',Q,λx _ G'=>X x G'⟩ [some (.loc f),some (.int W),u3,some (.int M),u4,u5,some u,u7,u8,u9,u10,u11] G1:=by
  intro z G2 hz f2 s2;have tl:(ss.take 1).length<=1:=by rw[Ycv];lia
  refine⟨_,s2 _ _ hp1.1 n1.at,by rcases hz with rfl|⟨rfl,_⟩<;>decide,by rcases hz with rfl|⟨rfl,_⟩<;>decide,?_,λp3 G3 n3=>⟨_,_,n3.sa _ _ (s2 _ _ pf (n1.sa _ _ gp)),n3.at,?_,λp4 G4 n4=>?_⟩⟩
  ·rw[Yaj];rcases hz with rfl|⟨rfl,_⟩
   ·exact YaK _
   ·exact Yaf (show _<=1 by simpa using tl) (by decide)
  ·rcases hz with rfl|⟨rfl,_⟩
   ·exact Yaf (show(ss.map Spn.u).length+0<=24 by rw[Yaj];lia) (by decide)
   ·have e:(Yaa (Yel 1) ((ss.take 1).map Spn.u)).flatten=(ss.take 1).map Spn.u:=by simp
    rw[e,Yaj,Yaj];exact Yaf (show ss.length+(ss.take 1).length<=25 by lia) (by decide)
  have S4:Sm f G G4:=((n1.sa.sm.trans s2).nw n3).nw n4;have f4:=(f2.new n3).new n4;have n4a:=n4.at
  rcases hz with rfl|⟨rfl,hl⟩
  ·have e:ss.map Spn.u++(Yaa (Yel 0) ((ss.take 1).map Spn.u)).flatten=ss.map Spn.u:=by simp
   rw[e]at n4a;exact fin ss p4 G4 n4a (by lia) so f4 S4
  ·have e:ss.map Spn.u++(Yaa (Yel 1) ((ss.take 1).map Spn.u)).flatten=(ss++ss.take 1).map Spn.u:=by simp
   rw[e]at n4a;refine fin _ p4 G4 n4a (by rw[Yaz];lia) (λs hs=>?_) f4 S4
   rcases List.mem_append.mp hs with hs|hs
   ·exact so s hs
   ·exact so s (Ye4 hs)
 simp! only[jiN (n1.sa _ _ gp),Yaj];by_cases l0:(0:Int)<ss.length
 ·rw[if_pos (by simpa using l0)]
  by_cases l1:(ss.length:Int)<M
  ·rw[if_pos (by simpa using l1)]
   refine jaf f1 (by lia) (by decide) (by decide) λr G2 a2 b2 f2 s2=>?_
   simp! only[];refine mul _ G2 ?_ f2 s2;split
   ·exact .inr ⟨rfl,l1⟩
   ·exact .inl rfl
  ·rw[if_neg (by simpa using l1)]
   simp! only[];refine mul _ G1 (.inl ?_) (f1.mono (by lia)) Sm.refl
   rw[if_neg (by simpa using l1)]
 ·rw[if_neg (by simpa using l0)]
  simp! only[];exact mul _ G1 (.inl rfl) (f1.mono (by lia)) Sm.refl
theorem jiC  (hf:Fn G f c n)(hn:n<=800000000)(h1:1<=P)(h2:P<=600)(w0:0<W)(w8:W<=8)(m0:1<=m)(m1:m<=24)
  (q:∀(xs:List Str) (ss:List Spn) G' ,xs.length=W->(∀x∈xs,Nm x)->ss.length<=24->(∀s∈ss,s.Ok W)->Fn G' f c (n+1000)->Sm f G G'->Q (jal xs ss) G'):jac T (k+3) jdz [.loc f,.int W,.int P,.int m] G Q X:=by
 refine⟨rfl,?_⟩;simp! only[jdI,jad,Yaa];refine⟨by lia,by lia,by rw[jaH];exact Yaf (show _<=8 by lia) (by decide),?_⟩
 refine jaC (λi acc G'=>Fn G' f c (n+i)/\Sm f G G'/\∃bs:List Int,acc=bs.map .int/\bs.length=i) ?_ ?_ ⟨hf,Sm.refl,[],rfl,rfl⟩
 ·rintro acc G1 ⟨f1,s1,bs,rfl,bl⟩;rw[jaH]at f1 bl;refine⟨trivial,λpb G2 n2=>?_⟩;have f2:=f1.new n2;have hb:=f1.away n2;simp! only[jcu];refine⟨by decide,λp3 G3 n3=>jaf (f2.new n3) (by lia) (by decide) (by decide) λr4 G4 a4 b4 f4 s4=>?_⟩
  simp! only[];refine jaR [m,24] (s4 _ _ (f2.away n3).1 n3.at) (by split<;>decide) (by show _<(2:Int);split<;>decide) λM hM=>?_
  have hM':1<=M/\M<=24:=by simp only[YaM,Yau,or_false]at hM;lia
  refine jaf f4 (by lia) (by decide) (by decide) λway G5 a5 b5 f5 s5=>⟨by decide,λp6 G6 n6=>?_⟩
  have f6:=f5.new n6;have h6:=f5.away n6;simp! only[];refine jaf f6 (by lia) (by lia) (by lia) λr7 G7 a7 b7 f7 s7=>⟨by decide,λp8 G8 n8=>jaf (f7.new n8) (by lia) (by decide) (by decide) λr9 G9 a9 b9 f9 s9=>?_⟩
  refine jaR [(W:Int)-1,W,W+1,r7,M,W] (s9 _ _ (f7.away n8).1 n8.at) a9 b9 λmany hmany=>?_;have hm:0<=many/\many<=24:=by simp only[YaM,Yau,or_false]at hmany;lia
  have S5:Sm f G G5:=(((s1.nw n2).nw n3).trans s4).trans s5;have S69:Sm f G6 G9:=(s7.nw n8).trans s9;have S9:Sm f G G9:=(S5.nw n6).trans S69;have gb5:G5 pb=some (.lst (bs.map .int)):=s5 _ _ hb.1 (s4 _ _ hb.1 (n3.sa _ _ n2.at));have gb9:G9 pb=some (.lst (bs.map .int)):=S69 _ _ hb.1 (n6.sa _ _ gb5);have gp9:G9 p6=some (.lst []):=S69 _ _ h6.1 n6.at
  have p6b:p6≠pb:=jgc gb5 n6.no;simp! only[jct];obtain⟨R,hR,R24,RM⟩:∃R:Nat,(if many<M then many else M)=(R:Int)/\R<=24/\(R:Int)<=M:=by
   obtain⟨a,ha⟩:=YaJ (show 0<=if many<M then many else M by split<;>lia)
   exact⟨a,ha,by split at ha<;>lia,by split at ha<;>lia⟩
  rw[hR];refine⟨by lia,by lia,?_⟩
  refine jbr (λi ς G'=>∃ss o8 o9 o10 o11,ς=[some (.loc f),some (.int W),some (.int P),some (.int M),some (.loc pb),some (.int way),some (.loc p6),some (.int many),o8,o9,o10,o11]/\Fn G' f c (n+30+12*i)/\Sm f G G'/\G' p6=some (.lst (ss.map Spn.u))/\G' pb=some (.lst (bs.map .int))/\ss.length=i/\∀s∈ss,s.Ok W) ?_ ?_ ⟨[],_,_,_,_,rfl,f9.mono (by lia),S9,gp9,gb9,rfl,λs h=>(nomatch h)⟩
  ·rintro ς Ga ⟨ss,o8,o9,o10,o11,rfl,fa,sa,ga,gba,sl,so⟩;rw[jaH]at sl fa;refine⟨trivial,?_⟩;exact ap_6 (k:=k) fa (by lia) w0 w8 hM'.1 hM'.2 ga (by lia) so λxs ss' Gb xl nm sl' so' fb sb=>q xs ss' Gb xl nm sl' so' (fb.mono (by lia)) (sa.trans sb)
  ·rintro i x ς Ga K hx ⟨ss,o8,o9,o10,o11,rfl,fa,sa,ga,gba,sl,so⟩ hk;obtain⟨hi,rfl⟩:=jbn hx;refine⟨trivial,?_⟩;refine ap_0 (k:=k) fa (by lia) h1 h2 gba bl w0 w8 ga ⟨h6.1,h6.2,p6b⟩ (by lia) λs o9 o10 o11 Gb hs fb gb ggb fr=>hk _ _ ⟨ss++[s],_,_,_,_,rfl,fb.mono (by lia),λb o hb' e=>fr b o hb' (λz=>?_) (sa _ _ hb' e),gb,ggb,by rw[Yaz,sl];rfl,λt ht=>?_⟩
   ·have:=S5 _ _ hb' e;rw[z,n6.no]at this;cases this
   ·rcases List.mem_append.mp ht with h|h
    ·exact so t h
    ·rw[List.mem_singleton.mp h];exact hs
 ·rintro i x acc G1 K hx ⟨f1,s1,bs,rfl,bl⟩ hk _;obtain⟨hi,rfl⟩:=jbn hx;refine⟨trivial,?_⟩;simp! only[];exact jaf f1 (by lia) (by lia) (by lia) λr G2 a2 b2 f2 s2=>hk _ _ ⟨f2,s1.trans s2,bs++[r],by simp,by simp[bl]⟩

mutual
noncomputable def wt:PyData->Nat
 |.none=>5
 |.bool _=>5
 |.int _=>50
 |.str x=>10*x.length+2
 |.tuple ds=>wtA ds+3
 |.list ds=>wtA ds+3
 |.dict _=>2
noncomputable def wtA:List PyData->Nat
 |[]=>0
 |d::r=>wt d+2+wtA r
end
mutual
noncomputable def wkD (j:Nat):PyData->Prop
 |.none=>True
 |.bool _=>True
 |.int i=>i.natAbs<=10 ^ 39+j
 |.str x=>∀c∈x.cps.toList,c<16 ^ 8
 |.tuple ds=>wkA j ds
 |.list ds=>wkA j ds
 |.dict l=>l=[]
noncomputable def wkA (j:Nat):List PyData->Prop
 |[]=>True
 |d::r=>wkD j d/\wkA j r
end
theorem jfl   : (tupleText ts).length<=piled ts+3:=by
 have two:∀b:Bool,((((if b=true then ",)" else ")"):String):Str)).length<=2:=by decide
 have z:=two (ts.length==1);have one:(("(" : String):Str).length=1:=rfl
 have:=jl7 ts;simp only[tupleText,Yfk]at z ⊢
 lia
theorem jgg   : (listText ts).length<=piled ts+3:=by
 have:=jdU ts 0 "["
 have one:(("[" : String):Str).length=1/\(("]" : String):Str).length=1:=⟨rfl,rfl⟩;simp only[listText,Yfk]
 lia
theorem jkb   (h:i.natAbs<10 ^ 45):Fits 50 0 (.int i):=by
 have hl:i.natAbs.log2<1920:=by
  by_cases z:i.natAbs=0
  ·rw[z];decide
  ·exact Yap ((Nat.log2_lt z).mpr (Yap h (by decide:10 ^ 45<=2 ^ 160))) (by decide)
 refine⟨by simp[Yc2,hl],?_,Yae _⟩
 simp only[Yb9];have:=int_text_length_le10 (a:=i) (k:=45) (by decide) h
 show(PySem.Str.ofString (toString i)).length<=50;rw[ofString_length]
 lia
mutual
theorem jol {j:Nat}(hj:j<=1000):∀{d:PyData},wkD j d->Fits (wt d) d.depth d
 |.none,_=>Fits.non.mono (by decide) (YaK _)
 |.bool b,_=>(Fits.bl b).mono (Yae _) (YaK _)
 |.int i,h=>(jkb (Ya0 (show i.natAbs<=10 ^ 39+j from h) (Ya0 (YcD hj _) (by decide)))).mono (Yae _) (YaK _)
 |.str x,h=>(Fits.str (m:=x.length) (Yae _) h).mono (Yae _) (YaK _)
 |.tuple ds,h=>by
  obtain⟨h1,h2⟩:=ji4 hj (ds:=ds) h
  refine⟨by simp only[Yc2];exact h1,?_,Yae _⟩
  simp only[Yb9]
  exact Yaf jfl (Ycx h2 3)
 |.list ds,h=>by
  obtain⟨h1,h2⟩:=ji4 hj (ds:=ds) h
  refine⟨by simp only[Yc2];exact h1,?_,Yae _⟩
  simp only[Yb9]
  exact Yaf jgg (Ycx h2 3)
 |.dict l,h=>by
  have h:l=[]:=h
  subst h
  exact⟨Fits.dic.sh,Fits.dic.ln,Yae _⟩
theorem ji4 {j:Nat}(hj:j<=1000):∀{ds:List PyData},wkA j ds->Ye2 ds=true/\piled (YfF ds)<=wtA ds
 |[],_=>⟨rfl,Yae _⟩
 |d::r,h=>by
  have f:=jol hj (d:=d) h.1
  obtain⟨h1,h2⟩:=ji4 hj (ds:=r) h.2
  refine⟨by simp[Ye2,f.sh,h1],?_⟩
  show piled (d.shown::YfF r)<=wt d+2+wtA r
  rw[piled_cons]
  have:=f.ln
  lia
end
structure Bx (w k j:Nat)(d:PyData):Prop where
 ok:wkD j d
 w:wt d<=w
 k:d.depth<=k
structure BxA (w k j:Nat)(ds:List PyData):Prop where
 ok:wkA j ds
 w:wtA ds<=w
 k:Ybv ds<=k
section
variable {w w' k k' j j':Nat}{d:PyData}{ds es:List PyData}
theorem jjs  (h:j<=j'):wkD j d->wkD j' d:=by
 intro hd;exact(go h d).1 hd
where
 go {j j':Nat} (h:j<=j') (d:PyData):(wkD j d->wkD j' d)/\True:=⟨λhd=>aux h hd,trivial⟩
 aux {j j':Nat} (h:j<=j'):∀{d:PyData},wkD j d->wkD j' d
  |.none,_=>trivial
  |.bool _,_=>trivial
  |.int i,hd=>Yaf (show i.natAbs<=10 ^ 39+j from hd) (YcD h _)
  |.str _,hd=>hd
  |.tuple ds,hd=>auxA h (ds:=ds) hd
  |.list ds,hd=>auxA h (ds:=ds) hd
  |.dict _,hd=>hd
 auxA {j j':Nat} (h:j<=j'):∀{ds:List PyData},wkA j ds->wkA j' ds
  |[],_=>trivial
  |_::_,hd=>⟨aux h hd.1,auxA h hd.2⟩
theorem Bx.mono  (h:Bx w k j d)(h1:w<=w')(h2:k<=k')(h3:j<=j'):Bx w' k' j' d:=⟨jjs h3 h.ok,Yaf h.w h1,Yaf h.k h2⟩
theorem Bx.ft  (h:Bx w k j d)(hj:j<=1000):Fits w k d:=(jol hj h.ok).mono h.w h.k
theorem BxA.tup  (h:BxA w k j ds):Bx (w+3) (k+1) j (.tuple ds):=⟨h.ok,Ycx h.w 3,Ycw h.k⟩
theorem BxA.lst  (h:BxA w k j ds):Bx (w+3) (k+1) j (.list ds):=⟨h.ok,Ycx h.w 3,Ycw h.k⟩
end

def Ob  (w k j:Nat)(G:Gp)(u:U):Prop:=∃d,Th G u d/\Bx w k j d
section
variable {k:Nat}{G G':Gp}{Q:K1}{X:KX}{f c p:Addr}{n w k0 j:Nat}{u:U}{d:PyData}{us:List U}{u1 u3 u4:Option U}
theorem Ob.sa  (h:Ob w k0 j G u)(s:Sa G G'):Ob w k0 j G' u:=let ⟨d,t,b⟩:=h;⟨d,t.sa s,b⟩
theorem Ob.mn  (h:Ob w k0 j G u)(hf:Fn G f c n)(s:Sm f G G'):Ob w k0 j G' u:=let ⟨d,t,b⟩:=h;⟨d,t.mono hf s,b⟩
noncomputable def hide  (G:Gp)(p:Addr):Gp:=λb=>if b=p then none else G b
theorem ja5    : Sa (hide G p) G:=λb o e=>by
 unfold hide at e;split at e
 ·cases e
 ·exact e
theorem jcD     (e:G b=some o)(h:b≠p):hide G p b=some o:=by unfold hide;rw[if_neg h];exact e
theorem Sm.hide {f p:Addr}{G G':Gp}(s:Sm f G G'):Sm f (hide G p) (hide G' p):=λb o hb e=>by
 by_cases z:b=p
 ·unfold Z.hide at e;rw[if_pos z]at e;cases e
 ·exact jcD (s b o hb (ja5 b o e)) z
theorem Sa.hide {p:Addr}{G G':Gp}(s:Sa G G'):Sa (hide G p) (hide G' p):=λb o e=>by
 by_cases z:b=p
 ·unfold Z.hide at e;rw[if_pos z]at e;cases e
 ·exact jcD (s b o (ja5 b o e)) z
structure Hd (G:Gp)(p0 f c:Addr):Prop where
 nf:p0≠f
 nc:p0≠c
 ex:∃o,G p0=some o
theorem Hd.sm   (h:Hd G p0 f c)(s:Sm f G G'):Hd G' p0 f c:=⟨h.nf,h.nc,let ⟨o,e⟩:=h.ex;⟨o,s _ _ h.nf e⟩⟩
theorem Fn.hide {p0:Addr}(h:Fn G f c n)(hd:Hd G p0 f c):Fn (hide G p0) f c n:=let ⟨ns,a,l,t,h1,h2,h3⟩:=h.ex;⟨ns,a,l,t,jcD h1 (Ne.symm hd.nf),jcD h2 (Ne.symm hd.nc),h3⟩
def Oh  (p0:Addr)(w k j:Nat)(G:Gp)(u:U):Prop:=Ob w k j (hide G p0) u
variable {p0:Addr}
theorem Oh.mn  (h:Oh p0 w k0 j G u)(hf:Fn G f c n)(hd:Hd G p0 f c)(s:Sm f G G'):Oh p0 w k0 j G' u:=Ob.mn (G:=Z.hide G p0) h (hf.hide hd) s.hide
end
theorem New.hid     (n:New G p o G'):Sa G (hide G' p):=λb u e=>jcD (n.sa _ _ e) λz=>by rw[z,n.no]at e;cases e
theorem Put.hid     (n:Put G p o G'):Sa (hide G p) (hide G' p):=λb u e=>by
 by_cases z:b=p
 ·unfold hide at e;rw[if_pos z]at e;cases e
 ·exact jcD (n.sm _ _ z (ja5 _ _ e)) z
structure Tl (G:Gp)(p f c:Addr)(us:List U)(n:Nat):Prop where
 g:G p=some (.lst us)
 hd:Hd G p f c
 l:us.length<=n
 o:∀u∈us,Oh p 90000 20 0 G u
section
variable {G G':Gp}{u:U}{us vs:List U}{n m:Nat}{f c p:Addr}
theorem jnY  (hf:Fn G f c n)(g:G p=some (.lst us)):p≠f:=λe=>by
 obtain⟨ns,x,y,z,h1,_⟩:=hf.ex;rw[e,h1]at g;cases g
theorem Tl.sm  (h:Tl G p f c us m)(hf:Fn G f c n)(s:Sm f G G'):Tl G' p f c us m:=⟨s _ _ h.hd.nf h.g,h.hd.sm s,h.l,λu hu=>(h.o u hu).mn hf h.hd s⟩
theorem Tl.app   (h:Tl G p f c us m)(hx:Oh p 90000 20 0 G x)(w:Put G p (.lst (us++[x])) G'):Tl G' p f c (us++[x]) (m+1):=by
 have s:∀{y:U},Oh p 90000 20 0 G y->Oh p 90000 20 0 G' y:=λo=>Ob.sa (G:=hide G p) o w.hid;refine⟨w.at,⟨h.hd.nf,h.hd.nc,_,w.at⟩,by rw[Yaz];exact Ycw h.l,λy hy=>?_⟩
 rcases List.mem_append.mp hy with hy|hy
 ·exact s (h.o y hy)
 ·rw[List.mem_singleton.mp hy];exact s hx
end

abbrev Wn:=List (Int×Int)
noncomputable def wu  (w:Int×Int):U:=.tup [.int w.1,.int w.2]
def wsU  (ws:Wn):U:=.tup (ws.map wu)
noncomputable def topO  (P:Int)(s:Spn):Int:=if s.lo+P-1<(if s.w = "span" then s.hi else P-s.hi) then s.lo+P-1 else if s.w = "span" then s.hi else P-s.hi
def winO  (P:Int)(ss:List Spn):Wn:=ss.map λs=>(s.lo,topO P s)
theorem jmP   {l:List Int}(g:G a=some (.lst (l.map .int))):sumU [.loc a] G Q=Q (.int l.sum) G:=by
 unfold sumU;dsimp only;rw[g];dsimp only;rw[jg9]
section
variable {k:Nat}{G:Gp}{Q:K1}{X:KX}{xs:List Str}{ss:List Spn}{ws:Wn}{P:Int}{W:Nat}{f c:Addr}
theorem jnK  {i:Nat}(hs:ss[i]?=some s)(h:s.Ok W)(q:Q (.int (if s.w = "span" then s.hi else P-s.hi)) G):jac T (k+1) jg1 [jal xs ss,.int P,.int i] G Q X:=by
 refine⟨rfl,?_⟩;simp! only[jhi,jad,Yaa,jal,ix_t (jat _ _ _),ix_t (atM hs),Spn.u];refine⟨trivial,?_⟩;rcases h.w with z|z
 ·rw[z,if_neg (by decide +kernel)]
  rw[z,if_neg (show ¬(("apart" : Str) = "span") by decide +kernel)]at q
  exact q
 ·rw[z,if_pos (by decide +kernel)]
  rw[z,if_pos rfl]at q;exact q
theorem jhC  (so:∀s∈ss,s.Ok W)(sl:ss.length<=24)(q:∀G',Sa G G'->Q (wsU (winO P ss)) G'):jac T (k+3) jb3 [jal xs ss,.int P] G Q X:=by
 refine⟨rfl,?_⟩;simp! only[jdC,jad,Yaa,jal,ix_t (jat _ _ _),Yaj];refine⟨by lia,by lia,by rw[jaH];exact Yaf (show((ss.length:Int)).toNat<=24 by lia) (by decide),?_⟩
 refine jaC (λi acc G'=>G'=G/\acc=(winO P (ss.take i)).map wu) ?_ ?_ ⟨rfl,rfl⟩
 ·rintro acc G' ⟨rfl,rfl⟩;rw[jaH,Yca];refine⟨trivial,λp G1 n1=>?_⟩;dsimp only;rw[it_l n1.at];exact q G1 n1.sa
 ·rintro i x acc G' K hx ⟨rfl,rfl⟩ hk _;obtain⟨hi,rfl⟩:=jbn hx;have hi:i<ss.length:=by lia
  have es:ss[i]?=some ss[i]:=YaD hi;refine⟨trivial,?_⟩;simp! only[];refine⟨rfl,?_⟩;simp! only[jef,jad,Yaa,jal,ix_t (jat _ _ _),ix_t (atM es)];show ixU (.tup [.str ss[i].w,.int ss[i].o,.int ss[i].t,.int ss[i].lo,.int ss[i].hi]) _ _ _;rw[ix_t (show atI [U.str ss[i].w,.int ss[i].o,.int ss[i].t,.int ss[i].lo,.int ss[i].hi] 3=some (.int ss[i].lo)from rfl)];simp! only[];refine jnK (xs:=xs) (P:=P) es (so _ (YdT hi)) ?_;simp! only[];refine⟨by decide,hk _ _ ⟨rfl,?_⟩⟩
  unfold winO;rw[YbO,es,YaB,YaB];rfl
theorem jiA    (hs:s<ws.length)(wl:ws.length<=24)(q:Q (wsU (ws.set s w)) G):jac T (k+1) jbo [wsU ws,.int s,wu w] G Q X:=by
 refine⟨rfl,?_⟩;simp! only[jcZ,jad,Yaa,wsU];have e1:cut (ws.map wu) none (some (s:Int))=(ws.take s).map wu:=by rw[jhk,YdB]
 have e2:cut (ws.map wu) (some ((s:Int)+1)) none=(ws.drop (s+1)).map wu:=by
  have:=jfa (ws.map wu) (s+1);rw[List.map_drop];exact this
 rw[e1,e2];refine⟨by decide,Yaf (show _<=30 by simp;lia) (by decide),Yaf (show _<=60 by simp;lia) (by decide),?_⟩
 have e3:(ws.take s).map wu++[wu w]++(ws.drop (s+1)).map wu=(ws.set s w).map wu:=by
  rw[YdA,if_pos hs];simp
 rw[e3];exact q
theorem jhE  {i:Nat}(hs:ss[i]?=some s)(h:s.Ok W)(q:Q (wu (s.lo,topO P s)) G):jac T (k+1) jdy [jal xs ss,.int P,.int i] G Q X:=by
 refine⟨rfl,?_⟩;simp! only[jdH,jad,Yaa,jal,ix_t (jat _ _ _),ix_t (atM hs),Spn.u];refine⟨trivial,?_⟩;unfold topO at q;rcases h.w with z|z
 ·rw[z,if_neg (by decide +kernel)]
  rw[z,if_neg (show ¬(("apart" : Str) = "span") by decide +kernel)]at q
  exact⟨by decide,q⟩
 ·rw[z,if_pos (by decide +kernel)]
  rw[z,if_pos rfl]at q;exact⟨by decide,q⟩
theorem jlP  (so:∀s∈ss,s.Ok W)(sl:ss.length<=24)(q:∀G',Sa G G'->Q (wsU (winO P ss)) G'):jac T (k+2) jbe [jal xs ss,.int P] G Q X:=by
 refine⟨rfl,?_⟩;simp! only[jbf,jad,Yaa,jal,ix_t (jat _ _ _),Yaj];refine⟨by lia,by lia,by rw[jaH];exact Yaf (show((ss.length:Int)).toNat<=24 by lia) (by decide),?_⟩
 refine jaC (λi acc G'=>G'=G/\acc=(winO P (ss.take i)).map wu) ?_ ?_ ⟨rfl,rfl⟩
 ·rintro acc G' ⟨rfl,rfl⟩;rw[jaH,Yca];refine⟨trivial,λp G1 n1=>?_⟩;dsimp only;rw[it_l n1.at];exact q G1 n1.sa
 ·rintro i x acc G' K hx ⟨rfl,rfl⟩ hk _;obtain⟨hi,rfl⟩:=jbn hx;have hi:i<ss.length:=by lia
  have es:ss[i]?=some ss[i]:=YaD hi;refine⟨trivial,?_⟩;simp! only[];refine jhE (xs:=xs) (P:=P) es (so _ (YdT hi)) (hk _ _ ⟨rfl,?_⟩);unfold winO;rw[YbO,es,YaB,YaB];rfl
theorem jgW    (hs:s<ws.length)(wl:ws.length<=24)(q:Q (wsU (ws.set s (a,b))) G):jac T (k+1) jdf [wsU ws,.int s,.int a,.int b] G Q X:=by
 refine⟨rfl,?_⟩;simp! only[jeH,jad,Yaa,wsU];have e1:cut (ws.map wu) none (some (s:Int))=(ws.take s).map wu:=by rw[jhk,YdB]
 have e2:cut (ws.map wu) (some ((s:Int)+1)) none=(ws.drop (s+1)).map wu:=by
  have:=jfa (ws.map wu) (s+1);rw[List.map_drop];exact this
 rw[e1,e2];refine⟨by decide,by decide,Yaf (show _<=30 by simp;lia) (by decide),Yaf (show _<=60 by simp;lia) (by decide),?_⟩
 have e3:(ws.take s).map wu++[U.tup [.int a,.int b]]++(ws.drop (s+1)).map wu=(ws.set s (a,b)).map wu:=by
  rw[YdA,if_pos hs];simp[wu]
 rw[e3];exact q
end

noncomputable def bt  (bs:List Int)(x:Int):Int:=bs.getD x.toNat 0
theorem jki  {bs:List Int}{x:Int}(h0:0<=x)(h1:x<bs.length):atI (bs.map U.int) x=some (.int (bt bs x)):=by
 obtain⟨j,rfl⟩:=YaJ h0;have hj:j<bs.length:=by lia
 have:bs[j]?=some (bt bs (j:Int)):=by unfold bt;simp[Ych,hj]
 exact atM this
def esZ  (bs:List Int)(ws:Wn):U->Int×Int
 |.tup [_,.int a,.int b]=>(bt bs b-bt bs a,bt bs b-bt bs a)
 |.tup [.int s,.int y]=>if y=1 then ws.getD s.toNat (0,0) else (-(ws.getD s.toNat (0,0)).2,-(ws.getD s.toNat (0,0)).1)
 |_=>(0,0)
def sLo  (bs:List Int)(ws:Wn)(r:List U):Int:=(r.map λv=>(esZ bs ws v).1).sum
def sHi  (bs:List Int)(ws:Wn)(r:List U):Int:=(r.map λv=>(esZ bs ws v).2).sum
def barB  (P:Int)(bs:List Int)(ws:Wn)(r:List U):Bool:=decide (sHi bs ws r/P*P<sLo bs ws r)

theorem jjZ  {ss: List Spn}(wl:ws.length=ss.length)(hs:∀z∈st,0<=z/\z<bs.length)(he:entB ss.length st v=true)(q:Q (prZ (esZ bs ws v)) G):jac T (k+1) jdA [jak bs,wsU ws,v] G Q X:=by
 refine⟨rfl,?_⟩;rcases jee he with⟨a,b,rfl,ha,hb⟩|⟨s,y,rfl,hs',hy⟩
 ·have a1:=hs a ha;have b1:=hs b hb;simp! only[jcf,jad,Yaa,jak,ix_t (jat _ _ _),ix_t (jjp _ _ _ _),ix_t (jki a1.1 a1.2),ix_t (jki b1.1 b1.2)];exact⟨by decide,q⟩
 ·have il:s<ws.length:=by lia
  have ew:ws[s]?=some ws[s]:=YaD il;have eg:ws.getD s (0,0)=ws[s]:=by simp[Ych,il]
  simp! only[jcf,jad,Yaa,wsU,ix_t (atM ew),wu];refine⟨trivial,trivial,?_⟩;have e2:esZ bs ws (.tup [.int (s:Int),.int y])=if y=1 then ws[s] else (-ws[s].2,-ws[s].1):=by
   show(if y=1 then ws.getD ((s:Int)).toNat (0,0) else _)=_
   rw[Yb3,eg]
  rw[e2]at q;rcases hy with rfl|rfl
  ·rw[if_pos (by decide)]
   exact⟨by decide,q⟩
  ·rw[if_neg (by decide)]
   exact⟨by decide,q⟩
theorem jlN  (wl:ws.length=ss.length)(hs:∀z∈st,0<=z/\z<bs.length)(hr:∀v∈r,entB ss.length st v=true)(rl:r.length<=60)(q:∀G',Sa G G'->Q (.tup [.int (sLo bs ws r),.int (sHi bs ws r)]) G'):jac T (k+2) jfx [jal xs ss,.int P,jak bs,wsU ws,.tup r] G Q X:=by
 refine⟨rfl,?_⟩;simp! only[jfL,jad,Yaa];refine⟨Yaf rl (by decide),?_⟩
 refine jcg (λv=>prZ (esZ bs ws v)) trivial (λv hv K hK=>?_) ?_
 ·simp! only[];exact jjZ wl hs (hr v hv) hK
 intro p1 G1 n1;rw[YbA]at n1;simp! only[it_l n1.at];refine⟨by rw[Yaj];exact Yaf rl (by decide),?_⟩
 refine jcg (λu=>match u with|.tup [a,_]=>a|u=>u) (by unfold lsG;rw[n1.at]) (λu hu K hK=>?_) ?_
 ·obtain⟨e,he,rfl⟩:=List.mem_map.mp hu;simp! only[prZ];exact⟨trivial,hK⟩
 intro p2 G2 n2;have t1:[]++(r.map λv=>prZ (esZ bs ws v)).map (λu=>match u with|.tup [a,_]=>a|u=>u)=(r.map λv=>(esZ bs ws v).1).map .int:=by
  rw[YbA,YcI,YcI];rfl
 rw[t1]at n2;rw[jmP n2.at,it_l (n2.sa _ _ n1.at)];refine⟨by rw[Yaj];exact Yaf rl (by decide),?_⟩
 refine jcg (λu=>match u with|.tup [_,b]=>b|u=>u) (by unfold lsG;rw[n2.sa _ _ n1.at]) (λu hu K hK=>?_) ?_
 ·obtain⟨e,he,rfl⟩:=List.mem_map.mp hu;simp! only[prZ];exact⟨trivial,hK⟩
 intro p3 G3 n3;have t2:[]++(r.map λv=>prZ (esZ bs ws v)).map (λu=>match u with|.tup [_,b]=>b|u=>u)=(r.map λv=>(esZ bs ws v).2).map .int:=by
  rw[YbA,YcI,YcI];rfl
 rw[t2]at n3;rw[jmP n3.at];exact⟨by decide,q G3 ((n1.sa.trans n2.sa).trans n3.sa)⟩
theorem jlS  (wl:ws.length=ss.length)(hs:∀z∈st,0<=z/\z<bs.length)(hr:∀v∈r,entB ss.length st v=true)(rl:r.length<=60)(p1:1<=P)(p2:P<=600)(q:∀G',Sa G G'->Q (.bl (barB P bs ws r)) G'):jac T (k+3) jd2 [jal xs ss,.int P,jak bs,wsU ws,.tup r] G Q X:=by
 refine⟨rfl,?_⟩;simp! only[jeg,jad,Yaa];refine jlN wl hs hr rl λG1 s1=>?_;simp! only[];exact⟨trivial,by lia,by lia,.inr (by constructor<;>lia),q G1 s1⟩
theorem jjX  {ss: List Spn}(wl:ws.length=ss.length)(hs:∀z∈st,0<=z/\z<bs.length)(hr:∀v∈r,entB ss.length st v=true)(q:∀G',Sa G G'->Q (.tup [.int (sLo bs ws r),.int (sHi bs ws r)]) G'):jac T (k+1) jcU [jak bs,wsU ws,.tup r] G Q X:=by
 refine⟨rfl,?_⟩;simp! only[jc2,jad,Yaa];refine⟨by decide,?_⟩
 simp! only[jbR];refine jbr (λi ς G'=>∃(o4 o5 o6 o7:Option U),ς=[some (jak bs),some (wsU ws),some (.tup r),some (prZ (sLo bs ws (r.take i),sHi bs ws (r.take i))),o4,o5,o6,o7]/\Sa G G') ?_ ?_ ⟨_,_,_,_,rfl,Sa.refl⟩
 ·rintro ς G' ⟨o4,o5,o6,o7,rfl,s1⟩;rw[Yca];refine⟨trivial,?_⟩;simp! only[jbQ];exact q G' s1
 ·rintro i x ς G' K hx ⟨o4,o5,o6,o7,rfl,s1⟩ hk;have he:=hr x (Yay hx);have a1:sLo bs ws (r.take (i+1))=sLo bs ws (r.take i)+(esZ bs ws x).1:=by unfold sLo;rw[YbO,hx];simp
  have a2:sHi bs ws (r.take (i+1))=sHi bs ws (r.take i)+(esZ bs ws x).2:=by unfold sHi;rw[YbO,hx];simp
  refine⟨trivial,?_⟩;rcases jee he with⟨a,b,rfl,ha,hb⟩|⟨s,y,rfl,hs',hy⟩
  ·have h1:=hs a ha;have h2:=hs b hb;simp! only[];rw[if_pos (by decide)]
   simp! only[jak,ix_t (jat _ _ _),ix_t (jjp _ _ _ _),ix_t (jki h1.1 h1.2),ix_t (jki h2.1 h2.2),prZ];refine⟨by decide,by simp,by decide,by decide,by decide,?_⟩
   simp! only[ix_t (jaO _ _),ix_t (jat _ _ _)];refine⟨by decide,hk _ _ ⟨?w04,?w05,?w06,?w07,?e,s1⟩⟩
   case e=>
    rw[a1,a2,show(esZ bs ws (.tup [.str "home",.int a,.int b]))=(bt bs b-bt bs a,bt bs b-bt bs a)from rfl];rfl
  ·have il:s<ws.length:=by lia
   have ew:ws[s]?=some ws[s]:=YaD il;have eg:ws.getD s (0,0)=ws[s]:=by simp[Ych,il]
   have e2:esZ bs ws (.tup [.int (s:Int),.int y])=if y=1 then ws[s] else (-ws[s].2,-ws[s].1):=by
    show(if y=1 then ws.getD ((s:Int)).toNat (0,0) else _)=_
    rw[Yb3,eg]
   rw[e2]at a1 a2;simp! only[];rw[if_neg (by decide)]
   simp! only[ix_t (jaO _ _),wsU,ix_t (atM ew),wu];refine⟨trivial,by decide,by decide,by decide,λp2 G2 n2=>?_⟩
   simp! only[ix_t (jat _ _ _)];rcases hy with rfl|rfl
   ·rw[if_neg (by decide),ix_l n2.at (show atI _ (0:Int)=some _ from jaO _ _)]
    simp! only[prZ,ix_t (jaO _ _),ix_t (jat _ _ _)];refine⟨by decide,hk _ _ ⟨?w14,?w15,?w16,?w17,?e,s1.trans n2.sa⟩⟩
    case e=>rw[a1,a2];rfl
   ·rw[if_pos (by decide),ix_l n2.at (show atI _ (1:Int)=some _ from jat _ _ _)]
    simp! only[prZ,ix_t (jaO _ _),ix_t (jat _ _ _)];rw[Int.zero_sub,Int.zero_sub];refine⟨by decide,hk _ _ ⟨?w24,?w25,?w26,?w27,?e,s1.trans n2.sa⟩⟩
    case e=>rw[a1,a2];rfl
theorem jmz  {a b:Int}(h:1<=P):decide (b<(a+P-1)/P*P)=decide (b/P*P<a):=by
 rw[Ybc,decide_eq_true_eq,decide_eq_true_eq];have m1:=Yck (a+P-1) (show P≠0 by lia)
 have m2:=YbU (a+P-1) (show 0<P by lia)
 have m3:=Yck b (show P≠0 by lia)
 have m4:=YbU b (show 0<P by lia)
 have d1:=Ye6 (a+P-1) P;have d2:=Ye6 b P;rw[Int.mul_comm]at d1 d2;generalize (a+P-1)/P=x at *;generalize b/P=y at *;generalize (a+P-1)%P=u at *;generalize b%P=v at *;constructor
 ·intro h1;by_cases c:a<=y*P
  ·exfalso;have:x<=y:=by
    by_cases c2:x<=y
    ·exact c2
    ·have:(y+1)*P<=x*P:=YbK (by lia) (by lia)
     rw[Int.add_mul,Int.one_mul]at this
     lia
   have:x*P<=y*P:=YbK this (by lia)
   lia
  ·lia
 ·intro h1;have:y<x:=by
   by_cases c2:y<x
   ·exact c2
   ·have:x*P<=y*P:=YbK (by lia) (by lia)
    lia
  have:(y+1)*P<=x*P:=YbK (by lia) (by lia)
  rw[Int.add_mul,Int.one_mul]at this
  lia
theorem jhF  {ss: List Spn}(wl:ws.length=ss.length)(hs:∀z∈st,0<=z/\z<bs.length)(hr:∀v∈r,entB ss.length st v=true)(p1:1<=P)(p2:P<=600)(q:∀G',Sa G G'->Q (.bl (barB P bs ws r)) G'):jac T (k+2) jb5 [.int P,jak bs,wsU ws,.tup r] G Q X:=by
 refine⟨rfl,?_⟩;simp! only[jcd,jad,Yaa];refine jjX wl hs hr λG1 s1=>?_;simp! only[];refine⟨trivial,rfl,?_⟩;simp! only[jhj,jad,Yaa];have:=q G1 s1;unfold barB at this;rw[<- jmz p1]at this;exact⟨by lia,by lia,.inr (by constructor<;>lia),this⟩

noncomputable def jbg  (x:Str):U->Bool
 |.str w=>decide (w=x)
 |_=>false
noncomputable def tupL  : U->List U
 |.tup us=>us
 |_=>[]
noncomputable def jcn  : U->Int
 |.int i=>i
 |_=>0
theorem jb8    (h:inI lo hi u=true):∃i,u=.int i/\lo<=i/\i<=hi:=by
 cases u with
 |int i=>
  have h:(decide (lo<=i)&&decide (i<=hi))=true:=h;rw[Yah,decide_eq_true_eq,decide_eq_true_eq]at h;exact⟨i,rfl,h⟩
 |_=>cases h
abbrev Hld:=Wn×List Int×List Int
def hU  (h:Hld):U:=.tup [wsU h.1,jak h.2.1,jak h.2.2]
noncomputable def lowW  (ws:Wn)(j:Nat)(i:Int):Wn:=ws.set j ((ws.getD j (0,0)).1,i)
noncomputable def jgp  (ws:Wn)(j:Nat)(i:Int):Wn:=ws.set j (i+1,(ws.getD j (0,0)).2)
def fltM  (P:Int)(ss:List Spn)(bs:List Int)(cnt:Int)(h:Hld):U->Option Str
 |.tup [w]=>if jbg "enough" w=true then (if cnt<=h.2.2.length then none else some "enough") else some "shape"
 |.tup [w,r]=>if jbg "ring" w=true then (if jdc ss h.2.1 r=true then (if barB P bs h.1 (tupL r)=true then none else some "bar") else some "ring") else some "shape"
 |.tup [w,z,_,_]=>if jbg "stay" w=true then (if (inI 0 ((bs.length:Int)-1) z && !(jau h.2.1 z||jau h.2.2 z))=true then none else some "work") else some "shape"
 |.tup [w,s,c,_,_]=>if jbg "split" w=true then (if inI 0 ((ss.length:Int)-1) s=true then (if inI (h.1.getD (jcn s).toNat (0,0)).1 ((h.1.getD (jcn s).toNat (0,0)).2-1) c=true then none else some "cut") else some "span") else some "shape"
 |_=>some "shape"
noncomputable def fU  : Option Str->U
 |none=>.non
 |some x=>.str x
abbrev Nd:=U×Hld
def kids  : Nd->List Nd
 |(.tup [_,z,a,b],h)=>[(a,h.1,h.2.1++[jcn z],h.2.2),(b,h.1,h.2.1,h.2.2++[jcn z])]
 |(.tup [_,s,c,a,b],h)=>[(a,lowW h.1 (jcn s).toNat (jcn c),h.2),(b,jgp h.1 (jcn s).toNat (jcn c),h.2)]
 |_=>[]
structure C47 (xs:List Str)(ss:List Spn)(P:Int)(bs:List Int):Prop where
 so:∀s∈ss,s.Ok bs.length
 sl:ss.length<=24
 p1:1<=P
 p2:P<=600
 w8:bs.length<=8
 xl:xs.length=bs.length
structure HOk (ss:List Spn)(W:Nat)(h:Hld):Prop where
 wl:h.1.length=ss.length
 nd:(h.2.1++h.2.2).Nodup
 bd:∀z∈h.2.1++h.2.2,0<=z/\z<W
section
variable {k:Nat}{G:Gp}{Q:K1}{X:KX}{xs:List Str}{ss:List Spn}{P cnt:Int}{bs:List Int}{u v z a b r s c:U}{d dz:PyData}{us:List U}{w n:Nat}{h:Hld}
theorem HOk.ln  (hH:HOk ss bs.length h)(hC:C47 xs ss P bs):h.2.1.length+h.2.2.length<=8:=by
 have:=jgZ bs.length _ hH.nd hH.bd;rw[Yaz]at this;have:=hC.w8
 lia
theorem HOk.st  (hH:HOk ss bs.length h):∀z∈h.2.1,0<=z/\z<bs.length:=λz hz=>hH.bd z (YaV _ hz)
theorem jml   {kk:Bool->Prop}(hz:Th G u d)(q:kk (jbg x u)):cmpU .Eq u (.str x) G kk:=by
 show eqQ u (.str x) G kk;cases hz with
 |lst g hz=>exact .inr (.inl ⟨_,g,q⟩)
 |dic g=>exact .inl ⟨_,g,q⟩
 |_=>exact q
def shB  (x:Str)(n:Int):U->Bool
 |.tup us=>decide ((us.length:Int)=n)&&jbg x (us.headD .non)
 |_=>false
theorem jdR    (m1:1<=m)(t:Th G u d)(q:Q (.bl (shB x m u)) G):jac T (k+1) ja3 [u,.str x,.int m] G Q X:=by
 refine⟨rfl,?_⟩;simp! only[jej,jad,Yaa,jbJ t (show "tuple" ∈ ["bool", "int", "str", "list", "tuple", "dict"] by decide)]
 cases t with
 |@tup us ds hs=>
  rw[show isD (.tuple ds) "tuple" = true from rfl,if_pos rfl];simp! only[];have e:shB x m (.tup us)=(decide ((us.length:Int)=m)&&jbg x (us.headD .non)):=rfl;rw[e]at q;by_cases c:(us.length:Int)=m
  ·rw[decide_eq_true c]at q ⊢;rw[if_pos rfl];cases hs with
   |nil=>simp at c;lia
   |@cons u0 d0 ur dr t0 tr=>
    simp! only[ix_t (jaO _ _)];exact jml t0 q
  ·rw[decide_eq_false c]at q ⊢;rw[if_neg (by decide)]
   exact q
 |_=>exact q
theorem jbL    (hz:jbg x u=true):u=.str x:=by
 cases u with
 |str w=>rw[of_decide_eq_true (show decide (w=x)=true from hz)]
 |_=>cases hz
theorem jgR    (hz:shB x (m+1:Nat) u=true):∃us,u=.tup (.str x::us)/\us.length=m:=by
 cases u with
 |tup us=>
  have hz:(decide ((us.length:Int)=(m+1:Nat))&&jbg x (us.headD .non))=true:=hz;rw[Yah,decide_eq_true_eq]at hz;cases us with
  |nil=>exact absurd hz.1 (by simp;lia)
  |cons w us=>
   have:=jbL hz.2;subst this;exact⟨us,rfl,by have:=hz.1;rw[YbL]at this;lia⟩
 |_=>cases hz
theorem Ob.two  (hz:Ob w n 0 G (.tup [u,r])):∃dr,Th G r dr:=by
 obtain⟨d,t,b⟩:=hz;cases t with
 |tup hs=>match hs with|.cons _ (.cons h2 .nil)=>exact⟨_,h2⟩
theorem Ob.four  (hz:Ob w n 0 G (.tup [u,z,a,b])):∃m wa wb dz,n=m+1/\Th G z dz/\Ob wa m 0 G a/\Ob wb m 0 G b/\wa+wb+7<=w:=by
 obtain⟨d,t,bx⟩:=hz;cases t with
 |tup hs=>
  match hs with
  |@Ths.cons _ _ d1 _ _ h1 (@Ths.cons _ _ d2 _ _ h2 (@Ths.cons _ _ d3 _ _ h3 (@Ths.cons _ _ d4 _ _ h4 .nil)))=>
   have e1:wt d1+2+(wt d2+2+(wt d3+2+(wt d4+2+0)))+3<=w:=bx.w;have e2:max d1.depth (max d2.depth (max d3.depth (max d4.depth 0)))+1<=n:=bx.k;have e3:wkD 0 d1/\wkD 0 d2/\wkD 0 d3/\wkD 0 d4/\True:=bx.ok;exact⟨n-1,wt d3,wt d4,d2,by lia,h2,⟨d3,h3,e3.2.2.1,Yae _,by lia⟩,⟨d4,h4,e3.2.2.2.1,Yae _,by lia⟩,by lia⟩
theorem Ob.five  (hz:Ob w n 0 G (.tup [u,s,c,a,b])):∃m wa wb ds dc,n=m+1/\Th G s ds/\Th G c dc/\Ob wa m 0 G a/\Ob wb m 0 G b/\wa+wb+7<=w:=by
 obtain⟨d,t,bx⟩:=hz;cases t with
 |tup hs=>
  match hs with
  |@Ths.cons _ _ d0 _ _ h0 (@Ths.cons _ _ d1 _ _ h1 (@Ths.cons _ _ d2 _ _ h2 (@Ths.cons _ _ d3 _ _ h3 (@Ths.cons _ _ d4 _ _ h4 .nil))))=>
   have e1:wt d0+2+(wt d1+2+(wt d2+2+(wt d3+2+(wt d4+2+0))))+3<=w:=bx.w;have e2:max d0.depth (max d1.depth (max d2.depth (max d3.depth (max d4.depth 0))))+1<=n:=bx.k;have e3:wkD 0 d0/\wkD 0 d1/\wkD 0 d2/\wkD 0 d3/\wkD 0 d4/\True:=bx.ok;exact⟨n-1,wt d3,wt d4,d1,d2,by lia,h1,h2,⟨d3,h3,e3.2.2.2.1,Yae _,by lia⟩,⟨d4,h4,e3.2.2.2.2.1,Yae _,by lia⟩,by lia⟩
theorem je2  (hC:C47 xs ss P bs)(hH:HOk ss bs.length h)(t:Th G u d)(q:∀G',Sa G G'->Q (fU (if jdc ss h.2.1 u=true then (if barB P bs h.1 (tupL u)=true then none else some ("bar" : Str)) else some ("ring" : Str))) G') :
  jac T (k+5) jdv [jal xs ss,.int P,jak bs,jak h.2.1,wsU h.1,u] G Q X:=by
 refine⟨rfl,?_⟩;simp! only[jdF,jad,Yaa];refine jhG (k:=k) t (jjC _) hC.sl λG1 s1=>?_;cases c:jdc ss h.2.1 u with
 |false=>
  have:=q G1 s1;rw[c]at this;exact this
 |true=>
  simp! only[];cases t with
  |@tup us ds hs=>
   have c':(decide (1<=us.length/\us.length<=60)&&(us.all (entB ss.length h.2.1)&&jdi (us.map (endZ ss))))=true:=c;rw[Yah,Yah,decide_eq_true_eq]at c';refine jlS (k:=k+1) hH.wl hH.st (List.all_eq_true.mp c'.2.1) c'.1.2 hC.p1 hC.p2 λG2 s2=>?_;have:=q G2 (s1.trans s2);rw[c,if_pos rfl]at this;have e:tupL (.tup us)=us:=rfl;rw[e]at this;simp! only[];cases c2:barB P bs h.1 us<;>rw[c2]at this<;>exact this
  |_=>cases c
theorem jeq  (hC:C47 xs ss P bs)(hH:HOk ss bs.length h)(hs:Th G s ds)(hc:Th G c dc)
  (q:Q (fU (if inI 0 ((ss.length:Int)-1) s=true then (if inI (h.1.getD (jcn s).toNat (0,0)).1 ((h.1.getD (jcn s).toNat (0,0)).2-1) c=true then none else some ("cut" : Str)) else some ("span" : Str))) G) :
  jac T (k+3) jcS [jal xs ss,wsU h.1,.tup [.str "split",s,c,a,b]] G Q X:=by
 have wl:=hH.wl;refine⟨rfl,?_⟩;simp! only[jc0,jad,Yaa];refine⟨trivial,?_⟩;simp! only[jbO,jal,ix_t (jat _ _ _),Yaj];refine jcR (k:=k) hs ?_
 simp! only[];cases c1:inI 0 ((ss.length:Int)-1) s with
 |false=>rw[c1]at q;exact q
 |true=>
  rw[c1,if_pos rfl]at q;rw[if_neg (by decide)]
  obtain⟨i,rfl,i0,i1⟩:=jb8 c1;obtain⟨j,rfl⟩:=YaJ i0;have il:j<h.1.length:=by lia
  have ew:h.1[j]?=some h.1[j]:=YaD il;have eg:h.1.getD (jcn (.int (j:Int))).toNat (0,0)=h.1[j]:=by
   show h.1.getD ((j:Int)).toNat (0,0)=_;rw[Yb3];simp[Ych,il]
  rw[eg]at q;simp! only[jbN,wsU,ix_t (atM ew)];show tgU _ (.tup [.int h.1[j].1,.int h.1[j].2]) _ _;simp! only[];refine⟨trivial,?_⟩;refine jcR (k:=k) hc ?_
  simp! only[];cases c2:inI h.1[j].1 (h.1[j].2-1) c<;>rw[c2]at q<;>exact q
theorem je1  (hC:C47 xs ss P bs)(t:Th G z dz)(q:Q (fU (if (inI 0 ((bs.length:Int)-1) z && !(jau h.2.1 z||jau h.2.2 z))=true then none else some ("work" : Str))) G) :
  jac T (k+3) jdu [jal xs ss,jak h.2.1,jak h.2.2,z] G Q X:=by
 refine⟨rfl,?_⟩;simp! only[jdE,jad,Yaa,jal,ix_t (jaO _ _),Yaj,hC.xl];refine jcR (k:=k) t ?_
 simp! only[];cases c1:inI 0 ((bs.length:Int)-1) z with
 |false=>rw[c1]at q;exact q
 |true=>
  rw[c1,Ycy]at q;rw[if_neg (by decide)]
  obtain⟨i,rfl,i0,i1⟩:=jb8 c1;simp! only[jcp];refine jea ?_;have e1:jau h.2.1 (.int i)=decide (i∈h.2.1):=rfl;have e2:jau h.2.2 (.int i)=decide (i∈h.2.2):=rfl;rw[e1,e2]at q;cases c2:decide (i∈h.2.1)with
  |true=>rw[c2]at q;exact q
  |false=>
   rw[c2,YdC]at q;rw[if_neg (by decide)]
   simp! only[];refine jea ?_;cases c3:decide (i∈h.2.2)<;>rw[c3]at q<;>exact q
end


theorem jg0  (h1:shB "ring" 2 u=false)(h2:shB "split" 5 u=false)(h3:shB "stay" 4 u=false)(h4:shB "enough" 1 u=false):fltM P ss bs cnt h u=some ("shape" : Str):=by
 unfold fltM;split
 ·rename_i w;rw[if_neg];intro z;have:shB "enough" 1 (.tup [w])=true:=by show(true&&jbg "enough" w)=true;rw[z];rfl
  rw[this]at h4;cases h4
 ·rename_i w r;rw[if_neg];intro z;have:shB "ring" 2 (.tup [w,r])=true:=by show(true&&jbg "ring" w)=true;rw[z];rfl
  rw[this]at h1;cases h1
 ·rename_i w s lo up;rw[if_neg];intro z;have:shB "stay" 4 (.tup [w,s,lo,up])=true:=by show(true&&jbg "stay" w)=true;rw[z];rfl
  rw[this]at h3;cases h3
 ·rename_i w s c lo up;rw[if_neg];intro z;have:shB "split" 5 (.tup [w,s,c,lo,up])=true:=by show(true&&jbg "split" w)=true;rw[z];rfl
  rw[this]at h2;cases h2
 ·rfl
theorem sh_1   (hz:shB x 1 u=true):u=.tup [.str x]:=by
 obtain⟨us,rfl,l⟩:=jgR (m:=0) hz;rw[List.length_eq_zero_iff.mp l]
theorem sh_2   (hz:shB x 2 u=true):∃r,u=.tup [.str x,r]:=by
 obtain⟨us,rfl,l⟩:=jgR (m:=1) hz
 match us,l with
 |[r],_=>exact⟨r,rfl⟩
theorem sh_4   (hz:shB x 4 u=true):∃z a b,u=.tup [.str x,z,a,b]:=by
 obtain⟨us,rfl,l⟩:=jgR (m:=3) hz
 match us,l with
 |[z,a,b],_=>exact⟨z,a,b,rfl⟩
theorem sh_5   (hz:shB x 5 u=true):∃s c a b,u=.tup [.str x,s,c,a,b]:=by
 obtain⟨us,rfl,l⟩:=jgR (m:=4) hz
 match us,l with
 |[s,c,a,b],_=>exact⟨s,c,a,b,rfl⟩
theorem je3  (hC:C47 xs ss P bs)(hH:HOk ss bs.length h)(o:Ob w n 0 G u)(c3:shB "stay" 4 u=false)(c4:shB "enough" 1 u=false)(q:∀G',Sa G G'->Q (fU (fltM P ss bs cnt h u)) G') :
  jac T (k+6) jdw [jal xs ss,.int P,jak bs,jak h.2.1,wsU h.1,u] G Q X:=by
 obtain⟨d,t,_⟩:=id o;refine⟨rfl,?_⟩;simp! only[jdG,jad,Yaa];refine jdR (k:=k+4) (by decide) t ?_
 simp! only[];cases c1:shB "ring" 2 u with
 |true=>
  rw[if_pos rfl];obtain⟨r,rfl⟩:=sh_2 c1;obtain⟨dr,hr⟩:=o.two;simp! only[ix_t (jat _ _ _)];exact je2 (k:=k) hC hH hr q
 |false=>
  rw[if_neg (by decide)]
  simp! only[jcr];refine jdR (k:=k+4) (by decide) t ?_
  simp! only[];cases c2:shB "split" 5 u with
  |true=>
   rw[if_pos rfl];obtain⟨s,c,lo,up,rfl⟩:=sh_5 c2;obtain⟨m,wa,wb,ds,dc,rfl,t1,t2,_⟩:=o.five;simp! only[];exact jeq (k:=k+2) hC hH t1 t2 (q G Sa.refl)
  |false=>
   rw[if_neg (by decide)]
   simp! only[jcq];have:=q G Sa.refl;rw[jg0 c1 c2 c3 c4]at this;exact this
theorem jga  (hC:C47 xs ss P bs)(hH:HOk ss bs.length h)(o:Ob w n 0 G u)(q:∀G',Sa G G'->Q (fU (fltM P ss bs cnt h u)) G') :
  jac T (k+7) je6 [hU h,u,jal xs ss,.int P,jak bs,.int cnt] G Q X:=by
 obtain⟨d,t,_⟩:=id o;refine⟨rfl,?_⟩;simp! only[jbt,jad,Yaa,hU];refine⟨trivial,?_⟩;refine jdR (k:=k+5) (by decide) t ?_
 simp! only[];cases c1:shB "stay" 4 u with
 |true=>
  rw[if_pos rfl];obtain⟨z,a,b,rfl⟩:=sh_4 c1;obtain⟨m,wa,wb,dz,rfl,tz,_⟩:=o.four;simp! only[ix_t (jat _ _ _)];exact je1 (k:=k+3) hC tz (q G Sa.refl)
 |false=>
  rw[if_neg (by decide)]
  simp! only[];refine jdR (k:=k+5) (by decide) t ?_
  simp! only[];cases c2:shB "enough" 1 u with
  |true=>
   rw[if_pos rfl];have:=sh_1 c2;subst this;simp! only[jak,Yaj];have:=q G Sa.refl;rw[show fltM P ss bs cnt h (.tup [.str "enough"])=(if cnt<=h.2.2.length then none else some ("enough" : Str))from rfl]at this
   by_cases c5:cnt<=h.2.2.length
   ·rw[if_pos c5]at this;rw[if_pos (by simpa using c5)]
    exact this
   ·rw[if_neg c5]at this;rw[if_neg (by simpa using c5)]
    exact this
  |false=>
   rw[if_neg (by decide)]
   simp! only[];exact je3 (k:=k) hC hH o c1 c2 q
theorem jhe  (h0:fltM P ss bs cnt h u=none):u=.tup [.str "enough"]\/(∃r,u=.tup [.str "ring",r])\/(∃(i:Int) (a b:U),u=.tup [.str "stay",.int i,a,b]/\(0<=i/\i<bs.length)/\i∉h.2.1/\i∉h.2.2)\/∃(j:Nat) (i:Int) (a b:U),u=.tup [.str "split",.int j,.int i,a,b]/\j<ss.length:=by
 unfold fltM at h0;split at h0
 ·rename_i w;by_cases c:jbg "enough" w=true
  ·rw[jbL c];exact .inl rfl
  ·rw[if_neg c]at h0;cases h0
 ·rename_i w r;by_cases c:jbg "ring" w=true
  ·rw[jbL c];exact .inr (.inl ⟨_,rfl⟩)
  ·rw[if_neg c]at h0;cases h0
 ·rename_i w z a b;by_cases c:jbg "stay" w=true
  ·rw[if_pos c]at h0;by_cases c2:(inI 0 ((bs.length:Int)-1) z && !(jau h.2.1 z||jau h.2.2 z))=true
   ·rw[Yah]at c2;obtain⟨i,rfl,i0,i1⟩:=jb8 c2.1;have c3:(!(decide (i∈h.2.1)||decide (i∈h.2.2)))=true:=c2.2;simp only[Yb2,Bool.or_eq_false_iff,decide_eq_false_iff_not]at c3;rw[jbL c];exact .inr (.inr (.inl ⟨i,a,b,rfl,⟨i0,by lia⟩,c3.1,c3.2⟩))
   ·rw[if_neg c2]at h0;cases h0
  ·rw[if_neg c]at h0;cases h0
 ·rename_i w s c lo up;by_cases c1:jbg "split" w=true
  ·rw[if_pos c1]at h0;by_cases c2:inI 0 ((ss.length:Int)-1) s=true
   ·rw[if_pos c2]at h0;obtain⟨a,rfl,a0,a1⟩:=jb8 c2;obtain⟨j,rfl⟩:=YaJ a0;by_cases c3:inI (h.1.getD (jcn (.int (j:Int))).toNat (0,0)).1 ((h.1.getD (jcn (.int (j:Int))).toNat (0,0)).2-1) c=true
    ·obtain⟨i,rfl,_⟩:=jb8 c3;rw[jbL c1];exact .inr (.inr (.inr ⟨j,i,lo,up,rfl,by lia⟩))
    ·rw[if_neg c3]at h0;cases h0
   ·rw[if_neg c2]at h0;cases h0
  ·rw[if_neg c1]at h0;cases h0
 ·cases h0
theorem HOk.stay  {bs: List Int}(hH:HOk ss bs.length h){i:Int}(hi:0<=i/\i<bs.length)(n1:i∉h.2.1)(n2:i∉h.2.2):HOk ss bs.length (h.1,h.2.1++[i],h.2.2):=by
 have nd:=hH.nd;refine⟨hH.wl,?_,λz hz=>?_⟩
 ·rw[YcV]at nd ⊢;refine⟨?_,nd.2.1,λa ha b hb e=>?_⟩
  ·rw[YcV];refine⟨nd.1,by simp,λa ha b hb e=>?_⟩
   rw[List.mem_singleton.mp hb]at e;exact n1 (e ▸ ha)
  ·rcases List.mem_append.mp ha with ha|ha
   ·exact nd.2.2 a ha b hb e
   ·rw[List.mem_singleton.mp ha]at e;exact n2 (e ▸ hb)
 ·rcases List.mem_append.mp hz with hz|hz
  ·rcases List.mem_append.mp hz with hz|hz
   ·exact hH.bd z (YaV _ hz)
   ·rw[List.mem_singleton.mp hz];exact hi
  ·exact hH.bd z (Yas _ hz)
theorem HOk.move  {bs: List Int}(hH:HOk ss bs.length h){i:Int}(hi:0<=i/\i<bs.length)(n1:i∉h.2.1)(n2:i∉h.2.2):HOk ss bs.length (h.1,h.2.1,h.2.2++[i]):=by
 have nd:=hH.nd;refine⟨hH.wl,?_,λz hz=>?_⟩
 ·show(h.2.1++(h.2.2++[i])).Nodup;rw[<- Yb1,YcV];refine⟨nd,by simp,λa ha b hb e=>?_⟩
  rw[List.mem_singleton.mp hb]at e;rcases List.mem_append.mp ha with ha|ha
  ·exact n1 (e ▸ ha)
  ·exact n2 (e ▸ ha)
 ·have hz:z∈h.2.1++(h.2.2++[i]):=hz;rw[<- Yb1]at hz;rcases List.mem_append.mp hz with hz|hz
  ·exact hH.bd z hz
  ·rw[List.mem_singleton.mp hz];exact hi
theorem HOk.win  {bs: List Int}(hH:HOk ss bs.length h)(e:ws.length=h.1.length):HOk ss bs.length (ws,h.2):=⟨e.trans hH.wl,hH.nd,hH.bd⟩
def ndU  (x:Nd):U:=.tup [x.1,hU x.2]
theorem jiB     (hj:j<ws.length)(wl:ws.length<=24)(q:∀p G',New G p (.lst [.tup [a,wsU (lowW ws j i)],.tup [b,wsU (jgp ws j i)]]) G'->Q (.loc p) G') :
  jac T (k+2) jbp [wsU ws,.tup [.str "split",.int j,.int i,a,b]] G Q X:=by
 have ew:ws[j]?=some ws[j]:=YaD hj;have eg:ws.getD j (0,0)=ws[j]:=by simp[Ych,hj]
 refine⟨rfl,?_⟩;simp! only[jbu,jad,Yaa,ix_t (jaO _ _)];rw[if_neg (by decide +kernel)]
 simp! only[jbM];refine⟨trivial,?_⟩;rw[show wsU ws=.tup (ws.map wu)from rfl,ix_t (atM ew)];show tgU _ (.tup [.int ws[j].1,.int ws[j].2]) _ _;simp! only[];refine⟨trivial,by decide,?_⟩
 refine jiA (k:=k) (ws:=ws) (w:=(ws[j].1,i)) hj wl ?_
 simp! only[];refine⟨by decide,by decide,?_⟩
 refine jiA (k:=k) (ws:=ws) (w:=(i+1,ws[j].2)) hj wl ?_
 simp! only[];refine⟨by decide,by decide,λp G' n=>?_⟩
 unfold lowW jgp at q;rw[eg]at q;exact q p G' n
theorem jez   {x:Str}(hx:x = "ring" \/ x = "enough")(q:∀p G',New G p (.lst []) G'->Q (.loc p) G'):jac T (k+2) jbp [wsU ws,.tup (.str x::us)] G Q X:=by
 refine⟨rfl,?_⟩;simp! only[jbu,jad,Yaa,ix_t (jaO _ _)];rw[if_pos (by rcases hx with rfl|rfl<;>decide +kernel)]
 simp! only[];exact⟨by decide,q⟩
theorem jhD     (ln:st.length+mv.length<=8)(q:∀p G',New G p (.lst [.tup [a,hU (ws,st++[i],mv)],.tup [b,hU (ws,st,mv++[i])]]) G'->Q (.loc p) G'):jac T (k+1) jdt [wsU ws,jak st,jak mv,.tup [.str "stay",.int i,a,b]] G Q X:=by
 refine⟨rfl,?_⟩;simp! only[jdD,jad,Yaa];refine⟨trivial,?_⟩;simp! only[jco,jak];refine⟨by decide,Yaf (show _<=9 by rw[Yaj];lia) (by decide),by decide,by decide,by decide,Yaf (show _<=9 by rw[Yaj];lia) (by decide),by decide,by decide,by decide,λp G' n=>q p G' ?_⟩
 have e:∀l:List Int,(l++[i]).map U.int=l.map U.int++[.int i]:=λl=>by simp
 unfold hU jak;dsimp only;rw[e,e];exact n
theorem jjV  (hC:C47 xs ss P bs)(hH:HOk ss bs.length h)(h0:fltM P ss bs cnt h u=none)(q:∀p G',Sa G G'->G' p=some (.lst ((kids (u,h)).map ndU))->Q (.loc p) G'):jac T (k+3) jfy [hU h,u] G Q X:=by
 have ln:=hH.ln hC;have lc:∀(l:List (U×Wn)) (p1:Addr) (G1:Gp),l.length<=2->Sa G G1->G1 p1=some (.lst (l.map λx=>.tup [x.1,wsU x.2]))->(∀p G',Sa G G'->G' p=some (.lst (l.map λx=>ndU (x.1,x.2,h.2)))->Q (.loc p) G')->itU (.loc p1) G1 λxs ok=>xs.length<=Yag/\jfb ok (λx G2 k=>tgU (Tg.t (Tgs.cons (Tg.n 0) (Tgs.cons (Tg.n 1) Tgs.nil))) x [none,none,some (jak h.2.1),some (jak h.2.2)] λτ=>slot τ 0 λu=>slot τ 1 λu_1=>slot τ 2 λu_2=>slot τ 3 λu_3=>0+1+1+1<=Yag/\0+1+1<=Yag/\k (some (U.tup [u,U.tup [u_1,u_2,u_3]])) G2) xs [] G1 λus G5=>newO G5 (MO.lst us) Q:=by
  intro l p1 G1 ll s1 g1 q;rw[it_l g1];refine⟨Yaf (show _<=2 by rw[Yaj];exact ll) (by decide),?_⟩
  refine jcg (λu=>match u with|.tup [a,b]=>.tup [a,.tup [b,jak h.2.1,jak h.2.2]]|u=>u) (by unfold lsG;rw[g1]) (λu hu K hK=>?_) λp G' n=>q p G' (s1.trans n.sa) ?_
  ·obtain⟨e,he,rfl⟩:=List.mem_map.mp hu;simp! only[];exact⟨trivial,by decide,by decide,hK⟩
  ·rw[n.at,YbA,YcI];rfl
 rcases jhe h0 with rfl|⟨r,rfl⟩|⟨i,a,b,rfl,hi,n1,n2⟩|⟨j,i,a,b,rfl,hj⟩
 ·refine⟨rfl,?_⟩;simp! only[jaF,jad,Yaa,hU];refine⟨trivial,?_⟩;simp! only[jaB,ix_t (jaO _ _)];rw[if_neg (by decide +kernel)]
  simp! only[jaP];refine jez (k:=k) (.inr rfl) λp1 G1 n1=>?_;exact lc [] p1 G1 (by decide) n1.sa n1.at q
 ·refine⟨rfl,?_⟩;simp! only[jaF,jad,Yaa,hU];refine⟨trivial,?_⟩;simp! only[jaB,ix_t (jaO _ _)];rw[if_neg (by decide +kernel)]
  simp! only[jaP];refine jez (k:=k) (.inl rfl) λp1 G1 n1=>?_;exact lc [] p1 G1 (by decide) n1.sa n1.at q
 ·refine⟨rfl,?_⟩;simp! only[jaF,jad,Yaa,hU];refine⟨trivial,?_⟩;simp! only[jaB,ix_t (jaO _ _)];rw[if_pos (by decide +kernel)]
  simp! only[];exact jhD (k:=k+1) ln λp G' n=>q p G' n.sa n.at
 ·refine⟨rfl,?_⟩;simp! only[jaF,jad,Yaa,hU];refine⟨trivial,?_⟩;simp! only[jaB,ix_t (jaO _ _)];rw[if_neg (by decide +kernel)]
  simp! only[jaP];have wl:=hH.wl;have sl:=hC.sl;refine jiB (k:=k) (by lia) (by lia) λp1 G1 n1=>?_
  exact lc [(a,lowW h.1 j i),(b,jgp h.1 j i)] p1 G1 (Yae _) n1.sa n1.at q

inductive Out (P:Int)(ss:List Spn)(bs:List Int)(cnt:Int):List Nd->Nat->Option (Str×Nat)->Prop
 |nil {n:Nat}:Out P ss bs cnt [] n none
 |bad {s:List Nd} {u:U} {h:Hld} {n:Nat} {x:Str}:fltM P ss bs cnt h u=some x->Out P ss bs cnt (s++[(u,h)]) n (some (x,n))
 |go {s:List Nd} {u:U} {h:Hld} {n:Nat} {o:Option (Str×Nat)}:fltM P ss bs cnt h u=none->Out P ss bs cnt (s++(kids (u,h)).reverse) (n+1) o->Out P ss bs cnt (s++[(u,h)]) n o
theorem jdP  {α:Type}{s t:List α}{a b:α}(h:s++[a]=t++[b]):s=t/\a=b:=by
 have:=List.append_inj' h rfl;exact⟨this.1,(Yfy this.2).1⟩
theorem Out.uniq         (h:Out P ss bs cnt s n o):∀{o' },Out P ss bs cnt s n o'->o=o':=by
 induction h with
 |nil=>
  intro o' h';generalize e:([]:List Nd)=z at h';cases h' with
  |nil=>rfl
  |_=>simp at e
 |@bad s u hh n x hx=>
  intro o' h';generalize e:s++[(u,hh)]=z at h';cases h' with
  |nil=>simp at e
  |bad h2=>
   obtain⟨rfl,e2⟩:=jdP e;cases e2;rw[hx]at h2;cases h2;rfl
  |go h2=>
   obtain⟨rfl,e2⟩:=jdP e;cases e2;rw[hx]at h2;cases h2
 |@go s u hh n o hx _ ih=>
  intro o' h';generalize e:s++[(u,hh)]=z at h';cases h' with
  |nil=>simp at e
  |bad h2=>
   obtain⟨rfl,e2⟩:=jdP e;cases e2;rw[hx]at h2;cases h2
  |go h2 h3=>
   obtain⟨rfl,e2⟩:=jdP e;cases e2;exact ih h3
abbrev Nn:=Nd×Nat
structure NdOk (G:Gp)(ss:List Spn)(W:Nat)(x:Nn):Prop where
 l:HOk ss W x.1.2
 t:Ob x.2 99 0 G x.1.1
theorem Ob.pos     (h:Ob w n 0 G u):1<=w:=by
 obtain⟨d,_,b⟩:=h;have:1<=wt d:=by cases d<;>(show 1<=_)<;>first|decide|exact Yej _ _|exact Yaf (by decide) (Yej 2 _)|exact Yaf (by decide) (Yej 3 _)
 exact Yaf this b.w
theorem jib     : ∀{l:List Nn},(∀x∈l,NdOk G ss W x)->l.length<=(l.map (·.2)).sum
 |[],_=>Yae _
 |x::l,h=>by
  have h1:=(h x YaH).t.pos;have h2:=jib λz hz=>h z (Yan _ hz);rw[YbL,YaC,List.sum_cons]
  lia
theorem jld  {α:Type}(l:List α):l=[]\/∃s a,l=s++[a]:=by
 rcases List.eq_nil_or_concat l with h|⟨s,a,h⟩
 ·exact .inl h
 ·exact .inr ⟨s,a,by rw[h,List.concat_eq_append]⟩
theorem jmK     {kk:Bool->Prop}(g:G a=some (.lst us)):truU (.loc a) G kk=kk (!us.isEmpty):=by unfold truU;dsimp only;rw[g]
theorem mt_pop     (g:G p=some (.lst us)):mtU .pop (.loc p) G=some ("list", "list.pop"):=by unfold mtU;dsimp only;rw[g]
theorem jnT     (g:G a=some (.lst xs)):mtU .extend (.loc a) G=some ("list", "list.extend"):=by unfold mtU;dsimp only;rw[g]
theorem jpH      (g:G a=some (.lst xs))(g':G b=some (.lst ys)):jaW .extend (.loc a) [.loc b] G Q=(xs.length+ys.length<=Yag/\putO G a (.lst (xs++ys)) (Q .non)):=by unfold jaW jgs;dsimp only;rw[g,g']
theorem jo9      (g:G a=some (.lst us)):revU (.loc a) (.int (-1)) G Q=newO G (.lst us.reverse) Q:=by
 unfold revU lsG;dsimp only;rw[g];simp
theorem jnf       (g:G p=some (.lst (us++[u])))(q:∀G',Put G p (.lst us) G'->Q u G'):jaW .pop (.loc p) [] G Q:=by
 dsimp only[jaW];unfold popU;dsimp only;rw[g];dsimp only;have e1:(us++[u])[(us++[u]).length-1]?=some u:=by simp
 have e2:(us++[u]).dropLast=us:=by simp
 rw[e1,e2];exact λG' h=>q G' h

theorem Ob.up   (hz:Ob w n 0 G u)(h1:w<=w')(h2:n<=n'):Ob w' n' 0 G u:=let ⟨d,t,b⟩:=hz;⟨d,t,b.mono h1 h2 (Yae _)⟩
theorem jl5  (hH:HOk ss bs.length h)(f:fltM P ss bs cnt h u=none)(o:Ob w n 0 G u):∃(m:Nat) (l:List Nn),m<n/\l.map (·.1)=kids (u,h)/\(l.map (·.2)).sum+3<=w/\l.length<=2/\∀x∈l,HOk ss bs.length x.1.2/\Ob x.2 m 0 G x.1.1:=by
 have leaf:kids (u,h)=[]->(∃us,u=.tup us)->∃(m:Nat) (l:List Nn),m<n/\l.map (·.1)=kids (u,h)/\(l.map (·.2)).sum+3<=w/\l.length<=2/\∀x∈l,HOk ss bs.length x.1.2/\Ob x.2 m 0 G x.1.1:=by
  rintro e ⟨us,rfl⟩;obtain⟨d,t,b⟩:=o;cases t with
  |@tup _ ds hs=>
   have e1:wtA ds+3<=w:=b.w;have e2:Ybv ds+1<=n:=b.k;exact⟨n-1,[],by lia,by rw[e];rfl,by show 0+3<=w;lia,by decide,λ_ h=>nomatch h⟩
 rcases jhe f with rfl|⟨r,rfl⟩|⟨i,a,b,rfl,hi,n1,n2⟩|⟨j,i,a,b,rfl,hj⟩
 ·exact leaf rfl ⟨_,rfl⟩
 ·exact leaf rfl ⟨_,rfl⟩
 ·obtain⟨m,wa,wb,dz,rfl,_,ha,hb,hw⟩:=o.four;refine⟨m,[((a,h.1,h.2.1++[i],h.2.2),wa),((b,h.1,h.2.1,h.2.2++[i]),wb)],Yc3 _,rfl,by show wa+(wb+0)+3<=w;lia,Yae _,λx hx=>?_⟩
  simp only[YaM,Yau,or_false]at hx;rcases hx with rfl|rfl
  ·exact⟨hH.stay hi n1 n2,ha⟩
  ·exact⟨hH.move hi n1 n2,hb⟩
 ·obtain⟨m,wa,wb,ds,dc,rfl,_,_,ha,hb,hw⟩:=o.five;refine⟨m,[((a,lowW h.1 j i,h.2),wa),((b,jgp h.1 j i,h.2),wb)],Yc3 _,rfl,by show wa+(wb+0)+3<=w;lia,Yae _,λx hx=>?_⟩
  simp only[YaM,Yau,or_false]at hx;rcases hx with rfl|rfl
  ·exact⟨hH.win (YcA ..),ha⟩
  ·exact⟨hH.win (YcA ..),hb⟩
theorem jpv  (hC:C47 xs ss P bs)(o:Ob w 99 0 G th)(hN:w<=100000)(hH:HOk ss bs.length h0)(qt:∀G',Sa G G'->Out P ss bs cnt [(th,h0)] 0 none->Q (.bl true) G')(qx:∀x m G',Sa G G'->Out P ss bs cnt [(th,h0)] 0 (some (x,m))->m<=100000->X ⟨1,[.str x,.int m]⟩ G') :
  jac T (k+8) je4 [th,hU h0,.non,.non,.non,.non,.non,jal xs ss,.int P,jak bs,.int cnt] G Q X:=by
 refine⟨rfl,?_⟩;simp! only[jbs,jad,Yaa];refine⟨by decide,by decide,λpl G2 n2=>?_⟩
 dsimp only;rw[S_wh];have frm:∀{Ga Gb:Gp} {u:MO},Sa G Ga->Put Ga pl u Gb->Sa G Gb:=λ{Ga Gb u} s w b z e=>w.sm _ _ (λy=>by rw[y,n2.no]at e;cases e) (s b z e)
 refine⟨λn ς G'=>∃(l:List Nn) (i:Nat) (o4 o5 o6:Option U),ς=[some th,some (hU h0),some (.loc pl),some (.int i),o4,o5,o6,some (jal xs ss),some (.int P),some (jak bs),some (.int cnt)]/\n=(l.map (·.2)).sum/\n+i<=100000/\Sa G G'/\G' pl=some (.lst ((l.map (·.1)).map ndU))/\(∀x∈l,NdOk G ss bs.length x)/\∀o,Out P ss bs cnt (l.map (·.1)) i o->Out P ss bs cnt [(th,h0)] 0 o,
  ⟨w+0,[((th,h0),w)],0,some .non,some .non,some .non,rfl,rfl,by lia,n2.sa,n2.at,λx hx=>?_,λo (h:Out P ss bs cnt [(th,h0)] 0 o)=>h⟩,?_⟩
 ·rw[List.mem_singleton.mp hx];exact⟨hH,o⟩
 rintro n ς G3 ⟨l,i,o4,o5,o6,rfl,rfl,hn,s3,g3,hl,ho⟩;have ll:=jib hl;simp! only[];rcases jld l with rfl|⟨l,x,rfl⟩
 ·rw[jmK g3,if_neg (by simp)]
  simp! only[];exact qt G3 s3 (ho none .nil)
 ·rw[jmK g3,if_pos (by simp)]
  obtain⟨⟨u,hh⟩,w1⟩:=x;have hx:=hl ((u,hh),w1) (by simp)
  have hl':∀x∈l,NdOk G ss bs.length x:=λx hx=>hl x (by simp[hx])
  have hO:HOk ss bs.length hh:=hx.l;have hu:Ob w1 99 0 G u:=hx.t;rw[YaB,YaB]at g3;have e0:((l++[((u,hh),w1)]).map (·.2)).sum=(l.map (·.2)).sum+w1:=by simp
  rw[e0]at hn ⊢;rw[YaB]at ho;have ho:∀o,Out P ss bs cnt (l.map (·.1)++[(u,hh)]) i o->Out P ss bs cnt [(th,h0)] 0 o:=ho;have g3:G3 pl=some (.lst ((l.map (·.1)).map ndU++[.tup [u,hU hh]])):=g3;simp! only[jcs,mt_pop g3];refine jnf g3 λG4 p4=>?_;have g4:=p4.at
  have s4:=frm s3 p4;simp! only[];refine⟨trivial,?_⟩;refine jga (k:=k) hC hO (hu.sa s4) λG5 s5=>?_;have s45:=s4.trans s5;have g5:=s5 _ _ g4;simp! only[];cases c:fltM P ss bs cnt hh u with
  |some x=>
   have:=hu.pos;exact⟨rfl,qx x i G5 s45 (ho _ (.bad c)) (by lia)⟩
  |none=>
   simp! only[fU];rw[show ∀kk:Bool->Prop,isU .non .non kk=kk true from λ_=>rfl,if_neg (by decide)]
   obtain⟨m,kl,mn,ke,ks,k2,kh⟩:=jl5 hO c hu;simp! only[jnT g5];refine jjV (k:=k+4) hC hO c λp6 G6 s6 g6'=>?_;have g6:=s6 _ _ g5;simp! only[];rw[jo9 g6'];intro p7 G7 n7;rw[jpH (n7.sa _ _ g6) n7.at];refine⟨?_,λG8 p8=>?_⟩
   ·refine Yaf (m:=200000) ?_ (by decide)
    rw[<- ke];simp only[Yaj,List.length_reverse,Yaz,YeQ]at ll ⊢
    lia
   have s8:=frm (s45.trans (s6.trans n7.sa)) p8;have g8:=p8.at
   simp! only[];have e8:(l.map (·.1)).map ndU++((kids (u,hh)).map ndU).reverse=((l++kl.reverse).map (·.1)).map ndU:=by
    rw[YaB,YaB,Ycu,Ycu,ke]
   rw[e8]at g8;have e9:((l++kl.reverse).map (·.2)).sum=(l.map (·.2)).sum+(kl.map (·.2)).sum:=by
    rw[YaB,List.sum_append,Ycu,List.sum_reverse]
   refine⟨(l.map (·.2)).sum+(kl.map (·.2)).sum,by lia,l++kl.reverse,i+1,_,_,_,rfl,e9.symm,by lia,s8,g8,λx hx=>?_,λo h=>ho o (.go c ?_)⟩
   ·rcases List.mem_append.mp hx with h|h
    ·exact hl' x h
    ·have:=kh x (List.mem_reverse.mp h);exact⟨this.1,this.2.up (Yae _) (by lia)⟩
   ·rw[YaB,Ycu,ke]at h;exact h
theorem jlQ  (hC:C47 xs ss P bs)(o:Ob w 99 0 G th)(hN:w<=100000)(qt:∀G',Sa G G'->Out P ss bs cnt [(th,winO P ss,[],[])] 0 none->Q (.bl true) G')(qx:∀x m G',Sa G G'->Out P ss bs cnt [(th,winO P ss,[],[])] 0 (some (x,m))->m<=100000->X ⟨1,[.str x,.int m]⟩ G') :
  jac T (k+9) jdx [jal xs ss,.int P,jak bs,.int cnt,th] G Q X:=by
 refine⟨rfl,?_⟩;simp! only[jca,jad,Yaa];refine jhC (k:=k+5) hC.so hC.sl λG1 s1=>?_;refine⟨by decide,by decide,by decide,?_⟩
 exact jpv (k:=k) (h0:=(winO P ss,[],[])) hC (o.sa s1) hN ⟨Yaj _,List.nodup_nil,λ_ h=>(nomatch h)⟩ (λG2 s2=>qt G2 (s1.trans s2)) λx m G2 s2=>qx x m G2 (s1.trans s2)


theorem jfP  {i: Nat}{key: Key}{v: U}(nd:(kvs.map (·.1)).Nodup)(h:kvs[i]?=some (key,v)):dGet kvs key=some v:=by
 induction kvs generalizing i with
 |nil=>cases h
 |cons x r ih=>
  rw[YaC,List.nodup_cons]at nd;unfold dGet;cases i with
  |zero=>
   have:x=(key,v):=by simpa using h
   subst this;rw[List.find?_cons_of_pos (by simp)]
   rfl
  |succ i=>
   have h:r[i]?=some (key,v):=by simpa using h
   have ne:x.1≠key:=λe=>nd.1 (e ▸ Ycz (f:=(·.1)) (Yay h));rw[List.find?_cons_of_neg (by simpa using ne)]
   exact ih nd.2 h
theorem jpL  {kvs: List (Key×U)}(nd:(kvs.map (·.1)).Nodup)(h:kvs[i]?=some (key,u)):(kvs.map λkv=>if kv.1=key then (kv.1,v) else kv)=kvs.set i (key,v):=by
 induction kvs generalizing i with
 |nil=>cases h
 |cons x r ih=>
  rw[YaC,List.nodup_cons]at nd;cases i with
  |zero=>
   have:x=(key,u):=by simpa using h
   subst this;rw[YaC,if_pos rfl,Yfv];congr 1;refine(Ydo λy hy=>if_neg λe=>nd.1 ?_).trans (List.map_id r);exact e ▸ Ycz (f:=(·.1)) hy
  |succ i=>
   have h:r[i]?=some (key,u):=by simpa using h
   have ne:x.1≠key:=λe=>nd.1 (e ▸ Ycz (f:=(·.1)) (Yay h));rw[YaC,if_neg ne,Yfw,ih nd.2 h]
theorem jpK  {key: Key}{v: U}(nd:(kvs.map (·.1)).Nodup)(h:kvs[i]?=some (key,u)):dPut kvs key v=kvs.set i (key,v):=by
 unfold dPut;rw[if_pos (List.any_eq_true.mpr ⟨_,Yay h,by simp⟩)]
 exact jpL nd h
theorem jot  {kvs: List (Key×U)}(nd:(kvs.map (·.1)).Nodup):jcz kvs=kvs:=by
 have go:∀(kvs acc:List (Key×U)),((acc++kvs).map (·.1)).Nodup->kvs.foldl (λacc kv=>dPut acc kv.1 kv.2) acc=acc++kvs:=by
  intro kvs
  induction kvs with
  |nil=>intro acc _;simp
  |cons x r ih=>
   intro acc nd;have e:dPut acc x.1 x.2=acc++[x]:=by
    unfold dPut;rw[if_neg];intro z;obtain⟨y,hy,e⟩:=List.any_eq_true.mp z;rw[YaB,YcV]at nd;exact nd.2.2 y.1 (Ycz (f:=(·.1)) hy) x.1 (by simp) (of_decide_eq_true e)
   show r.foldl _ (dPut acc x.1 x.2)=_;rw[e,ih (acc++[x]) (by rw[Yb1];exact nd),Yb1]
   rfl
 exact go kvs [] nd
noncomputable def mnyU  : List (Key×U):=[(.inr "ring",.int 2),(.inr "split",.int 5),(.inr "prices",.int 2),(.inr "stay",.int 4),(.inr "enough",.int 1)]
theorem jkD  : (mnyU.map (·.1)).Nodup:=by decide +kernel
def wdO  (u:U):Str:=if shB "ring" 2 u=true then "ring" else if shB "split" 5 u=true then "split" else if shB "stay" 4 u=true then "stay" else if shB "enough" 1 u=true then "enough" else ""
noncomputable def wdsU  : List U:=[.str "ring",.str "split",.str "stay",.str "enough"]
theorem jcl     (h:x≠w):shB w m (.tup (.str x::us))=false:=by
 show(_&&decide (x=w))=false;rw[decide_eq_false h,Yes]
theorem jmy    (h:∀x,jbg x u0=false):wdO (.tup (u0::ur)) = "" := by
 have e:∀x m,shB x m (.tup (u0::ur))=false:=λx m=>by show(_&&jbg x u0)=false;rw[h,Yes]
 unfold wdO;rw[e,e,e,e];rfl
theorem jfi     (h:(x,m)∈[(("ring" : Str),(2:Int)),("split",5),("stay",4),("enough",1)]):wdO (.tup (.str x::ur))=if decide ((ur.length:Int)+1=m)=true then x else "" := by
 have own:∀{x:Str} {m:Int},shB x m (.tup (.str x::ur))=decide ((ur.length:Int)+1=m):=λ{x m}=>by
  show(decide (((ur.length+1:Nat):Int)=m)&&decide (x=x))=_;rw[decide_eq_true (rfl:x=x),Bool.and_true];rfl
 simp only[YaM,Yau,or_false,Prod.mk.injEq]at h;unfold wdO;rcases h with⟨rfl,rfl⟩|⟨rfl,rfl⟩|⟨rfl,rfl⟩|⟨rfl,rfl⟩
 ·rw[own,jcl (w := "split") (by decide +kernel),jcl (w := "stay") (by decide +kernel),jcl (w := "enough") (by decide +kernel)];rfl
 ·rw[own,jcl (w := "ring") (by decide +kernel),jcl (w := "stay") (by decide +kernel),jcl (w := "enough") (by decide +kernel)];rfl
 ·rw[own,jcl (w := "split") (by decide +kernel),jcl (w := "ring") (by decide +kernel),jcl (w := "enough") (by decide +kernel)];rfl
 ·rw[own,jcl (w := "split") (by decide +kernel),jcl (w := "stay") (by decide +kernel),jcl (w := "ring") (by decide +kernel)];rfl

theorem jhB  (t:Th G u d)(g:G pw=some (.lst wdsU))(q:∀G',Sa G G'->Q (.str (wdO u)) G'):jac T (k+1) jcT [.loc pw,u] G Q X:=by
 refine⟨rfl,?_⟩;simp! only[jc1,jad,Yaa];refine⟨by decide,?_⟩
 show newO G (.dK (jcz mnyU)) _;rw[jot jkD];intro p2 G2 n2;have g2:=n2.at
 have t2:=t.sa n2.sa;have gw:=n2.sa _ _ g;have q2:=q G2 n2.sa;simp! only[jbP,jbJ t2 (show "tuple" ∈ ["bool", "int", "str", "list", "tuple", "dict"] by decide)]
 cases t2 with
 |@tup us ds hs=>
  rw[show isD (.tuple ds) "tuple" = true from rfl,if_neg (by decide)]
  simp! only[];cases hs with
  |nil=>exact⟨YaK _,q2⟩
  |@cons u0 d0 ur dr t0 tr=>
   rw[show(u0::ur).isEmpty=false from rfl,if_neg (by decide)]
   simp! only[ix_t (jaO _ _),jbJ t0 (show "str" ∈ ["bool", "int", "str", "list", "tuple", "dict"] by decide)]
   refine⟨YaK _,?_⟩;cases t0 with
   |str x=>
    rw[show isD (PyData.str x) "str" = true from rfl,if_neg (by decide)]
    refine in_l gw rfl rfl ?_;have fin:∀(m:Int) (i:Nat),(x,m)∈[(("ring" : Str),(2:Int)),("split",5),("stay",4),("enough",1)]->mnyU[i]?=some (.inr x,.int m)->(wdsU.any λy=>eqF y (.str x))=true->if (!wdsU.any λy=>eqF y (.str x))=true then Q (.str "") G2 else jam T.gs (jac T k) ja0 ⟨λ_ G'=>Q .non G',Q,λx _ G'=>X x G'⟩ [some (.loc pw),some (.tup (.str x::ur)),some (.loc p2)] G2:=by
     intro m i hm hi hw;rw[hw,if_neg (by decide)]
     rw[jfi hm]at q2;simp! only[ja0,ix_t (jaO _ _),ix_d g2 (jfP jkD hi)];by_cases c:(ur.length:Int)+1=m
     ·rw[decide_eq_true c,if_pos rfl]at q2;rw[if_pos (by simpa using c)]
      exact q2
     ·rw[decide_eq_false c,if_neg (by decide)]at q2
      rw[if_neg (by simpa using c)]
      exact q2
    by_cases c1:x = "ring"
    ·subst c1;exact fin 2 0 (by simp) rfl (by decide +kernel)
    by_cases c2:x = "split"
    ·subst c2;exact fin 5 1 (by simp) rfl (by decide +kernel)
    by_cases c3:x = "stay"
    ·subst c3;exact fin 4 3 (by simp) rfl (by decide +kernel)
    by_cases c4:x = "enough"
    ·subst c4;exact fin 1 4 (by simp) rfl (by decide +kernel)
    have e:(wdsU.any λy=>eqF y (.str x))=false:=by
     show((("ring" : Str)==x)||((("split" : Str)==x)||((("stay" : Str)==x)||((("enough" : Str)==x)||false))))=false;simp[Ne.symm c1,Ne.symm c2,Ne.symm c3,Ne.symm c4]
    rw[e,if_pos (by decide)]
    have:wdO (.tup (.str x::ur)) = "" := by
     unfold wdO;rw[jcl c1,jcl c2,jcl c3,jcl c4];rfl
    rw[this]at q2;exact q2
   |_=>
    rw[jmy (λ_=>rfl)]at q2;exact q2
 |_=>exact q2

def bkU  (xs:List Str)(ss:List Spn)(P:Int)(bs:List Int)(cnt i:Int):List (Key×U):=[(.inr "plan",jal xs ss),(.inr "cycle",.int P),(.inr "beats",jak bs),(.inr "count",.int cnt),(.inr "at",.int i)]

theorem jfh  : ((bkU xs ss P bs cnt i).map (·.1)).Nodup:=by
 show [(.inr "plan" : Key),.inr "cycle",.inr "beats",.inr "count",.inr "at"].Nodup;decide +kernel
noncomputable def oU  : Option (Str×Nat)->U
 |none=>.non
 |some (x,n)=>.tup [.str x,.int n]
theorem jnO  {i:Nat}(hC:C47 xs ss P bs)(hH:HOk ss bs.length h)(t:Th G u d)(hu:u=.tup [.str "enough"]\/∃r,u=.tup [.str "ring",r])(g:G pb=some (.dK (bkU xs ss P bs cnt (i+1))))(q:∀G',Sa G G'->Q (oU ((fltM P ss bs cnt h u).map λx=>(x,i))) G') :
  jac T (k+5) ja1 [.loc pb,u,hU h,.int i] G Q X:=by
 refine⟨rfl,?_⟩;simp! only[jcb,jad,Yaa,hU];refine⟨trivial,?_⟩;rcases hu with rfl|⟨r,rfl⟩
 ·simp! only[jaJ,ix_t (jaO _ _)];rw[if_pos (by decide +kernel)]
  simp! only[ix_d g (jfP jfh (i:=3) rfl),jak,Yaj];have:=q G Sa.refl;rw[show fltM P ss bs cnt h (.tup [.str "enough"])=(if cnt<=h.2.2.length then none else some ("enough" : Str))from rfl]at this
  by_cases c5:cnt<=h.2.2.length
  ·rw[if_pos c5]at this;rw[if_pos (by simpa using c5)]
   exact this
  ·rw[if_neg c5]at this;rw[if_neg (by simpa using c5)]
   exact⟨by decide,this⟩
 ·have fr:fltM P ss bs cnt h (.tup [.str "ring",r])=(if jdc ss h.2.1 r=true then (if barB P bs h.1 (tupL r)=true then none else some ("bar" : Str)) else some ("ring" : Str)):=rfl
  rw[fr]at q;obtain⟨dr,tr⟩:∃dr,Th G r dr:=by
   cases t with
   |tup hs=>match hs with|.cons _ (.cons h2 .nil)=>exact⟨_,h2⟩
  simp! only[jaJ,ix_t (jaO _ _)];rw[if_neg (by decide +kernel)]
  simp! only[jba,ix_d g (jfP jfh (i:=0) rfl),ix_t (jat _ _ _)];refine jjY (k:=k+1) tr (λz hz=>?_) hC.sl λG1 s1=>?_
  ·have:=hH.st z hz;have:=hC.w8
   lia
  simp! only[];cases c:jdc ss h.2.1 r with
  |false=>
   have:=q G1 s1;rw[c]at this;exact⟨by decide,this⟩
  |true=>
   rw[if_neg (by decide)]
   cases tr with
   |@tup us ds hs=>
    have c':(decide (1<=us.length/\us.length<=60)&&(us.all (entB ss.length h.2.1)&&jdi (us.map (endZ ss))))=true:=c;rw[Yah,Yah,decide_eq_true_eq]at c';have g1:=s1 _ _ g;simp! only[ja9,ix_d g1 (jfP jfh (i:=1) rfl),ix_d g1 (jfP jfh (i:=2) rfl),ix_t (jat _ _ _)];refine jhF (k:=k+2) hH.wl hH.st (List.all_eq_true.mp c'.2.1) hC.p1 hC.p2 λG2 s2=>?_;have:=q G2 (s1.trans s2);rw[c,if_pos rfl]at this;have e:tupL (.tup us)=us:=rfl;rw[e]at this;simp! only[];cases c2:barB P bs h.1 us with
    |true=>rw[c2]at this;exact this
    |false=>rw[c2]at this;exact⟨by decide,this⟩
   |_=>cases c

def MvOk  (xs:List Str)(ss:List Spn)(P cnt:Int)(bs:List Int)(pb:Addr)(X:KX)(k n:Nat):Prop:=
 ∀{G:Gp} {u:U} {w i:Nat} {h:Hld} {Q:K1},Ob w n 0 (hide G pb) u->HOk ss bs.length h->G pb=some (.dK (bkU xs ss P bs cnt i))->i+w<=100000->
  (∀(r:Option (Str×Nat)) (j:Nat) (G':Gp),Sm pb G G'->G' pb=some (.dK (bkU xs ss P bs cnt j))->j<=i+w->(∀x m,r=some (x,m)->m<=100000)->(∀s o,(r=none->Out P ss bs cnt s j o)->(∀p,r=some p->o=some p)->Out P ss bs cnt (s++[(u,h)]) i o)->Q (oU r) G')->
  jac T k jbq [.loc pb,u,hU h] G Q X
section
variable {k:Nat}{G G':Gp}{Q:K1}{X:KX}{xs:List Str}{ss:List Spn}{P cnt:Int}{bs:List Int}{u r a b:U}{d:PyData}{pb pl:Addr}{w n m wa wb i:Nat}{h ha hb:Hld}{us:List U}{o3 o4 o5 o6 o7 o8 o10 o11:Option U}
theorem jds   (s:Sm p G G'):Sa (hide G p) (hide G' p):=λq v e=>by
 by_cases z:q=p
 ·unfold hide at e;rw[if_pos z]at e;cases e
 ·exact jcD (s q v z (ja5 q v e)) z
theorem mv_8 (ih:MvOk xs ss P cnt bs pb X k m)(oa:Ob wa m 0 (hide G pb) a)(ob:Ob wb m 0 (hide G pb) b)(Ha:HOk ss bs.length ha)(Hb:HOk ss bs.length hb)(hw:wa+wb+3<=w)(hi:i+w<=100000)(gp:G pb=some (.dK (bkU xs ss P bs cnt ((i+1:Nat):Int))))(gl:G pl=some (.lst [hU ha,hU hb]))(f:fltM P ss bs cnt h (.tup us)=none)(ek:kids (.tup us,h)=[(a,ha),(b,hb)])(e1:atI us ((us.length:Int)-2)=some a)(e2:atI us ((us.length:Int)-1)=some b)
  (q:∀(r:Option (Str×Nat)) (j:Nat) (G':Gp),Sm pb G G'->G' pb=some (.dK (bkU xs ss P bs cnt j))->j<=i+w->(∀x m,r=some (x,m)->m<=100000)->(∀s o,(r=none->Out P ss bs cnt s j o)->(∀p,r=some p->o=some p)->Out P ss bs cnt (s++[(.tup us,h)]) i o)->Q (oU r) G') :
  jam T.gs (jac T k) jbh ⟨λ_ G'=>Q .non G',Q,λx _ G'=>X x G'⟩ [some (.loc pb),some (.tup us),some (hU h),o3,o4,o5,o6,o7,o8,some (.loc pl),o10,o11,none] G:=by
 have npl:pl≠pb:=λz=>by rw[z,gp]at gl;cases gl
 simp! only[jbh,ix_t e1,ix_l gl (jaO _ _)];refine ih oa Ha gp (by lia) λr1 j1 G1 s1 g1 b1 m1 q1=>?_
 have l1:=s1 _ _ npl gl;simp! only[];cases r1 with
 |some p=>
  obtain⟨x,y⟩:=p;simp! only[oU];rw[show ∀kk:Bool->Prop,isU (.tup [.str x,.int y]) .non kk=kk false from λ_=>rfl];rw[if_pos (by decide)]
  refine q (some (x,y)) j1 G1 s1 g1 (by lia) m1 λs o _ h2=>.go f ?_
  rw[ek];have e:s++[(a,ha),(b,hb)].reverse=(s++[(b,hb)])++[(a,ha)]:=by simp
  rw[e];exact q1 _ o (λz=>by cases z) h2
 |none=>
  simp! only[oU];rw[show ∀kk:Bool->Prop,isU .non .non kk=kk true from λ_=>rfl];rw[if_neg (by decide)]
  simp! only[ix_t e2,ix_l l1 (jat _ _ _)];refine ih (ob.sa (jds s1)) Hb g1 (by lia) λr2 j2 G2 s2 g2 b2 m2 q2=>?_
  refine q r2 j2 G2 (s1.trans s2) g2 (by lia) m2 λs o h1 h2=>.go f ?_
  rw[ek];have e:s++[(a,ha),(b,hb)].reverse=(s++[(b,hb)])++[(a,ha)]:=by simp
  rw[e];exact q1 _ o (λ_=>q2 s o h1 h2) λp z=>by cases z
theorem jfe   (ln:x.length+y.length<=9)(q:Q (jak (x++y)) G):binU .Add (jak x) (jak y) G Q:=by
 unfold jak at *;rw[YaB]at q;exact⟨Yaf (show _<=9 by rw[Yaj,Yaj];exact ln) (by decide),q⟩
theorem jjW  (hC:C47 xs ss P bs):∀n,MvOk xs ss P cnt bs pb X (k+n+6) n:=by
 intro n
 induction n using Nat.strongRecOn generalizing k with
 |ind n ih=>
 intro G u w i h Q ou hH gp hi q;obtain⟨d,t0,bx⟩:=id ou;have t:Th G u d:=t0.sa ja5;refine⟨rfl,?_⟩;simp! only[jeh,jad,Yaa];rw[show hU h=.tup [wsU h.1,jak h.2.1,jak h.2.2]from rfl];simp! only[ix_d gp (jfP jfh (i:=4) rfl)];refine⟨trivial,?_⟩;rw[jie gp];refine⟨by show 5<Yag;decide,λG1 p1=>?_⟩
 have wp:=ou.pos;have g1:G1 pb=some (.dK (bkU xs ss P bs cnt ((i+1:Nat):Int))):=by
  have e:=p1.at
  rw[jpK jfh (i:=4) rfl]at e;exact e
 have s1:Sm pb G G1:=p1.sm;have o1:Ob w n 0 (hide G1 pb) u:=ou.sa (jds s1);have t1:Th G1 u d:=(t0.sa (jds s1)).sa ja5;simp! only[jcK];refine⟨by decide,λp2 G2 n2=>?_⟩
 refine jhB (k:=k+n+4) (t1.sa n2.sa) n2.at λG3 s23=>?_;have s13:Sa G1 G3:=n2.sa.trans s23;have S3:Sm pb G G3:=s1.trans s13.sm;have g3:=s13 _ _ g1;have t3:Th G3 u d:=t1.sa s13;have o3:Ob w n 0 (hide G3 pb) u:=ou.sa (jds S3);have I:∀m,m<n->MvOk xs ss P cnt bs pb X (k+n+5) m:=λm hm=>by
  have:=@ih m hm (k+(n-1-m))
  rwa [show k+(n-1-m)+m+6=k+n+5 by lia]at this
 have bad:∀(x:Str) (G4:Gp),fltM P ss bs cnt h u=some x->Sa G3 G4->Q (.tup [.str x,.int i]) G4:=λx G4 f s34=>q (some (x,i)) (i+1) G4 (S3.trans s34.sm) (s34 _ _ g3) (by lia) (λy m e=>by cases e;lia) λs o _ h2=>by rw[h2 _ rfl];exact .bad f
 have leaf:(u=.tup [.str "enough"]\/∃r,u=.tup [.str "ring",r])->jac T (k+n+5) ja1 [.loc pb,u,hU h,.int i] G3 Q X:=λhu=>by
  refine jnO (k:=k+n) hC hH t3 hu g3 λG4 s4=>?_;refine q _ (i+1) G4 (S3.trans s4.sm) (s4 _ _ g3) (by lia) (λx m e=>?_) λs o h1 h2=>?_
  ·cases f:fltM P ss bs cnt h u with
   |none=>rw[f]at e;cases e
   |some y=>rw[f]at e;cases e;lia
  ·cases f:fltM P ss bs cnt h u with
   |none=>
    rw[f]at h1;refine .go f ?_;have ek:kids (u,h)=[]:=by rcases hu with rfl|⟨r,rfl⟩<;>rfl
    rw[ek,List.reverse_nil,Ybb];exact h1 rfl
   |some y=>
    rw[f]at h2;rw[h2 _ rfl];exact .bad f
 simp! only[jcJ];cases c1:shB "ring" 2 u with
 |true=>
  obtain⟨r,rfl⟩:=sh_2 c1;rw[show wdO (.tup [.str "ring",r]) = "ring" by rw[jfi (m:=2) (by simp)];exact if_pos (by simp)]
  rw[if_neg (by decide +kernel)]
  simp! only[jaG];rw[if_pos (by decide +kernel)]
  simp! only[];exact leaf (.inr ⟨r,rfl⟩)
 |false=>
 cases c2:shB "enough" 1 u with
 |true=>
  have:=sh_1 c2;subst this;rw[show wdO (.tup [.str "enough"]) = "enough" by rw[jfi (m:=1) (by simp)];exact if_pos (by simp)]
  rw[if_neg (by decide +kernel)]
  simp! only[jaG];rw[if_neg (by decide +kernel)]
  simp! only[];rw[if_pos (by decide +kernel)]
  simp! only[];exact leaf (.inl rfl)
 |false=>
 cases c3:shB "stay" 4 u with
 |true=>
  obtain⟨z,a,b,rfl⟩:=sh_4 c3;obtain⟨m,wa,wb,dz',rfl,_,oa,ob,hw⟩:=ou.four;obtain⟨dz,tz⟩:∃dz,Th G3 z dz:=by
   obtain⟨m',wa',wb',dz,_,tz,_⟩:=o3.four;exact⟨dz,tz.sa ja5⟩
  rw[show wdO (.tup [.str "stay",z,a,b]) = "stay" by rw[jfi (m:=4) (by simp)];exact if_pos (by simp)]
  rw[if_neg (by decide +kernel)]
  simp! only[jaG];rw[if_neg (by decide +kernel)]
  simp! only[];rw[if_neg (by decide +kernel)]
  simp! only[jbj,ix_t (jat _ _ _)];simp! only[jbi];rw[if_pos (by decide +kernel)]
  simp! only[jbC,ix_d g3 (jfP jfh (i:=0) rfl),jal,ix_t (jaO _ _),Yaj,hC.xl];refine jbd (k:=k+(m+1)+4) tz ?_;simp! only[];have fr:fltM P ss bs cnt h (.tup [.str "stay",z,a,b])=(if (inI 0 ((bs.length:Int)-1) z && !(jau h.2.1 z||jau h.2.2 z))=true then none else some ("work" : Str)):=rfl
  cases c5:inI 0 ((bs.length:Int)-1) z with
  |false=>
   rw[c5]at fr;exact⟨by decide,bad _ G3 fr Sa.refl⟩
  |true=>
   rw[c5,Ycy]at fr;rw[if_neg (by decide)]
   obtain⟨iz,rfl,z0,z1⟩:=jb8 c5;have ln:=hH.ln hC;simp! only[];refine jfe (by lia) (jea ?_)
   have e1:jau h.2.1 (.int iz)=decide (iz∈h.2.1):=rfl;have e2:jau h.2.2 (.int iz)=decide (iz∈h.2.2):=rfl;have e3:decide (iz∈h.2.1++h.2.2)=(decide (iz∈h.2.1)||decide (iz∈h.2.2)):=by rw[Ybc];simp
   rw[e1,e2,<- e3]at fr;cases c6:decide (iz∈h.2.1++h.2.2)with
   |true=>
    rw[c6]at fr;rw[if_pos rfl];exact⟨by decide,bad _ G3 fr Sa.refl⟩
   |false=>
    rw[c6]at fr;rw[if_neg (by decide)]
    have nm:iz∉h.2.1++h.2.2:=of_decide_eq_false c6;have n1:iz∉h.2.1:=λz=>nm (YaV _ z);have n2:iz∉h.2.2:=λz=>nm (Yas _ z);simp! only[jbB];rw[show(U.tup [.int iz])=jak [iz]from rfl];refine⟨by decide,jfe (show _+1<=9 by lia) ⟨by decide,by decide,jfe (show _+1<=9 by lia) ⟨by decide,by decide,λp4 G4 n4=>?_⟩⟩⟩
    have s4:Sa G3 G4:=n4.sa;refine mv_8 (w:=w) (ha:=(h.1,h.2.1++[iz],h.2.2)) (hb:=(h.1,h.2.1,h.2.2++[iz])) (I m (Yc3 _)) (oa.sa (jds (S3.trans s4.sm))) (ob.sa (jds (S3.trans s4.sm))) (hH.stay ⟨z0,by lia⟩ n1 n2) (hH.move ⟨z0,by lia⟩ n1 n2) (by lia) hi (s4 _ _ g3) n4.at fr rfl rfl rfl λr j G5 s5=>?_
    exact q r j G5 ((S3.trans s4.sm).trans s5)
 |false=>
 cases c4:shB "split" 5 u with
 |true=>
  obtain⟨sv,c,a,b,rfl⟩:=sh_5 c4;obtain⟨m,wa,wb,ds',dc',rfl,_,_,oa,ob,hw⟩:=ou.five;obtain⟨ds,dc,ts,tc⟩:∃ds dc,Th G3 sv ds/\Th G3 c dc:=by
   obtain⟨m',wa',wb',ds,dc,_,ts,tc,_⟩:=o3.five;exact⟨ds,dc,ts.sa ja5,tc.sa ja5⟩
  rw[show wdO (.tup [.str "split",sv,c,a,b]) = "split" by rw[jfi (m:=5) (by simp)];exact if_pos (by simp)]
  rw[if_neg (by decide +kernel)]
  simp! only[jaG];rw[if_neg (by decide +kernel)]
  simp! only[];rw[if_neg (by decide +kernel)]
  simp! only[jbj,ix_t (jat _ _ _)];simp! only[jbi];rw[if_neg (by decide +kernel)]
  simp! only[jbA,ix_d g3 (jfP jfh (i:=0) rfl),jal,ix_t (jat _ _ _),Yaj];refine jbd (k:=k+(m+1)+4) ts ?_;simp! only[];have fr:fltM P ss bs cnt h (.tup [.str "split",sv,c,a,b])=(if inI 0 ((ss.length:Int)-1) sv=true then (if inI (h.1.getD (jcn sv).toNat (0,0)).1 ((h.1.getD (jcn sv).toNat (0,0)).2-1) c=true then none else some ("cut" : Str)) else some ("span" : Str)):=rfl
  cases c5:inI 0 ((ss.length:Int)-1) sv with
  |false=>
   rw[c5,if_neg (by decide)]at fr
   exact⟨by decide,bad _ G3 fr Sa.refl⟩
  |true=>
   rw[c5,if_pos rfl]at fr;rw[if_neg (by decide)]
   obtain⟨iz,rfl,z0,z1⟩:=jb8 c5;obtain⟨jz,rfl⟩:=YaJ z0;have wl:=hH.wl;have sl:=hC.sl;have il:jz<h.1.length:=by lia
   have ew:h.1[jz]?=some h.1[jz]:=YaD il;have eg:h.1.getD jz (0,0)=h.1[jz]:=by simp[Ych,il]
   have eg2:h.1.getD (jcn (.int (jz:Int))).toNat (0,0)=h.1[jz]:=by
    show h.1.getD ((jz:Int)).toNat (0,0)=_;rw[Yb3];exact eg
   rw[eg2]at fr;simp! only[jbz];rw[show wsU h.1=.tup (h.1.map wu)from rfl];rw[ix_t (atM ew)];show tgU _ (.tup [.int h.1[jz].1,.int h.1[jz].2]) _ _;simp! only[];refine⟨trivial,?_⟩;simp! only[jby,ix_t (jjp _ _ _ _)];refine jbd (k:=k+(m+1)+4) tc ?_;simp! only[];cases c6:inI h.1[jz].1 (h.1[jz].2-1) c with
   |false=>
    rw[c6,if_neg (by decide)]at fr
    exact⟨by decide,bad _ G3 fr Sa.refl⟩
   |true=>
    rw[c6,if_pos rfl]at fr;rw[if_neg (by decide)]
    obtain⟨ct,rfl,_,_⟩:=jb8 c6;simp! only[jbx,ix_t (jjp _ _ _ _)];refine jgW (k:=k+(m+1)+4) (ws:=h.1) il (by lia) ⟨by decide,by decide,λp4 G4 n4=>?_⟩
    simp! only[jbw,jg2 n4.at,ix_t (jjp _ _ _ _)];refine jgW (k:=k+(m+1)+4) (ws:=h.1) il (by lia) ⟨by decide,?_⟩
    rw[jkk n4.at];refine⟨by show 1<Yag;decide,λG5 p5=>?_⟩
    have s5:Sa G3 G5:=λb o e=>p5.sm _ _ (λy=>by rw[y,n4.no]at e;cases e) (n4.sa _ _ e)
    have g5:=p5.at
    have el:lowW h.1 jz ct=h.1.set jz (h.1[jz].1,ct):=by unfold lowW;rw[eg]
    have eh:jgp h.1 jz ct=h.1.set jz (ct+1,h.1[jz].2):=by unfold jgp;rw[eg]
    refine mv_8 (w:=w) (ha:=(h.1.set jz (h.1[jz].1,ct),h.2)) (hb:=(h.1.set jz (ct+1,h.1[jz].2),h.2)) (I m (Yc3 _)) (oa.sa (jds (S3.trans s5.sm))) (ob.sa (jds (S3.trans s5.sm))) (hH.win (YcA ..)) (hH.win (YcA ..)) (by lia) hi (s5 _ _ g3) g5 fr ?_ rfl rfl λr j G6 s6=>?_
    ·rw[<- el,<- eh];rfl
    ·exact q r j G6 ((S3.trans s5.sm).trans s6)
 |false=>
  rw[show wdO u = "" by unfold wdO;rw[c1,c2,c3,c4];rfl]
  rw[if_pos (by decide +kernel)]
  simp! only[];exact⟨by decide,bad _ G3 (jg0 c1 c4 c3 c2) Sa.refl⟩
end

noncomputable def W7  : List Str:=["shape", "ring", "bar", "span", "cut", "work", "enough"]
theorem jj9        (h0:fltM P ss bs cnt h u=some x):x∈W7:=by
 unfold fltM at h0;have e:∀{y:Str},y∈W7->some y=some x->x∈W7:=λhy z=>by cases z;exact hy
 have m:∀y∈W7,y∈W7:=λ_ h=>h;split at h0<;>(repeat' split at h0)<;>first|cases h0;done|exact e (by simp[W7]) h0
theorem jjT        (h:Out P ss bs cnt s n o):∀{x } {m },o=some (x,m)->x∈W7:=by
 induction h with
 |nil=>intro x m e;cases e
 |bad hx=>intro x m e;cases e;exact jj9 hx
 |go _ _ ih=>exact ih
theorem joE  : ∀x∈W7,x.length<=6/\∀c∈x.cps.toList,c<16 ^ 8:=by decide +kernel
noncomputable def aU  : Option (Str×Nat)->U
 |none=>.bl true
 |some (x,n)=>.tup [.str x,.int n]
theorem joD   (hw:∀x m,o=some (x,m)->x∈W7)(hm:∀x m,o=some (x,m)->m<=100000):∃z ,∀G Q ,Q (.str z) G->jhu [aU o] G Q:=by
 match o,hw,hm with
 |none,_,_=>exact⟨_,λG Q q=>⟨.bool true,.bl true,(Fits.bl true).mono (by decide) (YaK _),q⟩⟩
 |some (x,m),hw,hm=>
  have h1:=joE x (hw x m rfl);have h2:=hm x m rfl;have hb:Bx 200 1 0 (.tuple [.str x,.int m]):=⟨⟨h1.2,Yaf (show(m:Int).natAbs<=100000 by lia) (by decide),trivial⟩,by show(10*x.length+2)+2+(50+2+0)+3<=200;lia,by show max 0 (max 0 0)+1<=1;decide⟩
  exact⟨_,λG Q q=>⟨.tuple [.str x,.int m],.tup (.cons (.str x) (.cons (.int _) .nil)),(hb.ft (by decide)).mono (by decide) (by decide),q⟩⟩

theorem jnP  (hC:C47 xs ss P bs)(o:Ob w 60 0 G th)(hw:w<=100000)(q:∀o G',Sa G G'->Out P ss bs cnt [(th,winO P ss,[],[])] 0 o->(∀x m,o=some (x,m)->m<=100000)->Q (aU o) G') :
  jac T (k+67) jb4 [jal xs ss,.int P,jak bs,.int cnt,th] G Q X:=by
 refine⟨rfl,?_⟩;simp! only[jcc,jad,Yaa];refine⟨by decide,?_⟩
 show newO G (.dK (jcz (bkU xs ss P bs cnt 0))) _;rw[jot jfh];intro pb G1 n1;simp! only[];refine jlP (k:=k+64) hC.so hC.sl λG2 s2=>⟨by decide,by decide,by decide,?_⟩
 have g2:G2 pb=some (.dK (bkU xs ss P bs cnt ((0:Nat):Int))):=s2 _ _ n1.at
 refine jjW (k:=k) (n:=60) hC (h:=(winO P ss,[],[])) (w:=w) (i:=0) ((o.sa n1.hid).sa s2.hide) ⟨Yaj _,List.nodup_nil,λ_ h=>(nomatch h)⟩ g2 (by lia) λr j G3 s3 g3 bj br hr=>?_
 have s13:Sa G G3:=λb v e=>s3 _ _ (λy=>by rw[y,n1.no]at e;cases e) (s2 _ _ (n1.sa _ _ e))
 have ho:Out P ss bs cnt [(th,winO P ss,[],[])] 0 r:=by
  have:=hr [] r (λz=>by rw[z];exact .nil) λp z=>z
  exact this
 have:=q r G3 s13 ho br;simp! only[];cases r with
 |none=>
  rw[show ∀kk:Bool->Prop,isU (oU none) .non kk=kk true from λ_=>rfl];rw[if_pos rfl];exact this
 |some p=>
  obtain⟨x,y⟩:=p;rw[show ∀kk:Bool->Prop,isU (oU (some (x,y))) .non kk=kk false from λ_=>rfl];rw[if_neg (by decide)]
  exact this
theorem jlM  (hC:C47 xs ss P bs)(o:Ob w 60 0 G th)(hw:w<=100000)(q:∀o G',Sa G G'->Out P ss bs cnt [(th,winO P ss,[],[])] 0 o->(∀x m,o=some (x,m)->m<=100000)->Q (aU o) G') :
  jac T (k+10) jbI [jal xs ss,.int P,jak bs,.int cnt,th] G Q X:=by
 refine⟨rfl,?_⟩;simp! only[jbK,jad,Yaa];refine jlQ (k:=k) hC (o.up (Yae _) (by decide)) hw (λG1 s1 ho=>?_) λx m G1 s1 ho hm=>⟨.inl trivial,?_⟩
 ·simp! only[];exact q none G1 s1 ho λx m e=>nomatch e
 ·simp[hsH,hvH,jcE,lit1,litH,atsH,atH,clsF,clsA,-Ye5];simp! only[];exact q (some (x,m)) G1 s1 ho λx m e=>by cases e;exact hm


theorem jnM  (hf:Fn G f c n)(hn:n<=900000000)(q:∀(W:Nat) P G' ,0<W->W<=8->1<=P->P<=30->Fn G' f c (n+3)->Sm f G G'->Q (.tup [.int W,.int P]) G'):jac T (k+2) jb6 [.loc f] G Q X:=by
 refine⟨rfl,?_⟩;simp! only[jce,jad,Yaa];refine jaf hf (by lia) (by decide) (by decide) λr G1 a1 b1 f1 s1=>?_
 simp! only[];by_cases hr:r=0
 ·rw[if_pos (by simpa using hr)]
  refine jaf f1 (by lia) (by decide) (by decide) λw G2 a2 b2 f2 s2=>jaf f2 (by lia) (by decide) (by decide) λp G3 a3 b3 f3 s3=>⟨by decide,?_⟩
  have:=q (6+w.toNat) (1+p) G3 (by lia) (by lia) (by lia) (by lia) f3 ((s1.trans s2).trans s3)
  rw[show((6+w.toNat:Nat):Int)=6+w by lia]at this
  exact this
 ·rw[if_neg (by simpa using hr)]
  simp! only[];refine⟨by decide,λp2 G2 n2=>jaf (f1.new n2) (by lia) (by decide) (by decide) λr3 G3 a3 b3 f3 s3=>?_⟩
  refine jaR [2,3,3,4,2,4,5,1] (s3 _ _ (f1.away n2).1 n2.at) a3 b3 λz hz=>?_;have hz':1<=z/\z<=5:=by simp only[YaM,Yau,or_false]at hz;lia
  have S3:=(s1.nw n2).trans s3;simp! only[];refine⟨by decide,λp4 G4 n4=>?_⟩
  refine jaR [30,30,7,4,2] n4.at (by lia) (by show _<(5:Int);lia) λy hy=>?_
  have hy':1<=y/\y<=30:=by simp only[YaM,Yau,or_false]at hy;lia
  refine jaf (f3.new n4) (by lia) (by lia) (by lia) λp G5 a5 b5 f5 s5=>⟨by decide,?_⟩
  have:=q z.toNat (1+p) G5 (by lia) (by lia) (by lia) (by lia) f5 ((S3.nw n4).trans s5)
  rw[show((z.toNat:Nat):Int)=z by lia]at this
  exact this
noncomputable def wz  : Nat->Nat
 |0=>62
 |n+1=>6*wz n
def Oz  (n:Nat)(G:Gp)(u:U):Prop:=Ob (wz n) n 0 G u
noncomputable def sOk  (x:Str):Bool:=decide (x.length<=6)&&x.cps.all (·< 128)
theorem jfZ  : ∀n,62<=wz n
 |0=>Yae _
 |n+1=>by have:=jfZ n;show 62<=6*wz n;lia
section
variable {n:Nat}{G G':Gp}{a b c d e:U}{us:List U}{ds:List PyData}{p:Addr}
theorem jf9  : ∀{us },(∀u∈us,Oz n G u)->∃ds,Ths G us ds/\BxA (us.length*(wz n+2)) n 0 ds
 |[],_=>⟨[],.nil,trivial,YaK _,YaK _⟩
 |u::r,h=>by
  obtain⟨d,t,b⟩:=h u YaH;obtain⟨ds,ts,bs⟩:=jf9 λv hv=>h v (Yan _ hv);refine⟨d::ds,.cons t ts,⟨⟨b.ok,bs.ok⟩,?_,Nat.max_le.mpr ⟨b.k,bs.k⟩⟩⟩;have h1:=b.w;have h2:=bs.w;show wt d+2+wtA ds<=(r.length+1)*(wz n+2);rw[Nat.succ_mul];lia
theorem jis   (h:m<=5):m*(wz n+2)+3<=wz (n+1):=by
 have:=jfZ n;have h1:=Nat.mul_le_mul_right (wz n+2) h;show _<=6*wz n
 lia
theorem Oz.tup  (h:∀u∈us,Oz n G u)(l:us.length<=5):Oz (n+1) G (.tup us):=by
 obtain⟨ds,t,b⟩:=jf9 h;exact⟨.tuple ds,.tup t,b.tup.mono (jis l) (Yae _) (Yae _)⟩
theorem Oz.lst  (g:G p=some (.lst us))(h:∀u∈us,Oz n G u)(l:us.length<=5):Oz (n+1) G (.loc p):=by
 obtain⟨ds,t,b⟩:=jf9 h;exact⟨.list ds,.lst g t,b.lst.mono (jis l) (Yae _) (Yae _)⟩
theorem Oz.non  : Oz n G .non:=⟨_,.non,trivial,Yaf (show 5<=62 by decide) (jfZ n),YaK _⟩
theorem Oz.bl   : Oz n G (.bl x):=⟨_,.bl x,trivial,Yaf (show 5<=62 by decide) (jfZ n),YaK _⟩
theorem Oz.int   (h:i.natAbs<=10 ^ 39):Oz n G (.int i):=⟨_,.int i,h,Yaf (show 50<=62 by decide) (jfZ n),YaK _⟩
theorem Oz.sm   (h:-1000<=i/\i<=1000):Oz n G (.int i):=Oz.int (Yaf (show i.natAbs<=1000 by lia) (by decide))
theorem Oz.str   (h:sOk x=true):Oz n G (.str x):=by
 unfold sOk at h;rw[Yah,decide_eq_true_eq]at h;refine⟨_,.str x,λc hc=>?_,Yaf (show 10*x.length+2<=62 by lia) (jfZ n),YaK _⟩
 have:=Array.all_eq_true_iff_forall_mem.mp h.2 c (by simpa using hc)
 exact Ye3 (of_decide_eq_true this) (by decide)
theorem Oz.dic  (g:G p=some (.dK [])):Oz (n+1) G (.loc p):=⟨_,.dic g,rfl,Yaf (show 2<=62 by decide) (jfZ _),Ycw (YaK _)⟩
abbrev Ou  (G:Gp)(u:U):Prop:=Ob 90000 20 0 G u
theorem Oz.ou  (h:Oz 4 G a):Ou G a:=Ob.up h (by decide) (by decide)
theorem jex    {Q:K1}(g1:G u=some (.lst xs))(g2:G v=some (.lst ys))(l1:xs.length<=m)(l2:ys.length<=100)(hm:m<=1000)(h1:∀x∈xs,Ou G x)(h2:∀y∈ys,Ou G y)(q:∀p G',New G p (.lst (xs++ys)) G'->(xs++ys).length<=m+ys.length->(∀x∈xs++ys,Ou G x)->Q (.loc p) G'):binU .Add (.loc u) (.loc v) G Q:=by
 refine⟨_,_,g1,g2,Yaf (show _<=1100 by lia) (by decide),λp G' n=>q p G' n (by rw[Yaz];lia) λx hx=>?_⟩
 rcases List.mem_append.mp hx with h|h
 ·exact h1 x h
 ·exact h2 x h
end

noncomputable def endU  : U:=.tup [.str "enough"]
noncomputable def jeb  (W:Int):U:=.tup [.str "ring",.tup [.tup [.str "home",.int 0,.int (W-1)],.tup [.str "home",.int (W-1),.int 0]]]
theorem al0  {p:U->Prop}:∀u∈([]:List U),p u:=nofun
theorem al1  {p:U->Prop}(h:p a)(t:∀u∈l,p u):∀u∈a::l,p u:=λu hu=>by
 rcases YaM.mp hu with rfl|hu
 ·exact h
 ·exact t u hu
theorem jbc    : Oz (n+1) G endU:=Oz.tup (al1 (Oz.str (by decide +kernel)) al0) (by decide)
theorem jir     (h:0<=W/\W<=8):Oz (n+3) G (jeb W):=by
 unfold jeb
 repeat' first|exact al0|refine al1 ?_ ?_|exact Oz.str (by decide +kernel)|exact Oz.sm (by lia)|refine Oz.tup ?_ (by simp)

theorem jpx  {X: KX}{W: Nat}(hf:Fn G f c n)(w8:W<=8)(h:Tl G p f c ws m)(hm:m<=1000)(q:∀p ws G',G' p=some (.lst ws)->(ws.length<=2000/\∀u∈ws,Ou G' u)->Sa G G'->Q (.loc p) G') :
  jam T.gs (jac T (k+2)) jbk ⟨λ_ G'=>Q .non G',Q,λx _ G'=>X x G'⟩ [some (.loc f),some pl,some (.int W),some endU,some (jeb W),some (.loc p),o6,o7,o8] G:=by
 simp! only[jbk];simp! only[jcM];refine⟨by lia,by lia,?_⟩
 refine jbr (λi ς G'=>G'=G/\∃u o6,ς=[some (.loc f),some pl,some (.int W),some endU,some (jeb W),some (.loc p),o6,o7,some u]/\∀G,Ob (400+500*i) (i+1) 0 G u) ?_ ?_ ⟨rfl,endU,_,rfl,λG=>(Ob.up (jbc (n:=0)) (by decide) (by decide):Ob 372 1 0 G endU) |>.up (by decide) (by decide)⟩
 ·rintro ς G' ⟨rfl,u,o6,rfl,hu⟩;rw[jaH]at hu;refine⟨trivial,?_⟩;simp! only[jcL];refine⟨by decide,by decide,by decide,by decide,λp2 G2 n2=>?_⟩
  refine jex (n2.sa _ _ h.g) n2.at h.l (by simp) hm (λx hx=>Ob.sa (Ob.sa (h.o x hx) ja5) n2.sa) ?_ λp3 G3 n3 l3 hx=>q p3 _ G3 n3.at ⟨Yaf l3 (by simp;lia),λx h=>(hx x h).sa n3.sa⟩ (n2.sa.trans n3.sa)
  refine al1 ((hu G2).up (by lia) (by lia)) ?_
  repeat' first|exact al0|refine al1 (Oz.ou ?_) ?_|refine al1 ?_ ?_|exact jbc|exact Oz.bl|exact Oz.str (by decide +kernel)|exact Oz.sm (by lia)|refine Oz.tup ?_ (by simp)
 ·rintro i x ς G' K hx ⟨rfl,u,o6,rfl,hu⟩ hk;obtain⟨hi,rfl⟩:=jbn hx;refine⟨trivial,?_⟩;simp! only[jbD];refine⟨by decide,hk _ _ ⟨rfl,_,_,rfl,λG=>?_⟩⟩
  obtain⟨d,t,b⟩:=hu G;obtain⟨d1,t1,b1⟩:Ob 42 0 0 G (.str "stay"):=⟨_,.str _,λc hc=>by
   have:∀c∈("stay" : Str).cps.toList,c<16 ^ 8:=by decide +kernel
   exact this c hc,by decide +kernel,Yae _⟩
  obtain⟨d2,t2,b2⟩:Ob 50 0 0 G (.int ((W:Int)-1-(i:Int))):=⟨_,.int _,Yaf (show Int.natAbs _<=1000 by lia) (by decide),Yae _,Yae _⟩
  obtain⟨d3,t3,b3⟩:=(jbc (n:=0) (G:=G));have w1:=b1.w;have w2:=b2.w;have w3:wt d3<=372:=b3.w;have w4:=b.w;have k1:=b1.k;have k2:=b2.k;have k3:=b3.k;have k4:=b.k;refine⟨.tuple [d1,d2,d3,d],.tup (.cons t1 (.cons t2 (.cons t3 (.cons t .nil)))),⟨b1.ok,b2.ok,b3.ok,b.ok,trivial⟩,?_,?_⟩
  ·show wt d1+2+(wt d2+2+(wt d3+2+(wt d+2+0)))+3<=400+500*(i+1)
   lia
  ·show max d1.depth (max d2.depth (max d3.depth (max d.depth 0)))+1<=i+1+1
   lia


theorem mn_9  {X: KX}{W: Nat}(hf:Fn G f c n)(hn:n<=900000000)(w8:W<=8)(sl:ss.length<=24)(h:Tl G p f c ws m)(hm:m<=900)(q:∀p' ws G',G' p'=some (.lst ws)->(ws.length<=2000/\∀u∈ws,Ou G' u)->Fn G' f c (n+5)->(∀b v,b≠f->G b=some v->b≠p->G' b=some v)->Q (.loc p') G') :
  jam T.gs (jac T (k+2)) jbT ⟨λ_ G'=>Q .non G',Q,λx _ G'=>X x G'⟩ [some (.loc f),some (jal xs ss),some (.int W),some endU,some (jeb W),some (.loc p),o6,o7,o8] G:=by
 simp! only[jbT,jal,ix_t (jat _ _ _),Yaj];refine⟨by decide,?_⟩
 refine jbr (λi ς G'=>∃ws o7,ς=[some (.loc f),some (jal xs ss),some (.int W),some endU,some (jeb W),some (.loc p),o6,o7,o8]/\Tl G' p f c ws (m+i)/\Fn G' f c (n+i)/\∀b v,b≠f->G b=some v->b≠p->G' b=some v) ?_ ?_ ⟨ws,o7,rfl,h,hf,λb v _ e _=>e⟩
 ·rintro ς G' ⟨ws,o7,rfl,h1,f1,s1⟩;refine⟨trivial,?_⟩;refine jpx (k:=k) f1 w8 h1 (by show m+5<=1000;lia) λp' ws' G2 g2 hw s2=>?_
  exact q p' ws' G2 g2 hw (f1.sa s2) λb v hb e hp=>s2 _ _ (s1 b v hb e hp)
 ·rintro i x ς G' K hx ⟨ws,o7,rfl,h1,f1,s1⟩ hk;have hi:i<5:=by
   have:=(List.getElem?_eq_some_iff.mp hx).1;simpa using this
  have hx':∀G,Oz 0 G x:=by
   have:=Yay hx;intro G;have al:∀u∈[U.int 0,.int (ss.length:Int),.int (-1),.bl true,.non],Oz 0 G u:=by
    repeat' first|exact al0|refine al1 ?_ ?_|exact Oz.non|exact Oz.bl|exact Oz.sm (by lia)
   exact al x this
  refine⟨trivial,?_⟩;simp! only[jbS,jg2 h1.g];refine jaf f1 (by lia) (by decide) (by decide) λr G2 a2 b2 f2 s2=>⟨by decide,?_⟩
  have h2:=h1.sm f1 s2;rw[jkk h2.g];refine⟨Ya0 (show _<=1000 by have:=h2.l;lia) (by decide),λG3 p3=>?_⟩
  refine hk _ _ ⟨ws++[.tup [.str "split",x,.int r,endU,endU]],some x,rfl,h2.app (Oz.ou ?_) p3,f2.off ⟨h2.hd.nf,h2.hd.nc⟩ p3,λb v hb e hp=>p3.sm _ _ hp (s2 _ _ hb (s1 b v hb e hp))⟩;refine Oz.tup ?_ (by simp)
  refine al1 (Oz.str (by decide +kernel)) (al1 (Ob.up (hx' _) (by decide) (by decide)) ?_)
  repeat' first|exact al0|refine al1 ?_ ?_|exact jbc|exact Oz.sm (by lia)
theorem mn_6  {X: KX}{W: Nat}(hf:Fn G f c n)(hn:n<=900000000)(w8:W<=8)(sl:ss.length<=24)(h:Tl G p f c ws m)(hm:m<=800)(q:∀p ws G',G' p=some (.lst ws)->(ws.length<=2000/\∀u∈ws,Ou G' u)->Fn G' f c (n+5)->(∀b v,b≠f->G b=some v->G' b=some v)->Q (.loc p) G') :
  jam T.gs (jac T (k+2)) jbU ⟨λ_ G'=>Q .non G',Q,λx _ G'=>X x G'⟩ [some (.loc f),some (jal xs ss),some (.int W),some endU,some (jeb W),some (.loc p),o6,o7,o8] G:=by
 have hu:∀u∈ws,Ou G u:=λx hx=>Ob.sa (h.o x hx) ja5;simp! only[jbU];refine⟨by decide,by decide,by decide,by decide,by decide,λp1 G1 n1=>?_⟩
 refine jex (n1.sa _ _ h.g) n1.at h.l (by simp) (by lia) (λx hx=>(hu x hx).sa n1.sa) ?_ λp2 G2 n2 l2 h2=>?_
 ·repeat' first|exact al0|refine al1 (Oz.ou ?_) ?_|refine al1 ?_ ?_|exact jbc|exact Oz.str (by decide +kernel)|exact Oz.sm (by lia)|refine Oz.tup ?_ (by simp)
 simp! only[jdl];refine⟨by decide,by decide,by decide,by decide,by decide,by decide,by decide,by decide,by decide,λp3 G3 n3=>?_⟩
 refine jex (n3.sa _ _ n2.at) n3.at l2 (by simp) (by simp;lia) (λx hx=>((h2 x hx).sa n2.sa).sa n3.sa) ?_ λp4 G4 n4 l4 h4=>?_
 ·repeat' first|exact al0|refine al1 (Oz.ou ?_) ?_|refine al1 ?_ ?_|exact jbc|exact Oz.str (by decide +kernel)|exact Oz.sm (by lia)|refine Oz.tup ?_ (by simp)
 simp! only[jdk];refine⟨by decide,by decide,by decide,by decide,by decide,by decide,by decide,by decide,by decide,λp5 G5 n5=>?_⟩
 refine jex (n5.sa _ _ n4.at) n5.at l4 (by simp) (by simp;lia) (λx hx=>((h4 x hx).sa n4.sa).sa n5.sa) ?_ λp6 G6 n6 l6 h6=>?_
 ·repeat' first|exact al0|refine al1 (Oz.ou ?_) ?_|refine al1 ?_ ?_|exact jbc|exact Oz.str (by decide +kernel)|exact Oz.sm (by lia)|refine Oz.tup ?_ (by simp)
 have S:Sa G G6:=((((n1.sa.trans n2.sa).trans n3.sa).trans n4.sa).trans n5.sa).trans n6.sa;have S5:Sa G G5:=(((n1.sa.trans n2.sa).trans n3.sa).trans n4.sa).trans n5.sa;have f6:=hf.sa S;have a6:=(hf.sa S5).away n6;refine mn_9 (k:=k) (m:=820) f6 hn w8 sl ⟨n6.at,⟨a6.1,a6.2,_,n6.at⟩,?_,?_⟩ (by decide) λp' ws' G7 g7 h7 f7 s7=>q p' ws' G7 g7 h7 f7 λb v hb e=>s7 b v hb (S _ _ e) λz=>?_
 ·simp at l6 ⊢;lia
 ·exact λu hu=>(h6 u hu).sa n6.hid
 ·have:=S5 _ _ e;rw[z,n6.no]at this;cases this


theorem Oz.mono     (h:Oz n G a)(e:n<=m):Oz m G a:=by
 refine Ob.up h ?_ e
 induction e with
 |refl=>exact Yae _
 |@step j _ ih=>exact Yaf ih (show wz j<=6*wz j by lia)
theorem mn_5  {X: KX}{W: Nat}(hf:Fn G f c n)(hn:n<=800000000)(w0:0<W)(w8:W<=8)(sl:ss.length<=24)(h:Tl G p f c ws m)(hm:m<=700)(q:∀p' ws G',G' p'=some (.lst ws)->(ws.length<=2000/\∀u∈ws,Ou G' u)->Fn G' f c (n+20)->(∀b v,b≠f->G b=some v->b≠p->G' b=some v)->Q (.loc p') G') :
  jam T.gs (jac T (k+2)) jbW ⟨λ_ G'=>Q .non G',Q,λx _ G'=>X x G'⟩ [some (.loc f),some (jal xs ss),some (.int W),some endU,some (jeb W),some (.loc p),o6,o7,o8] G:=by
 simp! only[jbW];refine⟨⟨by decide,by decide,by decide⟩,by decide,by decide,?_⟩
 refine jbr (λi ς G'=>∃ws o6,ς=[some (.loc f),some (jal xs ss),some (.int W),some endU,some (jeb W),some (.loc p),o6,o7,o8]/\Tl G' p f c ws (m+i)/\Fn G' f c (n+i)/\∀b v,b≠f->G b=some v->b≠p->G' b=some v) ?_ ?_ ⟨ws,o6,rfl,h,hf,λb v _ e _=>e⟩
 ·rintro ς G' ⟨ws,o6,rfl,h1,f1,s1⟩;refine⟨trivial,?_⟩;refine mn_6 (k:=k) f1 (by show n+9<=_;lia) w8 sl h1 (by show m+9<=800;lia) λp' ws' G2 g2 hw f2 s2=>?_
  exact q p' ws' G2 g2 hw (f2.mono (by show n+9+5<=_;lia)) λb v hb e hp=>s2 b v hb (s1 b v hb e hp)
 ·rintro i x ς G' K hx ⟨ws,o6,rfl,h1,f1,s1⟩ hk;have hi:i<9:=by
   have:=(List.getElem?_eq_some_iff.mp hx).1;simpa using this
  have hx':∀G,Oz 1 G x:=by
   have:=Yay hx;intro G;refine(?_:∀u∈_,Oz 1 G u) x this
   repeat' first|exact al0|refine al1 ?_ ?_|exact Oz.non|exact Oz.bl|exact Oz.str (by decide +kernel)|exact Oz.sm (by lia)|exact Oz.int (by decide)|refine Oz.tup ?_ (by simp)
  refine⟨trivial,?_⟩;simp! only[jbV,jg2 h1.g];refine⟨by decide,λp2 G2 n2=>?_⟩
  refine jaf (f1.new n2) (by lia) (by decide) (by decide) λr G3 a3 b3 f3 s3=>?_
  refine jgl (s3 _ _ (f1.away n2).1 n2.at) a3 b3 λu hu=>?_;have hu':∀G,Oz 3 G u:=λG=>by
   refine(?_:∀u∈_,Oz 3 G u) u hu;exact al1 (jir (by lia)) (al1 jbc al0)
  simp! only[];refine⟨by decide,?_⟩
  have s13:=(Sm.refl.nw n2).trans s3;have h2:=h1.sm f1 s13;rw[jkk h2.g];refine⟨Ya0 (show _<=1000 by have:=h2.l;lia) (by decide),λG4 p4=>?_⟩
  refine hk _ _ ⟨ws++[.tup [.str "stay",x,u,endU]],some x,rfl,h2.app (Oz.ou ?_) p4,f3.off ⟨h2.hd.nf,h2.hd.nc⟩ p4,λb v hb e hp=>p4.sm _ _ hp (s13 _ _ hb (s1 b v hb e hp))⟩;refine Oz.tup ?_ (by simp)
  exact al1 (Oz.str (by decide +kernel)) (al1 ((hx' _).mono (by decide)) (al1 (hu' _) (al1 jbc al0)))
theorem jlO  {W: Nat}(hf:Fn G f c n)(hn:n<=800000000)(w0:0<W)(w8:W<=8)(sl:ss.length<=24)(q:∀p' ws G',G' p'=some (.lst ws)->(ws.length<=2000/\∀u∈ws,Ou G' u)->Fn G' f c (n+20)->Sm f G G'->Q (.loc p') G') :
  jac T (k+3) jeA [.loc f,jal xs ss,.int W] G Q X:=by
 refine⟨rfl,?_⟩;simp! only[jeI,jad,Yaa];refine⟨by decide,?_⟩
 simp! only[jdp];refine⟨by decide,by decide,by decide,by decide,?_⟩
 simp! only[jdo];refine⟨by decide,by decide,λp1 G1 n1=>⟨by decide,by decide,by decide,by decide,by decide,by decide,by decide,λp2 G2 n2=>?_⟩⟩
 have h2:∀u∈[endU,.tup [.str "enough",.int 0],.loc p1,.tup [.str "Enough"],.str "enough",.tup [.str "prices",.tup []],.tup [.str "ring",.tup []],.tup [.str "ring"],jeb W],Ou G2 u:=by
  have g1:=n2.sa _ _ n1.at
  have o1:Oz 1 G2 (.loc p1):=Oz.lst g1 (al1 (Oz.str (by decide +kernel)) al0) (by simp)
  have o2:Oz 3 G2 (jeb W):=jir (by lia)
  repeat' first|exact al0|refine al1 (Oz.ou ?_) ?_|refine al1 ?_ ?_|exact jbc|exact o1.mono (by decide)|exact o2.mono (by decide)|exact Oz.str (by decide +kernel)|exact Oz.sm (by lia)|refine Oz.tup ?_ (by simp)
 simp! only[jdn];refine⟨by decide,by decide,λp3 G3 n3=>⟨by decide,λp4 G4 n4=>⟨by decide,by decide,by decide,by decide,λp5 G5 n5=>⟨by decide,by decide,by decide,by decide,λp6 G6 n6=>?_⟩⟩⟩⟩
 have g3:=((n4.sa.trans n5.sa).trans n6.sa) _ _ n3.at
 have g4:=(n5.sa.trans n6.sa) _ _ n4.at
 have g5:=n6.sa _ _ n5.at
 have s26:=((n3.sa.trans n4.sa).trans n5.sa).trans n6.sa;refine jex (s26 _ _ n2.at) n6.at (m:=9) (Yae _) (by simp) (by decide) (λx hx=>(h2 x hx).sa s26) ?_ λp7 G7 n7 l7 h7=>?_
 ·have o1:Oz 1 G6 (.loc p3):=Oz.lst g3 al0 (by simp)
  have o2:Oz 1 G6 (.loc p4):=Oz.dic g4;have o3:Oz 1 G6 (.loc p5):=Oz.lst g5 (al1 (Oz.str (by decide +kernel)) al0) (by simp)
  repeat' first|exact al0|refine al1 (Oz.ou ?_) ?_|refine al1 ?_ ?_|exact jbc|exact o1.mono (by decide)|exact o2.mono (by decide)|exact o3.mono (by decide)|exact Oz.non|exact Oz.bl|exact Oz.str (by decide +kernel)|exact Oz.sm (by lia)|refine Oz.tup ?_ (by simp)
 simp! only[jdm];refine⟨by decide,by decide,by decide,λp8 G8 n8=>⟨by decide,by decide,λp9 G9 n9=>?_⟩⟩
 have s79:=n8.sa.trans n9.sa;have g8:=n9.sa _ _ n8.at
 refine jex (s79 _ _ n7.at) n9.at l7 (by simp) (by simp) (λx hx=>((h7 x hx).sa n7.sa).sa s79) ?_ λpa Ga na la ha=>?_
 ·have o1:Oz 2 G9 (.loc p8):=by
   refine Oz.lst g8 ?_ (by simp)
   repeat' first|exact al0|refine al1 ?_ ?_|exact jbc|exact Oz.str (by decide +kernel)|exact Oz.sm (by lia)
  repeat' first|exact al0|refine al1 (Oz.ou ?_) ?_|refine al1 ?_ ?_|exact jbc|exact o1.mono (by decide)|exact Oz.non|exact Oz.str (by decide +kernel)|exact Oz.sm (by lia)|refine Oz.tup ?_ (by simp)
 have S9:Sa G G9:=(((n1.sa.trans n2.sa).trans s26).trans n7.sa).trans s79;have S:Sa G Ga:=S9.trans na.sa;have aa:=(hf.sa S9).away na;refine mn_5 (k:=k) (m:=40) (hf.sa S) hn w0 w8 sl ⟨na.at,⟨aa.1,aa.2,_,na.at⟩,?_,λu hu=>(ha u hu).sa na.hid⟩ (by decide) λp' ws' G7 g7 h7 f7 s7=>q p' ws' G7 g7 h7 f7 λb v hb e=>s7 b v hb (S _ _ e) λz=>?_
 ·simpa using la
 ·have:=S9 _ _ e;rw[z,na.no]at this;cases this


theorem jl6  {X: KX}(hC:C47 xs ss P bs)(o:Ou G x)(hz:∀G' Q ,Sa G G'->Q (.str z) G'->jhu [x] G' Q)(kk:∀o10 o11 G',Sa G G'->K [some (.loc a),some (.loc f),o2,o3,some (.int P),some (jal xs ss),some (jak bs),some x,some (.str z),some (.int cnt),o10,o11] G') :
  jam T.gs (jac T (k+67)) jaV ⟨K,Q,λx _ G'=>X x G'⟩ [some (.loc a),some (.loc f),o2,o3,some (.int P),some (jal xs ss),some (jak bs),some x,some (.str z),some (.int cnt),o10,o11] G:=by
 simp! only[jaV];refine jnP (k:=k) hC (o.up (Yae _) (by decide)) (by decide) λo1 G1 s1 ho1 hm1=>?_
 simp! only[jbF];refine jlM (k:=k+57) hC ((o.sa s1).up (Yae _) (by decide)) (by decide) λo2 G2 s2 ho2 _=>?_
 have e:=Out.uniq ho1 ho2;subst e;obtain⟨t,ht⟩:=joD (λx m e=>jjT ho1 e) hm1;simp! only[jbE];refine ht _ _ (ht _ _ (jiG ?_));rw[if_neg (by decide)]
 simp! only[];refine hz _ _ (s1.trans s2) (jiG ?_);rw[if_neg (by decide)]
 exact kk _ _ _ (s1.trans s2)
theorem jiS  {X: KX}(hC:C47 xs ss P bs)(hf:Fn G f c n)(hn:n<=100000000)(o:Ou G x)(kk:∀o8 o9 o10 o11 G',Fn G' f c (n+1)->Sm f G G'->K [some (.loc a),some (.loc f),o2,o3,some (.int P),some (jal xs ss),some (jak bs),some x,o8,o9,o10,o11] G') :
  jam T.gs (jac T (k+67)) jbl ⟨K,Q,λx _ G'=>X x G'⟩ [some (.loc a),some (.loc f),o2,o3,some (.int P),some (jal xs ss),some (jak bs),some x,o8,o9,o10,o11] G:=by
 obtain⟨d,t,b⟩:=id o;obtain⟨z,hz⟩:∃z:Str,∀(G':Gp) (Q:K1),Sm f G G'->Q (.str z) G'->jhu [x] G' Q:=⟨_,λG' Q s q=>⟨d,(t.mono hf s).du,(b.ft (by decide)).mono (by decide) (by decide),q⟩⟩
 simp! only[jbl];refine hz _ _ Sm.refl ?_;simp! only[jcN];refine jaf hf (by lia) (by decide) (by decide) λr G1 a1 b1 f1 s1=>⟨by decide,?_⟩
 refine jbr (λi ς G'=>Sa G1 G'/\∃o9 o10 o11,ς=[some (.loc a),some (.loc f),o2,o3,some (.int P),some (jal xs ss),some (jak bs),some x,some (.str z),o9,o10,o11]) ?_ ?_ ⟨Sa.refl,_,_,_,rfl⟩
 ·rintro ς G' ⟨s2,o9,o10,o11,rfl⟩;exact⟨trivial,kk _ _ _ _ _ (f1.sa s2) (s1.trans s2.sm)⟩
 ·rintro i y ς G' K hy ⟨s2,o9,o10,o11,rfl⟩ hk;obtain⟨cnt,rfl⟩:∃cnt,y=.int cnt:=by
   have:=Yay hy;simp only[YaM,Yau,or_false]at this;rcases this with rfl|rfl|rfl<;>exact⟨_,rfl⟩
  refine⟨trivial,?_⟩;refine jl6 (k:=k) hC (((o.mn hf s1).sa s2)) (λG' Q s q=>hz G' Q (s1.trans (s2.trans s).sm) q) λo10 o11 G3 s3=>hk _ _ ⟨s2.trans s3,_,_,_,rfl⟩
theorem jpz  {X: KX}(hC:C47 xs ss P bs)(hW:bs.length=W)(w0:0<W)(hf:Fn G f c n)(hn:n<=90000000)(kk:∀o7 o8 o9 o10 o11 G',Fn G' f c (n+2100)->K [some (.loc a),some (.loc f),o2,some (.int W),some (.int P),some (jal xs ss),some (jak bs),o7,o8,o9,o10,o11] G') :
  jam T.gs (jac T (k+67)) jc9 ⟨K,Q,λx _ G'=>X x G'⟩ [some (.loc a),some (.loc f),o2,some (.int W),some (.int P),some (jal xs ss),some (jak bs),o7,o8,o9,o10,o11] G:=by
 have w8:=hC.w8;simp! only[jc9];refine jlO (k:=k+64) hf (by lia) w0 (by lia) hC.sl λp ws G1 g1 hw f1 s1=>?_
 rw[it_l g1];have pf:p≠f:=jnY f1 g1;refine jbr (λi ς G'=>Sm f G1 G'/\Fn G' f c (n+20+i)/\∃o7 o8 o9 o10 o11,ς=[some (.loc a),some (.loc f),o2,some (.int W),some (.int P),some (jal xs ss),some (jak bs),o7,o8,o9,o10,o11]) ?_ ?_ ⟨Sm.refl,f1,_,_,_,_,_,rfl⟩
 ·rintro ς G2 ⟨s2,f2,o7,o8,o9,o10,o11,rfl⟩;exact⟨by unfold lsG;rw[s2 _ _ pf g1],kk _ _ _ _ _ _ (f2.mono (by lia))⟩
 ·rintro i x ς G2 Kz hx ⟨s2,f2,o7,o8,o9,o10,o11,rfl⟩ hk;have hi:=(List.getElem?_eq_some_iff.mp hx).1;refine⟨by unfold lsG;rw[s2 _ _ pf g1],?_⟩
  exact jiS (k:=k) hC f2 (by lia) ((hw.2 x (Yay hx)).mn f1 s2) λo8 o9 o10 o11 G3 f3 s3=>hk _ _ ⟨s2.trans s3,f3,_,_,_,_,_,rfl⟩
theorem jn9  {X: KX}{W: Nat}(w0:0<W)(w8:W<=8)(p1:1<=P)(p2:P<=600)(hf:Fn G f c n)(hn:n<=80000000)(kk:∀o3 o4 o5 o6 o7 o8 o9 o10 o11 G',Fn G' f c (n+4000)->K [some (.loc a),some (.loc f),o2,o3,o4,o5,o6,o7,o8,o9,o10,o11] G') :
  jam T.gs (jac T (k+67)) jda ⟨K,Q,λx _ G'=>X x G'⟩ [some (.loc a),some (.loc f),o2,some (.int W),some (.int P),o5,o6,o7,o8,o9,o10,o11] G:=by
 simp! only[jda];refine jiC (k:=k+64) hf (by lia) p1 p2 w0 w8 (by decide) (by decide) λxs ss G1 xl nm sl so f1 s1=>?_
 simp! only[jeu];refine⟨by lia,by lia,by rw[jaH];exact Yaf (show _<=8 by lia) (by decide),?_⟩
 refine jaC (λi acc G'=>Fn G' f c (n+1000+i)/\∃bs:List Int,acc=bs.map .int/\bs.length=i) ?_ ?_ ⟨f1,[],rfl,rfl⟩
 ·rintro acc G2 ⟨f2,bs,rfl,bl⟩;rw[jaH]at f2 bl;have bl:bs.length=W:=by lia
  refine⟨trivial,λpb G3 n3=>?_⟩;simp! only[];rw[it_l n3.at];exact jpz (k:=k) ⟨bl ▸ so,sl,p1,p2,by lia,by lia⟩ bl w0 (f2.new n3) (by lia) λ_ _ _ _ _ G' f'=>kk _ _ _ _ _ _ _ _ _ _ (f'.mono (by lia))
 ·rintro i x acc G2 Kz hx ⟨f2,bs,rfl,bl⟩ hk _;obtain⟨hi,rfl⟩:=jbn hx;refine⟨trivial,?_⟩;simp! only[];exact jaf f2 (by lia) (by lia) (by lia) λr G3 a3 b3 f3 s3=>hk _ _ ⟨f3,bs++[r],by simp,by simp[bl]⟩
def Rest  (a f:Addr)(ς:Sg):Prop:=∃o2 o3 o4 o5 o6 o7 o8 o9 o10 o11:Option U,ς=[some (.loc a),some (.loc f),o2,o3,o4,o5,o6,o7,o8,o9,o10,o11]
theorem jj6  {X: KX}(hf:Fn G f c n)(hn:n<=70000000)(kk:∀ς G',Rest a f ς->Fn G' f c (n+5000)->K ς G') :
  jam T.gs (jac T (k+67)) jdb ⟨K,Q,λx _ G'=>X x G'⟩ [some (.loc a),some (.loc f),o2,o3,o4,o5,o6,o7,o8,o9,o10,o11] G:=by
 simp! only[jdb];refine jnM (k:=k+65) hf (by lia) λW P G1 w0 w8 p1 p30 f1 s1=>?_
 simp! only[];refine⟨trivial,?_⟩;simp! only[jev];refine jaf f1 (by lia) (by decide) (by decide) λr G2 a2 b2 f2 s2=>?_
 simp! only[];by_cases hr:r=0
 ·rw[if_pos (by simpa using hr)]
  simp! only[];refine⟨by decide,trivial,?_⟩
  exact jn9 (k:=k) (W:=8) (P:=600) (by decide) (by decide) (by decide) (by decide) f2 (by lia) λ_ _ _ _ _ _ _ _ _ G' f'=>kk _ _ ⟨_,_,_,_,_,_,_,_,_,_,rfl⟩ (f'.mono (by lia))
 ·rw[if_neg (by simpa using hr)]
  exact jn9 (k:=k) w0 w8 p1 (by lia) f2 (by lia) λ_ _ _ _ _ _ _ _ _ G' f'=>kk _ _ ⟨_,_,_,_,_,_,_,_,_,_,rfl⟩ (f'.mono (by lia))
theorem law_ir   a (ns:List Int)(hl:ns.length<=63):jac T 300 jlY [.loc a] (G0 a ns) (λu _=>u=.bl true) λ_ _=>False:=by
 refine⟨rfl,?_⟩;simp! only[jou,jad,Yaa,jh7];refine jnN (k:=298) (show G0 a ns a=some (.fro (ns.map .int))from if_pos rfl) λf c G1 f1=>?_;refine⟨by decide,by decide,?_⟩
 refine jbr (λi ς G'=>Rest a f ς/\Fn G' f c (5000*i)) ?_ ?_ ⟨⟨_,_,_,_,_,_,_,_,_,_,rfl⟩,f1⟩
 ·rintro ς G2 ⟨_,_⟩;exact⟨trivial,trivial⟩
 ·rintro i x ς G2 K hx ⟨⟨o2,o3,o4,o5,o6,o7,o8,o9,o10,o11,rfl⟩,f2⟩ hk;obtain⟨hi,rfl⟩:=jbn hx;have hi:i<3:=hi;exact⟨trivial,jj6 (k:=232) f2 (by lia) λς G' h1 h2=>hk _ _ ⟨h1,h2⟩⟩

def sts  : List Stmt:=[s_is_whole,s_is_within,s_top_of,s_window_of,s_windows_of,s_with_window,s_is_work_of,s_is_entry,s_ends_of,s_is_ring,s_entry_sums,s_sums_of,s_ring_bars,s_has_shape,s_split_fault,s_ring_fault,s_node_fault,s_split_sides,s_look_through,s_stay_fault,s_stay_sides,s_move_sides,s_lets_moved,s_law_fed,s_law_draw,s_law_fit,s_law_any_span,s_law_a_plan,s_law_window,s_law_all_windows,s_law_is_from,s_law_two_ends,s_law_is_ring,s_law_sums_of,s_law_up,s_law_is_barred,s_law_with,s_law_word_of,s_law_few_shape,s_law_mover_end,s_law_mover,s_law_moved_due,s_law_moved_told,s_law_menu,s_law]
theorem prog_rep  : jeX T 0 T.funs sts=true:=by decide +kernel
theorem je5  : NestS T sts jca s_lets_moved jdj jcw s_look_through jbs jbt where
 sc:=jig (by decide +kernel)
 body:=rfl
 text:=⟨_,_,_,_,_,_,_,_,rfl,by unfold tabs;exact List.Mem.head _,by decide +kernel,rfl,by decide +kernel,rfl⟩
 fi:=rfl
 fl:=rfl
 gl:=rfl
 gs:=rfl
 dbg:=⟨rfl,rfl,rfl,rfl⟩
 caps:=λi j e=>by
  rcases i with _|i
  ·cases e;exact⟨by decide,_,rfl,rfl,rfl,rfl⟩
  rcases i with _|i
  ·cases e;exact⟨by decide,_,rfl,rfl,rfl,rfl⟩
  rcases i with _|i
  ·cases e;exact⟨by decide,_,rfl,rfl,rfl,rfl⟩
  rcases i with _|i
  ·cases e;exact⟨by decide,_,rfl,rfl,rfl,rfl⟩
  cases e
 fge:=by decide
 frees:=by decide +kernel
 as2:=rfl
 cs:=jox (by decide +kernel)
 args:=⟨rfl,rfl⟩
 ann:=λ_=>rfl
 bind:=λ_ _ _ _ _ _ _ _=>rfl
 ff:=rfl
 ffs:=rfl
 ffb:=rfl
 ffp:=rfl
 ffl:=rfl
 hdv:=rfl
 dvb:=rfl
 dvN:=rfl
 hdc:=rfl
 dcp:=rfl
 dcN:=by decide
 ok:=by decide +kernel
 un:=rfl
 hs:=⟨jaF,rfl,rfl⟩
 nz:=λgs Δ ς G Q1 E hz h=>by
  obtain⟨_,_,h⟩:=jb0 (show slot ς 4 _ from h);obtain⟨_,_,h⟩:=jb0 (show slot ς 0 _ from h);obtain⟨_,_,h⟩:=jb0 (show slot ς 1 _ from h);exact hz _ _ _ _ _ h
theorem prog_eq  : jfr T sts 0 T.funs sts:=⟨rfl,rfl,rfl,rfl,rfl,rfl,rfl,rfl,rfl,rfl,rfl,rfl,rfl,rfl,rfl,rfl,rfl,rfl,rfl,rfl,rfl,rfl,⟨rfl,_,_,_,_,je5⟩,rfl,rfl,rfl,rfl,rfl,rfl,rfl,rfl,rfl,rfl,rfl,rfl,rfl,rfl,rfl,rfl,rfl,rfl,rfl,rfl,rfl,rfl,trivial⟩
theorem tabsU  : ∀t∈tabs,∀t'∈tabs,t.1=t'.1->t=t':=by
 intro t h t' h' e;simp only[tabs,YaM,Yau,or_false]at h;simp only[tabs,YaM,Yau,or_false]at h';rcases h with rfl<;>rcases h' with rfl<;>first|rfl|exact absurd e (by decide)
noncomputable def tbs  : List (Str×Addr×Addr):=[("lets_moved",274,270)]
theorem walk  {l:YdK}{K:Params->Yab}(hn:l.most=some 63)(hdf:d.params.defaults=[])
  (hY:∀(w:World) (h:Heap),YP w h->(K w.params).In h) (hK:∀w:World,((K w.params).all λp=>p.2.cls != .type "list")=true) (hsy:∀w:World,∃o,(K w.params).lookup Ya3=some o/\o.cls=.type "dict")
  (hT:∀(w:World),∀t∈tbs,(∃dr,(PyProof.Rows.recsOf q).find? (λe=>e.name==t.1)=some dr)/\PySem.W.tabIn (K w.params) t.1=some (t.2.1,t.2.2)/\(K w.params).lookup t.2.2=none)
  (F:∀(w:World) mg fa (h:Heap),(K w.params).In h->h.Ns Yaw mg->mg d.name=some (.ref fa)->
   ∃fd ,(∀(s:Shared) u ,BindsTo s fd ⟨[u],[]⟩ [("_law_script",u)])/\∀base ,(K w.params).In base->base.Ns Yaw mg->BmAt mg base->FnOk l.prog w (K w.params) mg base (CX1 l.prog w) 302 fa fd ["_law_script"] (lSp (K w.params) (jac T 300 jlY))) :
  YfQ q loose XP YP l.row.toRowW d [] (λf vs=>Yfq f vs):=
 L2.walk_ofT (n:=63) (k:=302) (x := "_law_script") (CX:=λw=>CX1 l.prog w) (sp:=λw=>lSp (K w.params) (jac T 300 jlY)) hK hT hn (by decide) hdf ⟨rfl,by decide,by decide,rfl⟩ hY hsy F (λw _ _ a ns hl hO hS=>law_sp (by decide) hO hS (law_ir a ns hl)) λ_ _ _ _ _ ⟨_,_,_,_,_,_,_,_,_,_,z⟩=>z
end Z
namespace Y
open PySem L2
set_option maxHeartbeats 0
noncomputable def q0  : Str := "/claim/cut.py"
noncomputable def q1  : Str := "<module>"
noncomputable def q2  : Str := "__main__"
noncomputable def q3  : Str := "TooMany"
noncomputable def q4  : Str := "__init__"
noncomputable def q5  : Str := "NoRing.__init__"
noncomputable def q6  : Str := "beatplans.errors"
noncomputable def q7  : Str := "NoRing"
noncomputable def q8  : Str := "NoPaper.__init__"
noncomputable def q9  : Str := "__module__"
noncomputable def q10  : Str := "__firstlineno__"
noncomputable def q11  : Str := "__static_attributes__"
noncomputable def q12  : Str := "__weakref__"
noncomputable def q13  : Str := "__doc__"
noncomputable def q14  : Str := "self"
noncomputable def q15  : Str := "word"
noncomputable def q16  : Str := "TooMany.__init__"
noncomputable def q17  : Str := "__name__"
noncomputable def q18  : Str := "__package__"
noncomputable def q19  : Str := "__loader__"
noncomputable def q20  : Str := "__spec__"
noncomputable def q21  : Str := "__annotations__"
noncomputable def q22  : Str := "__builtins__"
noncomputable def q23  : Str := "__file__"
noncomputable def q24  : Str := "__cached__"
noncomputable def q25  : Str := "PlanError"
noncomputable def q26  : Str := "NoPaper"
noncomputable def q27  : Str := "__qualname__"
noncomputable def q28  : Str := "at"
noncomputable def q29  : Str := "is_whole"
noncomputable def q30  : Str := "beats"
noncomputable def q31  : Str := "windows"
noncomputable def q32  : Str := "entry"
noncomputable def q33  : Str := "apart"
noncomputable def q34  : Str := "s"
noncomputable def q35  : Str := "way"
noncomputable def q36  : Str := "least"
noncomputable def q37  : Str := "most"
noncomputable def q38  : Str := "top_of"
noncomputable def q39  : Str := "beatplans.plans"
noncomputable def q40  : Str := "ring_bars"
noncomputable def q41  : Str := "beatplans.rings"
noncomputable def q42  : Str := "is_entry"
noncomputable def q43  : Str := "is_within"
noncomputable def q44  : Str := "sums_of"
noncomputable def q45  : Str := "is_work_of"
noncomputable def q46  : Str := "NoText"
noncomputable def q47  : Str := "ends_of"
noncomputable def q48  : Str := "entry_sums"
noncomputable def q49  : Str := "row"
noncomputable def q50  : Str := "plan"
noncomputable def q51  : Str := "one"
noncomputable def q52  : Str := "other"
noncomputable def q53  : Str := "low"
noncomputable def q54  : Str := "high"
noncomputable def q55  : Str := "NoRow.__init__"
noncomputable def q56  : Str := "period"
noncomputable def q57  : Str := "ring"
noncomputable def q58  : Str := "windows_of"
noncomputable def q59  : Str := "is_ring"
noncomputable def q60  : Str := "beatplans.cases"
noncomputable def q61  : Str := "NoRow"
noncomputable def q62  : Str := "window_of"
noncomputable def q63  : Str := "with_window"
noncomputable def q64  : Str := "MOST_ENTRIES"
noncomputable def q65  : Str := "has_shape"
noncomputable def q66  : Str := "NoText.__init__"
noncomputable def q67  : Str := "stays"
noncomputable def q68  : Str := "thing"
noncomputable def q69  : Str := "start"
noncomputable def q70  : Str := "end"
noncomputable def q71  : Str := "node"
noncomputable def q72  : Str := "many"
noncomputable def q73  : Str := "window"
noncomputable def q74  : Str := "stay_fault"
noncomputable def q75  : Str := "_law_all_windows"
noncomputable def q76  : Str := "_law_draw"
noncomputable def q77  : Str := "_law_up"
noncomputable def q78  : Str := "law_beatplans_k47_no_cases_of_moving"
noncomputable def q79  : Str := "count"
noncomputable def q80  : Str := "fault_of"
noncomputable def q81  : Str := "_law_moved_due"
noncomputable def q82  : Str := "_law_is_ring"
noncomputable def q83  : Str := "_law_any_span"
noncomputable def q84  : Str := "stay_sides"
noncomputable def q85  : Str := "beatplans.movechecker"
noncomputable def q86  : Str := "_law_mover"
noncomputable def q87  : Str := "_law_is_from"
noncomputable def q88  : Str := "_law_fit"
noncomputable def q89  : Str := "_law_moved_told"
noncomputable def q90  : Str := "_law_sums_of"
noncomputable def q91  : Str := "_law_plan"
noncomputable def q92  : Str := "_law_cycle"
noncomputable def q93  : Str := "_law_s"
noncomputable def q94  : Str := "_law_word"
noncomputable def q95  : Str := "_law_one"
noncomputable def q96  : Str := "_law_other"
noncomputable def q97  : Str := "_law_low"
noncomputable def q98  : Str := "_law_high"
noncomputable def q99  : Str := "_law_top"
noncomputable def q100  : Str := "_law_feed"
noncomputable def q101  : Str := "_law_works"
noncomputable def q102  : Str := "look_through"
noncomputable def q103  : Str := "moved"
noncomputable def q104  : Str := "work"
noncomputable def q105  : Str := "kept_cases"
noncomputable def q106  : Str := "moved_cases"
noncomputable def q107  : Str := "_law_least"
noncomputable def q108  : Str := "_law_most"
noncomputable def q109  : Str := "_law_thing"
noncomputable def q110  : Str := "ring_fault"
noncomputable def q111  : Str := "lets_moved"
noncomputable def q112  : Str := "_law_beats"
noncomputable def q113  : Str := "_law_count"
noncomputable def q114  : Str := "_law_found"
noncomputable def q115  : Str := "e"
noncomputable def q116  : Str := "_law_others"
noncomputable def q117  : Str := "_law_a_plan"
noncomputable def q118  : Str := "_law_word_of"
noncomputable def q119  : Str := "move_sides"
noncomputable def q120  : Str := "_law_two_ends"
noncomputable def q121  : Str := "_law_with"
noncomputable def q122  : Str := "node_fault"
noncomputable def q123  : Str := "_law_number"
noncomputable def q124  : Str := "split_fault"
noncomputable def q125  : Str := "_law_window"
noncomputable def q126  : Str := "_law_few_shape"
noncomputable def q127  : Str := "split_sides"
noncomputable def q128  : Str := "_law_fed"
noncomputable def q129  : Str := "_law_is_barred"
noncomputable def q130  : Str := "_law_mover_end"
noncomputable def q131  : Str := "_law_windows"
noncomputable def q132  : Str := "cut"
noncomputable def q133  : Str := "lower"
noncomputable def q134  : Str := "upper"
noncomputable def q135  : Str := "_law_book"
noncomputable def q136  : Str := "_law_node"
noncomputable def q137  : Str := "_law_state"
noncomputable def q138  : Str := "_law_stays"
noncomputable def q139  : Str := "_law_gone"
noncomputable def q140  : Str := "_law_at"
noncomputable def q141  : Str := "_law_below"
noncomputable def q142  : Str := "sides_of"
noncomputable def q143  : Str := "waiting"
noncomputable def q144  : Str := "held"
noncomputable def q145  : Str := "_law_many"
noncomputable def q146  : Str := "_law_digit"
noncomputable def q147  : Str := "_law_cells"
noncomputable def q148  : Str := "_law_cell"
noncomputable def q149  : Str := "_law_mixed"
noncomputable def q150  : Str := "_law_words"
noncomputable def q151  : Str := "_law_gap"
noncomputable def q152  : Str := "_law_far"
noncomputable def q153  : Str := "_law_ring"
noncomputable def q154  : Str := "_law_sums"
noncomputable def q155  : Str := "_law_entry"
noncomputable def q156  : Str := "_law_ends"
noncomputable def q157  : Str := "_law_script"
noncomputable def q158  : Str := "law"
noncomputable def q159  : Str := "_law_menu"
noncomputable def q160  : Str := "_law_end"
noncomputable def q161  : Str := "_law_home"
noncomputable def q162  : Str := "_law_some"
noncomputable def q163  : Str := "_law_work"
noncomputable def q164  : Str := "_law_chain"
noncomputable def h0  : List Value:=[]
def o0  : Obj:=sO .none h0
def o1  : Obj:=kO q0 q1 q1 182 1 0 0 11 false .none .none .none 185
def o2  : Obj:=rO [(some (.ref 13)),(some (.ref 3)),(some (.ref 3)),none,(some (.str q2 164)),none,(some (.ref 0))]
def o3  : Obj:=cO q3 [(.ref 24)] [(.ref 63),(.ref 24),(.type "ValueError"),(.type "Exception"),(.type "BaseException"),(.type "object")] 62 [] [(some (.ref 47)),none,(some (.str q3 234)),(some (.str q3 242)),(some (.builtin "ValueError.__new__")),(some (.bool true))]
def o4  : Obj:=fO q4 q5 (jaD (Z.top 4) 0) (.str q6 187) 78
def o5  : Obj:=tO [(.ref 24)]
def o6  : Obj:=tO [(.type "ValueError")]
def o7  : Obj:=kO q0 q7 q7 261 13 0 0 69 false .none .none .none 264
def o8  : Obj:=gO q4 q8 (jaD (Z.top 2) 0)
def o9  (P:Params):Obj:=dO (dE P q9 196 (.str q6 187)::dE P q10 200 (.int 2 199)::dE P q11 201 (.ref 22)::dE P q12 203 (.ref 25)::dE P q13 204 .none::[]) 3
def o10  : Obj:=sO (.type "builtin_function_or_method") [(.builtin "type.__prepare__"),(.type "type")]
def o11  : Obj:=sO (.type "super") [(.ref 82),(.ref 82),(.ref 82)]
def o12  : Obj:=sO .none [(.int 11 0),(.int 4 0),(.ref 59)]
def o13  : Obj:=tO [(.str q14 274),(.str q15 275)]
def o14  (P:Params):Obj:=dO (dE P q9 214 (.str q6 187)::dE P q10 218 (.int 4 217)::dE P q4 227 (.ref 41)::dE P q11 230 (.ref 42)::dE P q13 231 .none::[]) 2
def o15  : Obj:=kO q0 q4 q16 246 11 2 3 54 true (.ref 56) (.ref 57) (.ref 58) 251
def o16  : Obj:=sO (.type "builtin_function_or_method") [(.builtin "object.__init_subclass__"),(.ref 24)]
def g18  (P:Params):List Ydv:=dE P q13 166 .none::dE P q18 167 .none::dE P q19 168 (.builtin "__main__.__loader__#opaque")::dE P q20 169 .none::dE P q21 170 (.ref 6)::dE P q22 171 (.ref 4)::dE P q23 173 (.str q0 172)::dE P q24 174 .none::dE P q25 206 (.ref 24)::dE P q26 233 (.ref 44)::dE P q3 258 (.ref 63)::dE P q7 283 (.ref 82)::[]
def o17  (P:Params):Obj:=dO (dE P q17 165 (.str q6 187)::g18 P) 13
def o18  : Obj:=sO (.type "builtin_function_or_method") [(.builtin "object.__init_subclass__"),(.ref 63)]
def o19  : Obj:=kO q0 q26 q26 209 4 0 0 31 false .none .none .none 212
def o20  (P:Params):Obj:=dO (dE P q9 266 (.str q6 187)::dE P q10 270 (.int 13 269)::dE P q4 278 (.ref 79)::dE P q11 280 (.ref 80)::dE P q13 281 .none::[]) 2
def o21  (P:Params):Obj:=dO (dE P q9 241 (.str q6 187)::dE P q27 243 (.str q3 242)::dE P q10 245 (.int 9 244)::dE P q4 253 (.ref 60)::dE P q11 255 (.ref 61)::[]) 5
def o22  (P:Params):Obj:=dO (dE P q9 196 (.str q6 187)::dE P q27 198 (.str q25 197)::dE P q10 200 (.int 2 199)::dE P q11 201 (.ref 22)::[]) 4
def o23  : Obj:=fO q4 q8 (jaD (Z.top 2) 0) (.str q6 187) 40
def o24  : Obj:=sO (.type "getset_descriptor") [(.str q12 202),(.ref 24),(.builtin "ExceptionGroup.__weakref__"),.none]
def o25  : Obj:=tO [(.str q14 222),(.str q15 223),(.str q28 224)]
def o26  : Obj:=rO [(some (.ref 52)),(some (.ref 3)),(some (.ref 49)),none,(some (.str q6 187)),none,(some (.ref 0))]
def o27  : Obj:=rO [(some (.ref 20)),(some (.ref 3)),(some (.ref 17)),none,(some (.str q6 187)),none,(some (.ref 0))]
def o28  : Obj:=gO q4 q5 (jaD (Z.top 4) 0)
def o29  : Obj:=sO (.type "super") [(.ref 44),(.ref 44),(.ref 44)]
def o30  : Obj:=tO [(.str q15 254)]
def o31  : Obj:=sO (.type "super") [(.ref 63),(.ref 63),(.ref 63)]
def o32  : Obj:=sO .none [(.int 6 0),(.int 4 0),(.ref 40)]
def o33  : Obj:=tO [(.str q15 279)]
def o34  : Obj:=rO [(some (.ref 71)),(some (.ref 3)),(some (.ref 68)),none,(some (.str q6 187)),none,(some (.ref 0))]
def o35  : Obj:=kO q0 q4 q8 219 6 3 3 35 true (.ref 37) (.ref 38) (.ref 39) 225
def o36  : Obj:=tO [(.str q14 249),(.str q15 250)]
def o37  : Obj:=cO q25 [(.type "ValueError")] [(.ref 24),(.type "ValueError"),(.type "Exception"),(.type "BaseException"),(.type "object")] 23 [(.ref 44),(.ref 63),(.ref 82)] [(some (.ref 15)),none,(some (.str q25 189)),(some (.str q25 197)),(some (.builtin "ValueError.__new__")),(some (.bool true))]
def o38  (P:Params):Obj:=dO (dE P q9 266 (.str q6 187)::dE P q27 268 (.str q7 267)::dE P q10 270 (.int 13 269)::dE P q4 278 (.ref 79)::dE P q11 280 (.ref 80)::[]) 5
def o39  : Obj:=sO (.type "builtin_function_or_method") [(.builtin "object.__init_subclass__"),(.ref 82)]
def o40  : Obj:=kO q0 q3 q3 236 9 0 0 50 false .none .none .none 239
def o41  : Obj:=kO q0 q25 q25 191 2 0 0 18 false .none .none .none 194
def o42  : Obj:=cO q26 [(.ref 24)] [(.ref 44),(.ref 24),(.type "ValueError"),(.type "Exception"),(.type "BaseException"),(.type "object")] 43 [] [(some (.ref 28)),none,(some (.str q26 207)),(some (.str q26 215)),(some (.builtin "ValueError.__new__")),(some (.bool true))]
def o43  : Obj:=fO q4 q16 (jaD (Z.top 3) 0) (.str q6 187) 59
def h46  : List Value:=h0++[(.int 2 0),(.int 0 0),(.ref 20),(.int 4 0),(.int 0 0),(.ref 33),(.int 9 0),(.int 0 0),(.ref 52),(.int 13 0),(.int 0 0),(.ref 71)]
def o44  : Obj:=sO .none h46
def o45  : Obj:=rO [(some (.ref 33)),(some (.ref 3)),(some (.ref 30)),none,(some (.str q6 187)),none,(some (.ref 0))]
def o46  : Obj:=cO q7 [(.ref 24)] [(.ref 82),(.ref 24),(.type "ValueError"),(.type "Exception"),(.type "BaseException"),(.type "object")] 81 [] [(some (.ref 66)),none,(some (.str q7 259)),(some (.str q7 267)),(some (.builtin "ValueError.__new__")),(some (.bool true))]
def o47  : Obj:=tO [(.str q28 228),(.str q15 229)]
def o48  : Obj:=gO q4 q16 (jaD (Z.top 3) 0)
def o49  : Obj:=sO (.type "super") [(.ref 24),(.ref 24),(.ref 24)]
def o50  : Obj:=sO .none [(.int 15 0),(.int 4 0),(.ref 78)]
def o51  : Obj:=kO q0 q4 q5 271 15 2 3 73 true (.ref 75) (.ref 76) (.ref 77) 276
def o52  : Obj:=sO (.type "builtin_function_or_method") [(.builtin "object.__init_subclass__"),(.ref 44)]
def o53  (P:Params):Obj:=dO (dE P q9 241 (.str q6 187)::dE P q10 245 (.int 9 244)::dE P q4 253 (.ref 60)::dE P q11 255 (.ref 61)::dE P q13 256 .none::[]) 2
def o54  (P:Params):Obj:=dO (dE P q9 214 (.str q6 187)::dE P q27 216 (.str q26 215)::dE P q10 218 (.int 4 217)::dE P q4 227 (.ref 41)::dE P q11 230 (.ref 42)::[]) 5
def o55  : Obj:=gO q29 q29 (Z.top 8)
def o56  : Obj:=tO [(.str q30 443),(.str q31 444),(.str q32 445),(.str q33 446),(.str q34 447),(.str q35 448),(.str q36 449),(.str q37 450)]
def o57  : Obj:=fO q38 q38 (Z.top 10) (.str q39 336) 142
def o58  : Obj:=fO q40 q40 (Z.top 22) (.str q41 393) 206
def o59  : Obj:=kO q0 q42 q42 405 45 3 3 170 true (.ref 172) (.ref 173) (.ref 174) 416
def o60  : Obj:=kO q0 q43 q43 345 29 3 3 130 true (.ref 132) (.ref 133) (.ref 134) 351
def o61  : Obj:=kO q0 q44 q44 454 75 5 3 196 true .none .none (.ref 198) 457
def o62  : Obj:=gO q45 q45 (Z.top 16)
def o63  : Obj:=sO (.type "builtin_function_or_method") [(.builtin "object.__init_subclass__"),(.ref 101)]
def o64  (P:Params):Obj:=dO (dE P q9 291 (.str q6 187)::dE P q27 293 (.str q46 292)::dE P q10 295 (.int 17 294)::dE P q4 304 (.ref 98)::dE P q11 307 (.ref 99)::[]) 5
def o65  : Obj:=fO q47 q47 (Z.top 18) (.str q41 393) 182
def o66  (P:Params):Obj:=dO (dE P q9 318 (.str q6 187)::dE P q10 322 (.int 22 321)::dE P q4 330 (.ref 117)::dE P q11 332 (.ref 118)::dE P q13 333 .none::[]) 2
def o67  : Obj:=fO q48 q48 (Z.top 20) (.str q41 393) 194
def o68  : Obj:=tO [(.str q49 305),(.str q15 306)]
def o69  : Obj:=tO [(.str q50 422),(.str q32 423),(.str q34 424),(.str q35 425),(.str q15 426),(.str q51 427),(.str q52 428),(.str q53 429),(.str q54 430)]
def o70  : Obj:=gO q4 q55 (jaD (Z.top 6) 0)
def o71  : Obj:=tO [(.str q50 357),(.str q56 358),(.str q34 359),(.str q15 360),(.str q51 361),(.str q52 362),(.str q53 363),(.str q54 364)]
def o72  : Obj:=tO [(.str q50 463),(.str q56 464),(.str q30 465),(.str q31 466),(.str q57 467),(.str q36 468),(.str q37 469)]
def o73  : Obj:=fO q58 q58 (Z.top 12) (.str q39 336) 154
def o74  : Obj:=rO [(some (.ref 90)),(some (.ref 3)),(some (.ref 87)),none,(some (.str q6 187)),none,(some (.ref 0))]
def o75  : Obj:=kO q0 q59 q59 434 61 3 3 184 true .none .none (.ref 186) 437
def g79  (P:Params):List Ydv:=g18 P++[dE P q46 310 (.ref 101),dE P q61 335 (.ref 120),dE P q29 344 (.ref 129),dE P q43 353 (.ref 136),dE P q38 367 (.ref 143),dE P q62 377 (.ref 150),dE P q58 383 (.ref 155),dE P q63 392 (.ref 162),dE P q64 396 (.int 60 395),dE P q45 404 (.ref 169),dE P q42 418 (.ref 176),dE P q47 433 (.ref 183),dE P q59 439 (.ref 188),dE P q48 453 (.ref 195),dE P q44 459 (.ref 200),dE P q40 472 (.ref 207),dE P q65 483 (.ref 214)]
def o76  (P:Params):Obj:=dO (dE P q17 165 (.str q60 473)::g79 P) 30
def o77  : Obj:=fO q29 q29 (Z.top 8) (.str q39 336) 128
def o78  : Obj:=gO q48 q48 (Z.top 20)
def o79  : Obj:=kO q0 q63 q63 384 39 3 3 156 true (.ref 158) (.ref 159) (.ref 160) 390
def o80  : Obj:=kO q0 q4 q66 296 19 3 3 92 true (.ref 94) (.ref 95) (.ref 96) 302
def o81  : Obj:=tO [(.str q14 326),(.str q49 327)]
def o82  : Obj:=fO q45 q45 (Z.top 16) (.str q41 393) 168
def o83  : Obj:=gO q58 q58 (Z.top 12)
def o84  : Obj:=sO .none [(.int 19 0),(.int 4 0),(.ref 97)]
def o85  : Obj:=sO (.type "super") [(.ref 120),(.ref 120),(.ref 120)]
def o86  : Obj:=tO [(.str q67 400),(.str q68 401)]
def o87  : Obj:=cO q46 [(.ref 24)] [(.ref 101),(.ref 24),(.type "ValueError"),(.type "Exception"),(.type "BaseException"),(.type "object")] 100 [] [(some (.ref 85)),none,(some (.str q46 284)),(some (.str q46 292)),(some (.builtin "ValueError.__new__")),(some (.bool true))]
def o88  : Obj:=kO q0 q62 q62 368 34 3 3 144 true (.ref 146) (.ref 147) (.ref 148) 375
def o89  : Obj:=kO q0 q65 q65 475 82 3 3 208 true (.ref 210) (.ref 211) (.ref 212) 481
def o90  : Obj:=gO q47 q47 (Z.top 18)
def o91  : Obj:=fO q4 q55 (jaD (Z.top 6) 0) (.str q6 187) 116
def o92  : Obj:=gO q38 q38 (Z.top 10)
def o93  : Obj:=gO q40 q40 (Z.top 22)
def o94  : Obj:=kO q0 q61 q61 313 22 0 0 107 false .none .none .none 316
def o95  : Obj:=tO [(.str q68 341)]
def o96  : Obj:=kO q0 q29 q29 338 27 1 3 123 true (.ref 125) (.ref 126) (.ref 127) 342
def o97  : Obj:=gO q63 q63 (Z.top 13)
def o98  : Obj:=gO q4 q66 (jaD (Z.top 5) 0)
def o99  : Obj:=fO q42 q42 (Z.top 17) (.str q41 393) 175
def o100  : Obj:=fO q43 q43 (Z.top 9) (.str q39 336) 135
def o101  : Obj:=fO q44 q44 (Z.top 21) (.str q41 393) 199
def o102  : Obj:=kO q0 q45 q45 397 43 2 3 163 true (.ref 165) (.ref 166) (.ref 167) 402
def o103  : Obj:=cO q61 [(.ref 24)] [(.ref 120),(.ref 24),(.type "ValueError"),(.type "Exception"),(.type "BaseException"),(.type "object")] 119 [] [(some (.ref 104)),none,(some (.str q61 311)),(some (.str q61 319)),(some (.builtin "ValueError.__new__")),(some (.bool true))]
def o104  : Obj:=cO q25 [(.type "ValueError")] [(.ref 24),(.type "ValueError"),(.type "Exception"),(.type "BaseException"),(.type "object")] 23 [(.ref 44),(.ref 63),(.ref 82),(.ref 101),(.ref 120)] [(some (.ref 15)),none,(some (.str q25 189)),(some (.str q25 197)),(some (.builtin "ValueError.__new__")),(some (.bool true))]
def o105  : Obj:=tO [(.str q68 348),(.str q36 349),(.str q37 350)]
def o106  (P:Params):Obj:=dO (dE P q9 291 (.str q6 187)::dE P q10 295 (.int 17 294)::dE P q4 304 (.ref 98)::dE P q11 307 (.ref 99)::dE P q13 308 .none::[]) 2
def o107  : Obj:=gO q62 q62 (Z.top 11)
def o108  : Obj:=gO q65 q65 (Z.top 24)
def o109  : Obj:=kO q0 q4 q55 323 24 2 3 111 true (.ref 113) (.ref 114) (.ref 115) 328
def o110  : Obj:=tO [(.str q50 408),(.str q67 409),(.str q68 410),(.str q15 411),(.str q69 412),(.str q70 413),(.str q34 414),(.str q35 415)]
def o111  : Obj:=sO .none [(.int 24 0),(.int 4 0),(.ref 116)]
def o112  : Obj:=fO q59 q59 (Z.top 19) (.str q41 393) 187
def h117  : List Value:=h46++[(.int 17 0),(.int 0 0),(.ref 90),(.int 22 0),(.int 0 0),(.ref 109),(.int 27 0),(.int 0 0),(.ref 128),(.int 29 0),(.int 0 0),(.ref 135),(.int 31 0),(.int 0 0),(.ref 142),(.int 34 0),(.int 0 0),(.ref 149),(.int 37 0),(.int 0 0),(.ref 154),(.int 39 0),(.int 0 0),(.ref 161),(.int 43 0),(.int 0 0),(.ref 168),(.int 45 0),(.int 0 0),(.ref 175),(.int 55 0),(.int 0 0),(.ref 182),(.int 61 0),(.int 0 0),(.ref 187),(.int 68 0),(.int 0 0),(.ref 194),(.int 75 0),(.int 0 0),(.ref 199),(.int 78 0),(.int 0 0),(.ref 206),(.int 82 0),(.int 0 0),(.ref 213)]
def o113  : Obj:=sO .none h117
def o114  : Obj:=kO q0 q48 q48 440 68 3 3 189 true (.ref 191) (.ref 192) (.ref 193) 451
def o115  : Obj:=fO q63 q63 (Z.top 13) (.str q39 336) 161
def o116  : Obj:=fO q4 q66 (jaD (Z.top 5) 0) (.str q6 187) 97
def o117  : Obj:=tO [(.str q50 371),(.str q56 372),(.str q34 373),(.str q53 374)]
def o118  : Obj:=tO [(.str q71 478),(.str q15 479),(.str q72 480)]
def o119  (P:Params):Obj:=dO (dE P q9 318 (.str q6 187)::dE P q27 320 (.str q61 319)::dE P q10 322 (.int 22 321)::dE P q4 330 (.ref 117)::dE P q11 332 (.ref 118)::[]) 5
def o120  : Obj:=kO q0 q58 q58 378 37 2 3 151 true .none .none (.ref 153) 381
def o121  : Obj:=kO q0 q46 q46 286 17 0 0 88 false .none .none .none 289
def o122  : Obj:=gO q59 q59 (Z.top 19)
def o123  : Obj:=sO (.type "builtin_function_or_method") [(.builtin "object.__init_subclass__"),(.ref 120)]
def o124  : Obj:=gO q43 q43 (Z.top 9)
def o125  : Obj:=gO q44 q44 (Z.top 21)
def o126  : Obj:=sO (.type "super") [(.ref 101),(.ref 101),(.ref 101)]
def o127  : Obj:=fO q62 q62 (Z.top 11) (.str q39 336) 149
def o128  : Obj:=fO q65 q65 (Z.top 24) (.str q60 473) 213
def o129  : Obj:=kO q0 q47 q47 419 55 2 3 177 true (.ref 179) (.ref 180) (.ref 181) 431
def o130  : Obj:=tO [(.str q49 331)]
def o131  : Obj:=kO q0 q38 q38 354 31 3 3 137 true (.ref 139) (.ref 140) (.ref 141) 365
def o132  : Obj:=kO q0 q40 q40 460 78 5 3 201 true (.ref 203) (.ref 204) (.ref 205) 470
def o133  : Obj:=gO q42 q42 (Z.top 17)
def o134  : Obj:=rO [(some (.ref 109)),(some (.ref 3)),(some (.ref 106)),none,(some (.str q6 187)),none,(some (.ref 0))]
def o135  : Obj:=tO [(.str q31 387),(.str q34 388),(.str q73 389)]
def o136  : Obj:=tO [(.str q14 299),(.str q49 300),(.str q15 301)]
def o137  : Obj:=kO q0 q74 q74 556 118 4 3 250 true (.ref 252) (.ref 253) (.ref 254) 563
def o138  : Obj:=kO q0 q75 q75 670 193 2 3 316 true .none .none (.ref 318) 673
def o139  : Obj:=gO q76 q76 (Z.top 37)
def o140  : Obj:=fO q77 q77 (Z.top 47) (.str q78 602) 350
def o141  : Obj:=tO [(.str q50 589),(.str q56 590),(.str q30 591),(.str q79 592),(.str q68 593),(.str q80 594)]
def o142  : Obj:=kO q0 q81 q81 790 272 5 3 394 true (.ref 396) (.ref 397) (.ref 398) 800
def o143  : Obj:=gO q82 q82 (Z.top 45)
def o144  : Obj:=fO q83 q83 (Z.top 39) (.str q78 602) 302
def o145  : Obj:=fO q84 q84 (Z.top 32) (.str q85 554) 262
def o146  : Obj:=gO q86 q86 (Z.top 53)
def o147  : Obj:=fO q87 q87 (Z.top 43) (.str q78 602) 326
def o148  : Obj:=kO q0 q88 q88 624 159 5 3 290 true (.ref 292) (.ref 293) (.ref 294) 635
def o149  : Obj:=tO [(.str q50 515),(.str q56 516),(.str q30 517),(.str q67 518),(.str q31 519),(.str q71 520)]
def o150  : Obj:=fO q89 q89 (Z.top 55) (.str q78 602) 406
def o151  : Obj:=kO q0 q90 q90 697 214 3 3 338 true (.ref 340) (.ref 341) (.ref 342) 708
def o152  : Obj:=tO [(.str q91 658),(.str q92 659),(.str q93 660),(.str q94 661),(.str q95 662),(.str q96 663),(.str q97 664),(.str q98 665),(.str q99 666)]
def o153  : Obj:=tO [(.str q100 753),(.str q101 754)]
def o154  : Obj:=gO q102 q102 (Z.top 29)
def o155  : Obj:=tO [(.str q31 569),(.str q67 570),(.str q103 571),(.str q71 572),(.str q15 573),(.str q104 574),(.str q105 575),(.str q106 576)]
def o156  : Obj:=tO [(.str q107 679),(.str q108 680),(.str q109 681)]
def o157  : Obj:=kO q0 q110 q110 500 90 6 3 222 true (.ref 224) (.ref 225) (.ref 226) 509
def o158  : Obj:=fO q111 q111 (Z.top 34) (.str q85 554) 274
def o159  : Obj:=tO [(.str q91 806),(.str q92 807),(.str q112 808),(.str q113 809),(.str q109 810),(.str q114 811),(.str q115 812),(.str q116 813)]
def o160  : Obj:=kO q0 q117 q117 649 171 4 3 304 true .none .none (.ref 306) 652
def o161  : Obj:=kO q0 q118 q118 741 231 2 3 366 true (.ref 368) (.ref 369) (.ref 370) 747
def o162  : Obj:=kO q0 q119 q119 580 125 2 3 264 true .none .none (.ref 266) 583
def o163  : Obj:=kO q0 q120 q120 685 197 3 3 328 true .none .none (.ref 330) 688
def o164  : Obj:=tO [(.str q100 641),(.str q92 642),(.str q95 643),(.str q96 644),(.str q97 645)]
def o165  : Obj:=gO q121 q121 (Z.top 49)
def o166  : Obj:=fO q122 q122 (Z.top 27) (.str q60 473) 234
def o167  : Obj:=tO [(.str q92 714),(.str q123 715)]
def o168  : Obj:=gO q124 q124 (Z.top 25)
def o169  : Obj:=fO q125 q125 (Z.top 41) (.str q78 602) 314
def o170  : Obj:=fO q126 q126 (Z.top 51) (.str q78 602) 378
def g176  (P:Params):List Ydv:=g79 P++[dE P q124 499 (.ref 221),dE P q110 511 (.ref 228),dE P q122 523 (.ref 235),dE P q127 538 (.ref 242),dE P q102 553 (.ref 249),dE P q74 565 (.ref 256),dE P q84 579 (.ref 263),dE P q119 585 (.ref 268),dE P q111 601 (.ref 275),dE P q128 610 (.ref 282),dE P q76 623 (.ref 289),dE P q88 637 (.ref 296),dE P q83 648 (.ref 303),dE P q117 654 (.ref 308),dE P q125 669 (.ref 315),dE P q75 675 (.ref 320),dE P q87 684 (.ref 327),dE P q120 690 (.ref 332),dE P q82 696 (.ref 337),dE P q90 710 (.ref 344),dE P q77 718 (.ref 351),dE P q129 730 (.ref 358),dE P q121 740 (.ref 365),dE P q118 749 (.ref 372),dE P q126 757 (.ref 379),dE P q130 770 (.ref 386),dE P q86 789 (.ref 393),dE P q81 802 (.ref 400),dE P q89 816 (.ref 407)]
def o171  (P:Params):Obj:=dO (dE P q17 165 (.str q78 602)::g176 P) 59
def o172  : Obj:=kO q0 q130 q130 758 241 4 3 380 true (.ref 382) (.ref 383) (.ref 384) 768
def o173  : Obj:=fO q76 q76 (Z.top 37) (.str q78 602) 288
def o174  : Obj:=gO q111 q111 (Z.top 34)
def o175  : Obj:=fO q82 q82 (Z.top 45) (.str q78 602) 336
def o176  : Obj:=kO q0 q127 q127 524 100 2 3 236 true (.ref 238) (.ref 239) (.ref 240) 536
def o177  : Obj:=fO q86 q86 (Z.top 53) (.str q78 602) 392
def o178  : Obj:=tO [(.str q131 734),(.str q93 735),(.str q107 736),(.str q108 737)]
def o179  : Obj:=gO q122 q122 (Z.top 27)
def o180  : Obj:=kO q0 q128 q128 604 141 1 3 276 true (.ref 278) (.ref 279) (.ref 280) 608
def o181  : Obj:=tO [(.str q50 487),(.str q31 488),(.str q71 489),(.str q15 490),(.str q34 491),(.str q132 492),(.str q133 493),(.str q134 494),(.str q36 495),(.str q37 496)]
def o182  : Obj:=gO q125 q125 (Z.top 41)
def o183  : Obj:=gO q126 q126 (Z.top 51)
def o184  : Obj:=fO q102 q102 (Z.top 29) (.str q60 473) 248
def o185  : Obj:=gO q84 q84 (Z.top 32)
def o186  : Obj:=tO [(.str q135 774),(.str q136 775),(.str q137 776),(.str q131 777),(.str q138 778),(.str q139 779),(.str q140 780),(.str q94 781),(.str q109 782),(.str q141 783),(.str q107 784),(.str q108 785),(.str q114 786)]
def o187  : Obj:=gO q87 q87 (Z.top 43)
def o188  : Obj:=kO q0 q129 q129 719 226 4 3 352 true (.ref 354) (.ref 355) (.ref 356) 728
def o189  : Obj:=gO q89 q89 (Z.top 55)
def o190  : Obj:=tO [(.str q68 542),(.str q69 543),(.str q80 544),(.str q142 545),(.str q143 546),(.str q28 547),(.str q71 548),(.str q144 549),(.str q15 550)]
def o191  : Obj:=gO q83 q83 (Z.top 39)
def o192  : Obj:=fO q121 q121 (Z.top 49) (.str q78 602) 364
def o193  : Obj:=tO [(.str q100 614),(.str q145 615),(.str q146 616),(.str q147 617),(.str q140 618),(.str q148 619),(.str q149 620)]
def o194  : Obj:=gO q77 q77 (Z.top 47)
def o195  : Obj:=fO q124 q124 (Z.top 25) (.str q60 473) 220
def o196  : Obj:=fO q74 q74 (Z.top 31) (.str q85 554) 255
def o197  : Obj:=gO q130 q130 (Z.top 52)
def o198  : Obj:=fO q75 q75 (Z.top 42) (.str q78 602) 319
def o199  : Obj:=kO q0 q76 q76 611 143 2 3 283 true (.ref 285) (.ref 286) (.ref 287) 621
def o200  : Obj:=tO [(.str q50 503),(.str q56 504),(.str q30 505),(.str q67 506),(.str q31 507),(.str q57 508)]
def o201  : Obj:=tO [(.str q50 595),(.str q56 596),(.str q30 597),(.str q79 598)]
def o202  : Obj:=fO q81 q81 (Z.top 54) (.str q78 602) 399
def o203  : Obj:=kO q0 q82 q82 691 207 3 3 333 true .none .none (.ref 335) 694
def o204  : Obj:=tO [(.str q150 744),(.str q136 745),(.str q145 746)]
def o205  : Obj:=gO q127 q127 (Z.top 28)
def o206  : Obj:=kO q0 q86 q86 771 248 3 3 387 true (.ref 389) (.ref 390) (.ref 391) 787
def o207  : Obj:=fO q88 q88 (Z.top 38) (.str q78 602) 295
def o208  : Obj:=gO q128 q128 (Z.top 36)
def o209  : Obj:=fO q90 q90 (Z.top 46) (.str q78 602) 343
def o210  : Obj:=kO q0 q102 q102 539 106 4 3 243 true (.ref 245) (.ref 246) (.ref 247) 551
def o211  : Obj:=tO [(.str q100 627),(.str q92 628),(.str q112 629),(.str q95 630),(.str q96 631),(.str q151 632),(.str q152 633),(.str q97 634)]
def o212  : Obj:=gO q129 q129 (Z.top 48)
def o213  : Obj:=fO q110 q110 (Z.top 26) (.str q60 473) 227
def o214  : Obj:=tO [(.str q112 700),(.str q131 701),(.str q153 702),(.str q154 703),(.str q155 704),(.str q156 705),(.str q97 706),(.str q98 707)]
def o215  : Obj:=fO q117 q117 (Z.top 40) (.str q78 602) 307
def o216  : Obj:=fO q118 q118 (Z.top 50) (.str q78 602) 371
def o217  : Obj:=fO q119 q119 (Z.top 33) (.str q85 554) 267
def o218  : Obj:=tO [(.str q91 793),(.str q92 794),(.str q112 795),(.str q113 796),(.str q109 797),(.str q135 798),(.str q114 799)]
def o219  : Obj:=fO q120 q120 (Z.top 44) (.str q78 602) 331
def o220  : Obj:=kO q0 q121 q121 731 229 4 3 359 true (.ref 361) (.ref 362) (.ref 363) 738
def o221  : Obj:=kO q0 q124 q124 484 84 3 3 215 true (.ref 217) (.ref 218) (.ref 219) 497
def o222  : Obj:=tO [(.str q50 559),(.str q67 560),(.str q103 561),(.str q104 562)]
def h229  : List Value:=h117++[(.int 84 0),(.int 0 0),(.ref 220),(.int 90 0),(.int 0 0),(.ref 227),(.int 94 0),(.int 0 0),(.ref 234),(.int 100 0),(.int 0 0),(.ref 241),(.int 106 0),(.int 0 0),(.ref 248),(.int 118 0),(.int 0 0),(.ref 255),(.int 122 0),(.int 0 0),(.ref 262),(.int 125 0),(.int 0 0),(.ref 267),(.int 130 0),(.int 0 0),(.ref 274),(.int 141 0),(.int 0 0),(.ref 281),(.int 143 0),(.int 0 0),(.ref 288),(.int 159 0),(.int 0 0),(.ref 295),(.int 166 0),(.int 0 0),(.ref 302),(.int 171 0),(.int 0 0),(.ref 307),(.int 189 0),(.int 0 0),(.ref 314),(.int 193 0),(.int 0 0),(.ref 319),(.int 195 0),(.int 0 0),(.ref 326),(.int 197 0),(.int 0 0),(.ref 331),(.int 207 0),(.int 0 0),(.ref 336),(.int 214 0),(.int 0 0),(.ref 343),(.int 224 0),(.int 0 0),(.ref 350),(.int 226 0),(.int 0 0),(.ref 357),(.int 229 0),(.int 0 0),(.ref 364),(.int 231 0),(.int 0 0),(.ref 371),(.int 236 0),(.int 0 0),(.ref 378),(.int 241 0),(.int 0 0),(.ref 385),(.int 248 0),(.int 0 0),(.ref 392),(.int 272 0),(.int 0 0),(.ref 399),(.int 276 0),(.int 0 0),(.ref 406)]
def o223  : Obj:=sO .none h229
def o224  : Obj:=fO q130 q130 (Z.top 52) (.str q78 602) 385
def o225  : Obj:=tO [(.str q92 722),(.str q112 723),(.str q131 724),(.str q153 725),(.str q107 726),(.str q108 727)]
def o226  : Obj:=gO q110 q110 (Z.top 26)
def o227  : Obj:=kO q0 q111 q111 586 130 5 3 269 true (.ref 271) (.ref 272) (.ref 273) 599
def o228  : Obj:=gO q117 q117 (Z.top 40)
def o229  : Obj:=gO q118 q118 (Z.top 50)
def o230  : Obj:=fO q127 q127 (Z.top 28) (.str q60 473) 241
def o231  : Obj:=gO q119 q119 (Z.top 33)
def o232  : Obj:=gO q120 q120 (Z.top 44)
def o233  : Obj:=kO q0 q122 q122 512 94 6 3 229 true (.ref 231) (.ref 232) (.ref 233) 521
def o234  : Obj:=fO q128 q128 (Z.top 36) (.str q78 602) 281
def o235  : Obj:=kO q0 q125 q125 655 189 3 3 309 true (.ref 311) (.ref 312) (.ref 313) 667
def o236  : Obj:=kO q0 q126 q126 750 236 1 3 373 true (.ref 375) (.ref 376) (.ref 377) 755
def o237  : Obj:=kO q0 q84 q84 566 122 4 3 257 true (.ref 259) (.ref 260) (.ref 261) 577
def o238  : Obj:=kO q0 q87 q87 676 195 3 3 321 true (.ref 323) (.ref 324) (.ref 325) 682
def o239  : Obj:=gO q88 q88 (Z.top 38)
def o240  : Obj:=fO q129 q129 (Z.top 48) (.str q78 602) 357
def o241  : Obj:=tO [(.str q157 607)]
def o242  : Obj:=kO q0 q89 q89 803 276 5 3 401 true (.ref 403) (.ref 404) (.ref 405) 814
def o243  : Obj:=gO q90 q90 (Z.top 46)
def o244  : Obj:=gO q81 q81 (Z.top 54)
def o245  : Obj:=kO q0 q83 q83 638 166 4 3 297 true (.ref 299) (.ref 300) (.ref 301) 646
def o246  : Obj:=tO [(.str q31 527),(.str q71 528),(.str q15 529),(.str q34 530),(.str q132 531),(.str q133 532),(.str q134 533),(.str q36 534),(.str q37 535)]
def o247  : Obj:=kO q0 q77 q77 711 224 2 3 345 true (.ref 347) (.ref 348) (.ref 349) 716
def o248  : Obj:=gO q75 q75 (Z.top 42)
def o249  : Obj:=tO [(.str q135 761),(.str q136 762),(.str q137 763),(.str q140 764),(.str q131 765),(.str q138 766),(.str q139 767)]
def o250  : Obj:=gO q74 q74 (Z.top 31)
def o251  : Obj:=fO q158 q158 (Z.top 57) (.str q78 602) 418
def g259  (P:Params):List Ydv:=g176 P++[dE P q159 831 (.ref 414),dE P q158 837 (.ref 419)]
def o252  (P:Params):Obj:=dO (dE P q17 165 (.str q78 602)::g259 P) 61
def o253  : Obj:=gO q158 q158 (Z.top 57)
def o254  : Obj:=kO q0 q159 q159 817 285 3 3 408 true (.ref 410) (.ref 411) (.ref 412) 829
def o255  : Obj:=gO q159 q159 (Z.top 56)
def h264  : List Value:=h229++[(.int 285 0),(.int 0 0),(.ref 413),(.int 302 0),(.int 0 0),(.ref 418)]
def o256  : Obj:=sO .none h264
def o257  : Obj:=kO q0 q158 q158 832 302 1 3 415 true .none .none (.ref 417) 835
def o258  : Obj:=tO [(.str q100 820),(.str q91 821),(.str q101 822),(.str q160 823),(.str q161 824),(.str q162 825),(.str q163 826),(.str q93 827),(.str q164 828)]
def o259  : Obj:=fO q159 q159 (Z.top 56) (.str q78 602) 413
def Ha  (P:Params):Heap:=⟨⟨YbJ P::Ybl P::YbI P::Yfd P::YbH P::YbG P::YbF P::YbE P::YbD P::YbC P::Ybt P::tE::o0::o1::o2::[]⟩,{}⟩
def t0  (P:Params):Yb6:=(bN (YbJ P) (bN (Ybl P) (bN (Yfd P) (bL (YbE P)) (bL tE)) (bN (YbG P) (bL (YbC P)) (bL o1))) (bN (YbI P) (bN (YbH P) (bL (YbD P)) (bL o0)) (bN (YbF P) (bL (Ybt P)) (bL o2))))
def t1  (P:Params):Yb6:=(bN (YbJ P) (bN (Ybl P) (bN (o17 P) (bN (YbE P) (bN o6 (bN tE (bL o3) bE) (bN o5 (bL o4) bE)) (bN (o9 P) (bN o8 (bL o7) bE) (bL nO))) (bN tE (bN nO (bN tE (bL o10) bE) (bN o12 (bL o11) bE)) (bN o16 (bN (o14 P) (bL o13) bE) (bL o15)))) (bN (YbG P) (bN (YbC P) (bN (o22 P) (bN o19 (bL o18) bE) (bN (o21 P) (bL (o20 P)) bE)) (bN o24 (bN o23 (bL tE) bE) (bL tE))) (bN o1 (bN o27 (bN o25 (bL tE) bE) (bL o26)) (bN o10 (bN o29 (bL o28) bE) (bL o30))))) (bN (YbI P) (bN (YbH P) (bN (YbD P) (bN o10 (bN o32 (bL o31) bE) (bN o10 (bL o33) bE)) (bN o37 (bN o35 (bL o34) bE) (bL o36))) (bN o44 (bN o41 (bN nO (bL (o38 P)) bE) (bN o40 (bL o39) bE)) (bN o5 (bN o42 (bL tE) bE) (bL o43)))) (bN (YbF P) (bN (Ybt P) (bN tE (bN o45 (bL o5) bE) (bN tE (bL o46) bE)) (bN o49 (bN o47 (bL nO) bE) (bL o48))) (bN o2 (bN tE (bN tE (bL o50) bE) (bL tE)) (bN (o54 P) (bN o52 (bL o51) bE) (bL (o53 P)))))))
def t2  (P:Params):Yb6:=(bN (YbJ P) (bN (Ybl P) (bN (o76 P) (bN (YbE P) (bN o6 (bN tE (bN o3 (bL o55) (bL o56)) (bN tE (bL tE) bE)) (bN o5 (bN o4 (bL o57) (bL o58)) (bN tE (bL o59) bE))) (bN (o9 P) (bN o8 (bN o7 (bL o60) (bL o61)) (bN o63 (bL o62) bE)) (bN nO (bN (o64 P) (bL tE) bE) (bN (o66 P) (bL o65) bE)))) (bN tE (bN nO (bN tE (bN o10 (bL nO) (bL o67)) (bN o68 (bL tE) bE)) (bN o12 (bN o11 (bL tE) (bL tE)) (bN o70 (bL o69) bE))) (bN o16 (bN (o14 P) (bN o13 (bL o71) (bL o72)) (bN tE (bL nO) bE)) (bN o15 (bN o74 (bL o73) bE) (bN tE (bL o75) bE))))) (bN (YbG P) (bN (YbC P) (bN (o22 P) (bN o19 (bN o18 (bL o77) (bL o78)) (bN o80 (bL o79) bE)) (bN (o21 P) (bN (o20 P) (bL nO) (bL nO)) (bN o81 (bL tE) bE))) (bN o24 (bN o23 (bN tE (bL tE) (bL tE)) (bN o10 (bL o82) bE)) (bN tE (bN o84 (bL o83) bE) (bN o85 (bL nO) bE)))) (bN o1 (bN o27 (bN o25 (bN tE (bL tE) (bL nO)) (bN o87 (bL o86) bE)) (bN o26 (bN o5 (bL o88) (bL o89)) (bN o91 (bL o90) bE))) (bN o10 (bN o29 (bN o28 (bL o92) (bL o93)) (bN o94 (bL tE) bE)) (bN o30 (bN nO (bL nO) bE) (bN o95 (bL tE) bE)))))) (bN (YbI P) (bN (YbH P) (bN (YbD P) (bN o10 (bN o32 (bN o31 (bL o96) (bL tE)) (bN o98 (bL o97) bE)) (bN o10 (bN o33 (bL tE) (bL tE)) (bN nO (bL o99) bE))) (bN o104 (bN o35 (bN o34 (bL o100) (bL o101)) (bN o5 (bL o102) bE)) (bN o36 (bN tE (bL nO) bE) (bN o103 (bL tE) bE)))) (bN o113 (bN o41 (bN nO (bN (o38 P) (bL o105) (bL tE)) (bN (o106 P) (bL nO) bE)) (bN o40 (bN o39 (bL o107) (bL o108)) (bN o109 (bL tE) bE))) (bN o5 (bN o42 (bN tE (bL tE) (bL tE)) (bN o111 (bL o110) bE)) (bN o43 (bN tE (bL tE) bE) (bN nO (bL o112) bE))))) (bN (YbF P) (bN (Ybt P) (bN tE (bN o45 (bN o5 (bL tE) (bL o114)) (bN o116 (bL o115) bE)) (bN tE (bN o46 (bL o117) (bL o118)) (bN tE (bL nO) bE))) (bN o49 (bN o47 (bN nO (bL nO) (bL nO)) (bN (o119 P) (bL tE) bE)) (bN o48 (bN o121 (bL o120) bE) (bN o123 (bL o122) bE)))) (bN o2 (bN tE (bN tE (bN o50 (bL o124) (bL o125)) (bN o126 (bL tE) bE)) (bN tE (bN o10 (bL o127) (bL o128)) (bN o130 (bL o129) bE))) (bN (o54 P) (bN o52 (bN o51 (bL o131) (bL o132)) (bN o134 (bL o133) bE)) (bN (o53 P) (bN o136 (bL o135) bE) (bN tE (bL nO) bE)))))))
def t3  (P:Params):Yb6:=(bN (YbJ P) (bN (Ybl P) (bN (o171 P) (bN (YbE P) (bN o6 (bN tE (bN o3 (bN o55 (bL o137) (bL tE)) (bN o56 (bL o138) bE)) (bN tE (bN tE (bL o139) bE) (bN nO (bL o140) bE))) (bN o5 (bN o4 (bN o57 (bL o141) (bL o142)) (bN o58 (bL o143) bE)) (bN tE (bN o59 (bL o144) bE) (bN tE (bL nO) bE)))) (bN (o9 P) (bN o8 (bN o7 (bN o60 (bL o145) (bL o146)) (bN o61 (bL o147) bE)) (bN o63 (bN o62 (bL o148) bE) (bN o149 (bL tE) bE))) (bN nO (bN (o64 P) (bN tE (bL tE) (bL o150)) (bN tE (bL o151) bE)) (bN (o66 P) (bN o65 (bL o152) bE) (bN o154 (bL o153) bE))))) (bN tE (bN nO (bN tE (bN o10 (bN nO (bL o155) (bL tE)) (bN o67 (bL o156) bE)) (bN o68 (bN tE (bL nO) bE) (bN o157 (bL tE) bE))) (bN o12 (bN o11 (bN tE (bL o158) (bL o159)) (bN tE (bL nO) bE)) (bN o70 (bN o69 (bL o160) bE) (bN tE (bL o161) bE)))) (bN o16 (bN (o14 P) (bN o13 (bN o71 (bL o162) (bL nO)) (bN o72 (bL o163) bE)) (bN tE (bN nO (bL o164) bE) (bN o166 (bL o165) bE))) (bN o15 (bN o74 (bN o73 (bL tE) bE) (bN o168 (bL o167) bE)) (bN tE (bN o75 (bL o169) bE) (bN nO (bL o170) bE)))))) (bN (YbG P) (bN (YbC P) (bN (o22 P) (bN o19 (bN o18 (bN o77 (bL tE) (bL o172)) (bN o78 (bL tE) bE)) (bN o80 (bN o79 (bL o173) bE) (bN tE (bL nO) bE))) (bN (o21 P) (bN (o20 P) (bN nO (bL o174) (bL tE)) (bN nO (bL o175) bE)) (bN o81 (bN tE (bL nO) bE) (bN o176 (bL tE) bE)))) (bN o24 (bN o23 (bN tE (bN tE (bL nO) (bL o177)) (bN tE (bL nO) bE)) (bN o10 (bN o82 (bL tE) bE) (bN o179 (bL o178) bE))) (bN tE (bN o84 (bN o83 (bL o180) bE) (bN o181 (bL tE) bE)) (bN o85 (bN nO (bL o182) bE) (bN o184 (bL o183) bE))))) (bN o1 (bN o27 (bN o25 (bN tE (bN tE (bL o185) (bL o186)) (bN nO (bL o187) bE)) (bN o87 (bN o86 (bL tE) bE) (bN tE (bL o188) bE))) (bN o26 (bN o5 (bN o88 (bL nO) (bL o189)) (bN o89 (bL tE) bE)) (bN o91 (bN o90 (bL tE) bE) (bN o190 (bL tE) bE)))) (bN o10 (bN o29 (bN o28 (bN o92 (bL tE) (bL tE)) (bN o93 (bL tE) bE)) (bN o94 (bN tE (bL o191) bE) (bN nO (bL o192) bE))) (bN o30 (bN nO (bN nO (bL o193) bE) (bN o195 (bL o194) bE)) (bN o95 (bN tE (bL nO) bE) (bN tE (bL nO) bE))))))) (bN (YbI P) (bN (YbH P) (bN (YbD P) (bN o10 (bN o32 (bN o31 (bN o96 (bL o196) (bL o197)) (bN tE (bL o198) bE)) (bN o98 (bN o97 (bL o199) bE) (bN o200 (bL tE) bE))) (bN o10 (bN o33 (bN tE (bL o201) (bL o202)) (bN tE (bL o203) bE)) (bN nO (bN o99 (bL tE) bE) (bN o205 (bL o204) bE)))) (bN o104 (bN o35 (bN o34 (bN o100 (bL tE) (bL o206)) (bN o101 (bL tE) bE)) (bN o5 (bN o102 (bL o207) bE) (bN tE (bL nO) bE))) (bN o36 (bN tE (bN nO (bL o208) bE) (bN nO (bL o209) bE)) (bN o103 (bN tE (bL tE) bE) (bN o210 (bL tE) bE))))) (bN o223 (bN o41 (bN nO (bN (o38 P) (bN o105 (bL tE) (bL nO)) (bN tE (bL tE) bE)) (bN (o106 P) (bN nO (bL o211) bE) (bN o213 (bL o212) bE))) (bN o40 (bN o39 (bN o107 (bL tE) (bL tE)) (bN o108 (bL o214) bE)) (bN o109 (bN tE (bL o215) bE) (bN nO (bL o216) bE)))) (bN o5 (bN o42 (bN tE (bN tE (bL o217) (bL o218)) (bN tE (bL o219) bE)) (bN o111 (bN o110 (bL tE) bE) (bN tE (bL o220) bE))) (bN o43 (bN tE (bN tE (bL nO) bE) (bN o221 (bL tE) bE)) (bN nO (bN o112 (bL tE) bE) (bN o222 (bL tE) bE)))))) (bN (YbF P) (bN (Ybt P) (bN tE (bN o45 (bN o5 (bN tE (bL nO) (bL o224)) (bN o114 (bL nO) bE)) (bN o116 (bN o115 (bL tE) bE) (bN o226 (bL o225) bE))) (bN tE (bN o46 (bN o117 (bL o227) (bL nO)) (bN o118 (bL tE) bE)) (bN tE (bN nO (bL o228) bE) (bN o230 (bL o229) bE)))) (bN o49 (bN o47 (bN nO (bN nO (bL o231) (bL tE)) (bN nO (bL o232) bE)) (bN (o119 P) (bN tE (bL nO) bE) (bN o233 (bL tE) bE))) (bN o48 (bN o121 (bN o120 (bL o234) bE) (bN tE (bL nO) bE)) (bN o123 (bN o122 (bL o235) bE) (bN tE (bL o236) bE))))) (bN o2 (bN tE (bN tE (bN o50 (bN o124 (bL o237) (bL tE)) (bN o125 (bL o238) bE)) (bN o126 (bN tE (bL o239) bE) (bN nO (bL o240) bE))) (bN tE (bN o10 (bN o127 (bL o241) (bL o242)) (bN o128 (bL o243) bE)) (bN o130 (bN o129 (bL nO) bE) (bN tE (bL nO) bE)))) (bN (o54 P) (bN o52 (bN o51 (bN o131 (bL nO) (bL o244)) (bN o132 (bL nO) bE)) (bN o134 (bN o133 (bL o245) bE) (bN o246 (bL tE) bE))) (bN (o53 P) (bN o136 (bN o135 (bL tE) bE) (bN tE (bL o247) bE)) (bN tE (bN nO (bL o248) bE) (bN o250 (bL o249) bE))))))))
def t4  (P:Params):Yb6:=(bN (YbJ P) (bN (Ybl P) (bN (o252 P) (bN (YbE P) (bN o6 (bN tE (bN o3 (bN o55 (bL o137) (bL tE)) (bN o56 (bL o138) bE)) (bN tE (bN tE (bL o139) (bL tE)) (bN nO (bL o140) bE))) (bN o5 (bN o4 (bN o57 (bL o141) (bL o142)) (bN o58 (bL o143) bE)) (bN tE (bN o59 (bL o144) bE) (bN tE (bL nO) bE)))) (bN (o9 P) (bN o8 (bN o7 (bN o60 (bL o145) (bL o146)) (bN o61 (bL o147) bE)) (bN o63 (bN o62 (bL o148) bE) (bN o149 (bL tE) bE))) (bN nO (bN (o64 P) (bN tE (bL tE) (bL o150)) (bN tE (bL o151) bE)) (bN (o66 P) (bN o65 (bL o152) bE) (bN o154 (bL o153) bE))))) (bN tE (bN nO (bN tE (bN o10 (bN nO (bL o155) (bL tE)) (bN o67 (bL o156) bE)) (bN o68 (bN tE (bL nO) (bL o251)) (bN o157 (bL tE) bE))) (bN o12 (bN o11 (bN tE (bL o158) (bL o159)) (bN tE (bL nO) bE)) (bN o70 (bN o69 (bL o160) bE) (bN tE (bL o161) bE)))) (bN o16 (bN (o14 P) (bN o13 (bN o71 (bL o162) (bL nO)) (bN o72 (bL o163) bE)) (bN tE (bN nO (bL o164) bE) (bN o166 (bL o165) bE))) (bN o15 (bN o74 (bN o73 (bL tE) (bL tE)) (bN o168 (bL o167) bE)) (bN tE (bN o75 (bL o169) bE) (bN nO (bL o170) bE)))))) (bN (YbG P) (bN (YbC P) (bN (o22 P) (bN o19 (bN o18 (bN o77 (bL tE) (bL o172)) (bN o78 (bL tE) bE)) (bN o80 (bN o79 (bL o173) (bL o253)) (bN tE (bL nO) bE))) (bN (o21 P) (bN (o20 P) (bN nO (bL o174) (bL tE)) (bN nO (bL o175) bE)) (bN o81 (bN tE (bL nO) bE) (bN o176 (bL tE) bE)))) (bN o24 (bN o23 (bN tE (bN tE (bL nO) (bL o177)) (bN tE (bL nO) bE)) (bN o10 (bN o82 (bL tE) bE) (bN o179 (bL o178) bE))) (bN tE (bN o84 (bN o83 (bL o180) (bL nO)) (bN o181 (bL tE) bE)) (bN o85 (bN nO (bL o182) bE) (bN o184 (bL o183) bE))))) (bN o1 (bN o27 (bN o25 (bN tE (bN tE (bL o185) (bL o186)) (bN nO (bL o187) bE)) (bN o87 (bN o86 (bL tE) bE) (bN tE (bL o188) bE))) (bN o26 (bN o5 (bN o88 (bL nO) (bL o189)) (bN o89 (bL tE) bE)) (bN o91 (bN o90 (bL tE) bE) (bN o190 (bL tE) bE)))) (bN o10 (bN o29 (bN o28 (bN o92 (bL tE) (bL tE)) (bN o93 (bL tE) bE)) (bN o94 (bN tE (bL o191) bE) (bN nO (bL o192) bE))) (bN o30 (bN nO (bN nO (bL o193) (bL o254)) (bN o195 (bL o194) bE)) (bN o95 (bN tE (bL nO) bE) (bN tE (bL nO) bE))))))) (bN (YbI P) (bN (YbH P) (bN (YbD P) (bN o10 (bN o32 (bN o31 (bN o96 (bL o196) (bL o197)) (bN tE (bL o198) bE)) (bN o98 (bN o97 (bL o199) (bL nO)) (bN o200 (bL tE) bE))) (bN o10 (bN o33 (bN tE (bL o201) (bL o202)) (bN tE (bL o203) bE)) (bN nO (bN o99 (bL tE) bE) (bN o205 (bL o204) bE)))) (bN o104 (bN o35 (bN o34 (bN o100 (bL tE) (bL o206)) (bN o101 (bL tE) bE)) (bN o5 (bN o102 (bL o207) bE) (bN tE (bL nO) bE))) (bN o36 (bN tE (bN nO (bL o208) (bL tE)) (bN nO (bL o209) bE)) (bN o103 (bN tE (bL tE) bE) (bN o210 (bL tE) bE))))) (bN o256 (bN o41 (bN nO (bN (o38 P) (bN o105 (bL tE) (bL nO)) (bN tE (bL tE) bE)) (bN (o106 P) (bN nO (bL o211) bE) (bN o213 (bL o212) bE))) (bN o40 (bN o39 (bN o107 (bL tE) (bL tE)) (bN o108 (bL o214) bE)) (bN o109 (bN tE (bL o215) bE) (bN nO (bL o216) bE)))) (bN o5 (bN o42 (bN tE (bN tE (bL o217) (bL o218)) (bN tE (bL o219) bE)) (bN o111 (bN o110 (bL tE) bE) (bN tE (bL o220) bE))) (bN o43 (bN tE (bN tE (bL nO) (bL o255)) (bN o221 (bL tE) bE)) (bN nO (bN o112 (bL tE) bE) (bN o222 (bL tE) bE)))))) (bN (YbF P) (bN (Ybt P) (bN tE (bN o45 (bN o5 (bN tE (bL nO) (bL o224)) (bN o114 (bL nO) bE)) (bN o116 (bN o115 (bL tE) (bL o257)) (bN o226 (bL o225) bE))) (bN tE (bN o46 (bN o117 (bL o227) (bL nO)) (bN o118 (bL tE) bE)) (bN tE (bN nO (bL o228) bE) (bN o230 (bL o229) bE)))) (bN o49 (bN o47 (bN nO (bN nO (bL o231) (bL tE)) (bN nO (bL o232) bE)) (bN (o119 P) (bN tE (bL nO) bE) (bN o233 (bL tE) bE))) (bN o48 (bN o121 (bN o120 (bL o234) (bL o258)) (bN tE (bL nO) bE)) (bN o123 (bN o122 (bL o235) bE) (bN tE (bL o236) bE))))) (bN o2 (bN tE (bN tE (bN o50 (bN o124 (bL o237) (bL tE)) (bN o125 (bL o238) bE)) (bN o126 (bN tE (bL o239) bE) (bN nO (bL o240) bE))) (bN tE (bN o10 (bN o127 (bL o241) (bL o242)) (bN o128 (bL o243) bE)) (bN o130 (bN o129 (bL nO) bE) (bN tE (bL nO) bE)))) (bN (o54 P) (bN o52 (bN o51 (bN o131 (bL nO) (bL o244)) (bN o132 (bL nO) bE)) (bN o134 (bN o133 (bL o245) bE) (bN o246 (bL tE) bE))) (bN (o53 P) (bN o136 (bN o135 (bL tE) (bL o259)) (bN tE (bL o247) bE)) (bN tE (bN nO (bL o248) bE) (bN o250 (bL o249) bE))))))))
def Hz  (P:Params):Heap:=⟨⟨YbJ P::Ybl P::YbI P::o252 P::YbH P::YbG P::YbF P::YbE P::YbD P::YbC P::Ybt P::tE::o256::o1::o2::o6::o10::o22 P::tE::nO::o41::o27::tE::o9 P::o104::o24::o49::o16::o5::o10::o54 P::tE::o32::o19::o45::tE::nO::o25::tE::o8::o35::o23::o47::o14 P::o42::o29::o52::o5::o10::o21 P::tE::o12::o40::o26::tE::nO::o36::tE::o48::o15::o43::o30::o53 P::o3::o31::o18::o5::o10::o38 P::tE::o50::o7::o34::tE::nO::o13::tE::o28::o51::o4::o33::o20 P::o46::o11::o39::o5::o10::o64 P::tE::o84::o121::o74::tE::nO::o136::tE::o98::o80::o116::o68::o106 P::o87::o126::o63::o5::o10::o119 P::tE::o111::o94::o134::tE::nO::o81::tE::o70::o109::o91::o130::o66 P::o103::o85::o123::tE::nO::o95::tE::o55::o96::o77::tE::nO::o105::tE::o124::o60::o100::tE::nO::o71::tE::o92::o131::o57::tE::nO::o117::tE::o107::o88::o127::tE::nO::o83::o120::o73::tE::nO::o135::tE::o97::o79::o115::tE::nO::o86::tE::o62::o102::o82::tE::nO::o110::tE::o133::o59::o99::tE::nO::o69::tE::o90::o129::o65::tE::nO::o122::o75::o112::tE::nO::o56::tE::o78::o114::o67::tE::nO::o125::o61::o101::tE::nO::o72::tE::o93::o132::o58::tE::nO::o118::tE::o108::o89::o128::tE::nO::o181::tE::o168::o221::o195::tE::nO::o200::tE::o226::o157::o213::tE::nO::o149::tE::o179::o233::o166::tE::nO::o246::tE::o205::o176::o230::tE::nO::o190::tE::o154::o210::o184::tE::nO::o222::tE::o250::o137::o196::tE::nO::o155::tE::o185::o237::o145::tE::nO::o231::o162::o217::tE::nO::o141::o201::o174::o227::o158::tE::nO::o241::tE::o208::o180::o234::tE::nO::o193::tE::o139::o199::o173::tE::nO::o211::tE::o239::o148::o207::tE::nO::o164::tE::o191::o245::o144::tE::nO::o228::o160::o215::tE::nO::o152::tE::o182::o235::o169::tE::nO::o248::o138::o198::tE::nO::o156::tE::o187::o238::o147::tE::nO::o232::o163::o219::tE::nO::o143::o203::o175::tE::nO::o214::tE::o243::o151::o209::tE::nO::o167::tE::o194::o247::o140::tE::nO::o225::tE::o212::o188::o240::tE::nO::o178::tE::o165::o220::o192::tE::nO::o204::tE::o229::o161::o216::tE::nO::o153::tE::o183::o236::o170::tE::nO::o249::tE::o197::o172::o224::tE::nO::o186::tE::o146::o206::o177::tE::nO::o218::tE::o244::o142::o202::tE::nO::o159::tE::o189::o242::o150::tE::nO::o258::tE::o255::o254::o259::tE::nO::o253::o257::o251::[]⟩,{}⟩
noncomputable def st1  : List Stmt:=[Z.top 0,Z.top 1,Z.top 2,Z.top 3,Z.top 4]
noncomputable def st2  : List Stmt:=[Z.top 5,Z.top 6,Z.top 7,Z.top 8,Z.top 9,Z.top 10,Z.top 11,Z.top 12,Z.top 13,Z.top 14,Z.top 15,Z.top 16,Z.top 17,Z.top 18,Z.top 19,Z.top 20,Z.top 21,Z.top 22,Z.top 23,Z.top 24]
noncomputable def st3  : List Stmt:=[Z.top 25,Z.top 26,Z.top 27,Z.top 28,Z.top 29,Z.top 30,Z.top 31,Z.top 32,Z.top 33,Z.top 34,Z.top 35,Z.top 36,Z.top 37,Z.top 38,Z.top 39,Z.top 40,Z.top 41,Z.top 42,Z.top 43,Z.top 44,Z.top 45,Z.top 46,Z.top 47,Z.top 48,Z.top 49,Z.top 50,Z.top 51,Z.top 52,Z.top 53,Z.top 54,Z.top 55]
noncomputable def st4  : List Stmt:=[Z.top 56,Z.top 57]
def bd  : List Stmt:=st1++(st2++(st3++(st4++[])))
noncomputable abbrev pw  : Program:=PySem.Challenge.pw_beatplans_k47_no_cases_of_moving
def qw  : Program:={ pw with main:={ pw.main with body:=[Z.top 1,Z.top 2,Z.top 3,Z.top 4,Z.top 5,Z.top 6,Z.top 8,Z.top 9,Z.top 10,Z.top 11,Z.top 12,Z.top 13,Z.top 15,Z.top 16,Z.top 17,Z.top 18,Z.top 19,Z.top 20,Z.top 21,Z.top 22,Z.top 24,Z.top 25,Z.top 26,Z.top 27,Z.top 28,Z.top 29,Z.top 31,Z.top 32,Z.top 33,Z.top 34,Z.top 36,Z.top 37,Z.top 38,Z.top 39,Z.top 40,Z.top 41,Z.top 42,Z.top 43,Z.top 44,Z.top 45,Z.top 46,Z.top 47,Z.top 48,Z.top 49,Z.top 50,Z.top 51,Z.top 52,Z.top 53,Z.top 54,Z.top 55,Z.top 56,Z.top 57] } }
def en  : Env:={ scope:=pw.main.scope,locals:=mainNs,globals:=mainNs,cells:=[],code:=.ref 13,frame:=some 14 }
def cE  : Code:=.body bd en
noncomputable abbrev pz  : Pos:=⟨0,0,0,0⟩
abbrev fz  : List Frame:=[PySem.W.topFrame pz]
noncomputable abbrev s0  (w:World)(os:OsState):Shared:=⟨YbW w.params,⟨[]⟩,PySem.W.boot_drawn,PySem.W.boot_toks,os⟩
abbrev sz  (w:World)(os:OsState):Shared:=⟨Hz w.params,⟨[]⟩,{},838,os⟩
noncomputable def sT  (t:Params->Yb6)(n k:Nat)(w:World)(os:OsState):PySem.W.SharedT:=⟨t w.params,n,{},⟨[]⟩,{},k,os⟩
section
variable (w:World)(os:OsState)
theorem jpb  : PySem.W.topGo YcN pw w 11 (some (.ref 6)) 12 (s0 w os) (Yfr pw)=some (⟨Ha w.params,⟨[]⟩,{},187,os⟩,⟨denote YcN cE,cE,pz,fz⟩):=by
 rw[PySem.W.Fast.te15667345088766844465,YaE,PySem.W.Fast.te11892475500146522536];kernel_rfl
theorem jpd  : PySem.W.segRun YcN pw w 11 (some (.ref 6)) 1 1 ⟨Ha w.params,⟨[]⟩,{},187,os⟩ (PySem.W.blockOf bd en cE pz fz)=some (.next,(sT t0 15 187 w os).abs,cE,pz):=by
 rw[PySem.W.Fast.te14374325043358763698,YaE];kernel_rfl
theorem r1  : Yc0 YcN pw w 11 (some (.ref 6)) 1 933 (sT t0 15 187 w os) (YcT st1 en cE pz fz)=some (.next,sT t1 85 284 w os,cE,⟨13,0,16,24⟩):=by
 rw[Ybf,YaE];kernel_rfl
theorem r2  : Yc0 YcN pw w 11 (some (.ref 6)) 1 971 (sT t1 85 284 w os) (YcT st2 en cE ⟨13,0,16,24⟩ fz)=some (.next,sT t2 215 484 w os,cE,⟨82,0,83,78⟩):=by
 rw[Ybf,YaE];kernel_rfl
theorem r3  : Yc0 YcN pw w 11 (some (.ref 6)) 1 976 (sT t2 215 484 w os) (YcT st3 en cE ⟨82,0,83,78⟩ fz)=some (.next,sT t3 408 817 w os,cE,⟨276,0,284,21⟩):=by
 rw[Ybf,YaE];kernel_rfl
theorem r4  : Yc0 YcN pw w 11 (some (.ref 6)) 1 64 (sT t3 408 817 w os) (YcT st4 en cE ⟨276,0,284,21⟩ fz)=some (.next,sT t4 420 838 w os,cE,⟨302,0,317,15⟩):=by
 rw[Ybf,YaE];kernel_rfl
theorem jpc  : YfC YcN pw w 11 (some (.ref 6)) 2 (sT t4 420 838 w os).abs ⟨PySem.W.doneF .next,cE,⟨302,0,317,15⟩,fz⟩=some (sz w os):=by
 rw[PySem.W.Fast.te14082659384304107361,YaE];kernel_rfl
theorem jpa  : YfC YcN pw w 11 (some (.ref 6)) (12+(1+(933+(971+(976+(64+(2))))))) (s0 w os) (Yfr pw)=some (sz w os):=
 PySem.W.go_top (jpb w os) (PySem.W.piece_block (jpd w os) (YcG (YcF (r1 w os)) (YcG (YcF (r2 w os)) (YcG (YcF (r3 w os)) (YcG (YcF (r4 w os)) (jpc w os))))))
end
def KK  : Params->Yab:=λP=>((1:Addr),Ybl P)::((3:Addr),o252 P)::((23:Addr),o9 P)::((24:Addr),o104)::((40:Addr),o35)::((41:Addr),o23)::((43:Addr),o14 P)::((44:Addr),o42)::((59:Addr),o15)::((60:Addr),o43)::((62:Addr),o53 P)::((63:Addr),o3)::((78:Addr),o51)::((79:Addr),o4)::((81:Addr),o20 P)::((82:Addr),o46)::((97:Addr),o80)::((98:Addr),o116)::((100:Addr),o106 P)::((101:Addr),o87)::((116:Addr),o109)::((117:Addr),o91)::((119:Addr),o66 P)::((120:Addr),o103)::((128:Addr),o96)::((129:Addr),o77)::((135:Addr),o60)::((136:Addr),o100)::((142:Addr),o131)::((143:Addr),o57)::((149:Addr),o88)::((150:Addr),o127)::((154:Addr),o120)::((155:Addr),o73)::((161:Addr),o79)::((162:Addr),o115)::((168:Addr),o102)::((169:Addr),o82)::((175:Addr),o59)::((176:Addr),o99)::((182:Addr),o129)::((183:Addr),o65)::((187:Addr),o75)::((188:Addr),o112)::((194:Addr),o114)::((195:Addr),o67)::((199:Addr),o61)::((200:Addr),o101)::((206:Addr),o132)::((207:Addr),o58)::((213:Addr),o89)::((214:Addr),o128)::((220:Addr),o221)::((221:Addr),o195)::((227:Addr),o157)::((228:Addr),o213)::((234:Addr),o233)::((235:Addr),o166)::((241:Addr),o176)::((242:Addr),o230)::((248:Addr),o210)::((249:Addr),o184)::((255:Addr),o137)::((256:Addr),o196)::((262:Addr),o237)::((263:Addr),o145)::((267:Addr),o162)::((268:Addr),o217)::((274:Addr),o227)::((275:Addr),o158)::((281:Addr),o180)::((282:Addr),o234)::((288:Addr),o199)::((289:Addr),o173)::((295:Addr),o148)::((296:Addr),o207)::((302:Addr),o245)::((303:Addr),o144)::((307:Addr),o160)::((308:Addr),o215)::((314:Addr),o235)::((315:Addr),o169)::((319:Addr),o138)::((320:Addr),o198)::((326:Addr),o238)::((327:Addr),o147)::((331:Addr),o163)::((332:Addr),o219)::((336:Addr),o203)::((337:Addr),o175)::((343:Addr),o151)::((344:Addr),o209)::((350:Addr),o247)::((351:Addr),o140)::((357:Addr),o188)::((358:Addr),o240)::((364:Addr),o220)::((365:Addr),o192)::((371:Addr),o161)::((372:Addr),o216)::((378:Addr),o236)::((379:Addr),o170)::((385:Addr),o172)::((386:Addr),o224)::((392:Addr),o206)::((393:Addr),o177)::((399:Addr),o142)::((400:Addr),o202)::((406:Addr),o242)::((407:Addr),o150)::((413:Addr),o254)::((414:Addr),o259)::((418:Addr),o257)::((419:Addr),o251)::[]
noncomputable def KA  : List Addr:=1::3::23::24::40::41::43::44::59::60::62::63::78::79::81::82::97::98::100::101::116::117::119::120::128::129::135::136::142::143::149::150::154::155::161::162::168::169::175::176::182::183::187::188::194::195::199::200::206::207::213::214::220::221::227::228::234::235::241::242::248::249::255::256::262::263::267::268::274::275::281::282::288::289::295::296::302::303::307::308::314::315::319::320::326::327::331::332::336::337::343::344::350::351::357::358::364::365::371::372::378::379::385::386::392::393::399::400::406::407::413::414::418::419::[]
def fl  : Z.FL:=(129,128,(.str q39 336))::(136,135,(.str q39 336))::(143,142,(.str q39 336))::(150,149,(.str q39 336))::(155,154,(.str q39 336))::(162,161,(.str q39 336))::(169,168,(.str q41 393))::(176,175,(.str q41 393))::(183,182,(.str q41 393))::(188,187,(.str q41 393))::(195,194,(.str q41 393))::(200,199,(.str q41 393))::(207,206,(.str q41 393))::(214,213,(.str q60 473))::(221,220,(.str q60 473))::(228,227,(.str q60 473))::(235,234,(.str q60 473))::(242,241,(.str q60 473))::(249,248,(.str q60 473))::(256,255,(.str q85 554))::(263,262,(.str q85 554))::(268,267,(.str q85 554))::(275,274,(.str q85 554))::(282,281,(.str q78 602))::(289,288,(.str q78 602))::(296,295,(.str q78 602))::(303,302,(.str q78 602))::(308,307,(.str q78 602))::(315,314,(.str q78 602))::(320,319,(.str q78 602))::(327,326,(.str q78 602))::(332,331,(.str q78 602))::(337,336,(.str q78 602))::(344,343,(.str q78 602))::(351,350,(.str q78 602))::(358,357,(.str q78 602))::(365,364,(.str q78 602))::(372,371,(.str q78 602))::(379,378,(.str q78 602))::(386,385,(.str q78 602))::(393,392,(.str q78 602))::(400,399,(.str q78 602))::(407,406,(.str q78 602))::(414,413,(.str q78 602))::(419,418,(.str q78 602))::[]
theorem k_dyn   P:Z.dynB Z.T (KK P) 0 fl Z.T.funs Z.sts=true:=by kernel_rfl
theorem k_lk   P:fl.map (λx=>(KK P).lookup x.1)=Z.lkR fl Z.T.funs Z.sts:=by kernel_rfl
theorem k_blt   P:Z.bltB (KK P)=true:=by kernel_rfl
theorem k_gs   P:Z.gsB (KK P) Z.T.gn Z.T.gs=true:=by kernel_rfl
theorem k_xb   P:∃mD,L2.XBase (KK P) (Z.gK (KK P)) 24 mD:=Z.xb_mk 24 23 15 189 197 [(.ref 44),(.ref 63),(.ref 82),(.ref 101),(.ref 120)] (by kernel_rfl) (by kernel_rfl)
theorem k_cs   P:Z.CsA (KK P) Z.T.cs:=⟨Z.xc_mk (k_xb P) "NoPaper" "NoPaper.__init__" ["word", "at"] (jaD (Z.top 2) 0) 44 43 28 207 215 41 40 (.str q6 187) (by kernel_rfl) (by kernel_rfl) (by kernel_rfl) (.inr ⟨_,_,_,_,_,_,_,_,_,_,rfl,by decide,rfl⟩),
 Z.xc_mk (k_xb P) "TooMany" "TooMany.__init__" ["word"] (jaD (Z.top 3) 0) 63 62 47 234 242 60 59 (.str q6 187) (by kernel_rfl) (by kernel_rfl) (by kernel_rfl) (.inl ⟨_,_,_,_,_,rfl,rfl⟩),
 Z.xc_mk (k_xb P) "NoRing" "NoRing.__init__" ["word"] (jaD (Z.top 4) 0) 82 81 66 259 267 79 78 (.str q6 187) (by kernel_rfl) (by kernel_rfl) (by kernel_rfl) (.inl ⟨_,_,_,_,_,rfl,rfl⟩),
 Z.xc_mk (k_xb P) "NoText" "NoText.__init__" ["row", "word"] (jaD (Z.top 5) 0) 101 100 85 284 292 98 97 (.str q6 187) (by kernel_rfl) (by kernel_rfl) (by kernel_rfl) (.inr ⟨_,_,_,_,_,_,_,_,_,_,rfl,by decide,rfl⟩),
 Z.xc_mk (k_xb P) "NoRow" "NoRow.__init__" ["row"] (jaD (Z.top 6) 0) 120 119 104 311 319 117 116 (.str q6 187) (by kernel_rfl) (by kernel_rfl) (by kernel_rfl) (.inl ⟨_,_,_,_,_,rfl,rfl⟩),trivial⟩
noncomputable abbrev rr  : PySem.W.OpenRow:=PySem.Challenge.rw_beatplans_k47_no_cases_of_moving.row
def Xt  : Shared->Bool:=λs=>PySem.W.xlAt qw [] s&&PySem.W.recOk (PySem.W.RowW.records rr.toRowW) s
abbrev hk  : PySem.W.Hook:=PySem.W.kHook KK KA (λ_=>by kernel_rfl)
theorem jn7  (w:World):((YbW w.params).isNs Yaw&&(⟨[]⟩:Array GenState).size==0,(YbW w.params).objs.size,(YbW w.params).nsMap Yaw "__annotations__")=(true,11,some (YaP 6)):=by
 rw[PySem.W.Fast.te8920871248978507458];kernel_rfl
theorem k_l1  (w:World) os:(PySem.W.staticsOk (importedModules pw.main.body) (YbW w.params) (Hz w.params)&&PySem.W.namesBound pw (Hz w.params)&&PySem.W.gensDone (sz w os)&&PySem.W.laidKept (YbW w.params) (Hz w.params))=true:=by
 rw[Yc1];kernel_rfl
theorem k_l2  (w:World) os:PySem.W.openSeen qw [] (importedModules pw.main.body) Xt true (sz w os)=PySem.W.openGood qw []:=by
 rw[PySem.W.Fast.te4187177175401517315,Yc1];kernel_rfl
theorem k_l3   w os:Yde hk (sz w os)=Ydd hk w:=by kernel_rfl
theorem k_hl  : PySem.W.LeftO pw qw [] Xt (Yde hk) (Ydd hk) 6006:=PySem.W.LeftO.of_pieces (PySem.W.boot_open (by kernel_rfl) (by decide) λ_=>by kernel_rfl) jn7 jpa (by decide) λw=>funext λos=>Prod.ext (k_l1 w os) (Prod.ext (k_l2 w os) (k_l3 w os))
end Y
set_option maxRecDepth 100000 in
set_option maxHeartbeats 0 in
theorem Z.wellS:PySem.Challenge.rw_beatplans_k47_no_cases_of_moving.wellSaid=true:=by decide +kernel
open PySem PySem.W PyProof.Rows
set_option maxRecDepth 100000 in
set_option maxHeartbeats 0 in
theorem PySem.Challenge.cw_beatplans_k47_no_cases_of_moving_holds : PySem.Challenge.rw_beatplans_k47_no_cases_of_moving.Holds := by
 refine PySem.W.holds_law Z.wellS λsaid=>?_
 refine PySem.W.holds_open (q:=Y.qw) (loose:=[]) (Xt:=Y.Xt) (XP:=PySem.W.XL Y.qw []) (Yf:=Yde Y.hk) (Ya:=Ydd Y.hk) (YP:=PySem.W.Hook.says Y.hk) (N:=6006) Y.k_hl (PySem.W.Hook.of Y.hk) (PySem.W.Hook.keeps Y.hk) (λs e=>PySem.W.xl_of s (Bool.and_eq_true_iff.mp e).1) PySem.W.XL.keeps (by rfl) (by rfl) (by rfl) (λs e=>PySem.W.recFacts_of (Bool.and_eq_true_iff.mp e).2) (by rfl) said (by decide +kernel) ⟨rfl,rfl,rfl,rfl,rfl,by decide +kernel⟩ ?hw ?hc
 case hw=>w_witness2
 refine Z.walk (l:=PySem.Challenge.rw_beatplans_k47_no_cases_of_moving) rfl rfl (λw h Y=>PySem.W.kIn_of Y) ?K ?S ?B ?F
 case K=>intro w;rfl
 case S=>intro w;exact⟨_,rfl,rfl⟩
 case B=>
  intro w t ht
  simp only[Z.tbs,YaM,Yau,or_false]at ht
  rcases ht with rfl
  ·exact⟨⟨_,rfl⟩,by kernel_rfl,by kernel_rfl⟩
 case F=>exact λw mg fa h X G hm=>Z.all2 X G hm Z.prog_rep Z.prog_eq Z.tabsU (Y.k_dyn _) (Y.k_lk _) (Y.k_blt _) (Y.k_gs _) (Y.k_cs _) rfl rfl rfl rfl rfl
