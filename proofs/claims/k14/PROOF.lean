import PyProof.Rows.All
import Wide.All
import OpenK.AllK
import Wide.FinOn
import Lean
import PyProof.EqAt
import PyProof.EqKinds
import PyProof.TupleCall
import PySem.Challenge.RW_beatplans_k14_things_that_are_no_cases
noncomputable section
set_option compiler.extract_closed false
set_option genSizeOf false
set_option genInjectivity false
set_option Elab.async false
set_option linter.all false
set_option maxRecDepth 100000
set_option maxHeartbeats 8000000
open List renaming all_cons → Ybd, all_eq_true → Yc1, any_cons → Ybc, append_assoc → YdJ, append_nil → Ya7, cons_append → YfU, contains_cons → Ybw, dropLast_eq_take → YeZ, drop_eq_getElem_cons → YcN, drop_length → YfT, drop_of_length_le → YeU, drop_zero → Yet, eraseIdxIfInBounds_toArray → YdI, filterMap_cons → YcD, filterMap_map → Yfy, find?_cons → Ybo, flatten_cons → Yb3, foldl → YdH, foldl_cons → Yef, forIn_cons → Yee, getD → Yck, getElem?_append_left → Ya1, getElem?_append_right → Ybt, getElem?_cons_succ → YeK, getElem?_eq_getElem → YaB, getElem?_eq_none → YeY, getElem?_map → YaD, getElem?_range → Ydo, getElem?_replicate → Ycj, getElem?_set_ne → YaX, getElem?_set_self → Ybp, getElem?_take_of_lt → YeD, getElem_mem → YdX, isEmpty_iff → YfS, length_append → Yar, length_cons → YaJ, length_drop → Ycc, length_map → Yai, length_nil → Yb0, length_replicate → YeX, length_set → YcC, length_singleton → YbZ, length_take → Ycb, lookup → Ybx, lookup_cons → YaU, map_append → Yav, map_congr_left → Ycd, map_cons → YaK, map_drop → YeJ, map_fst_zip → YfR, map_map → Ycv, map_nil → YdP, map_take → YeI, mem_append_left → YbB, mem_append_right → YaA, mem_cons → YaW, mem_cons_of_mem → Yao, mem_cons_self → YaC, mem_of_getElem? → YaI, nil_append → Ybn, not_mem_nil → YaE, of_mem_zip → Yci, range → YaO, range_succ → Yed, replicate → Yaa, replicate_succ → Ya4, reverse_cons → Ycp, reverse_nil → YfQ, set_eq_take_append_cons_drop → YdB, size_toArray → Yak, take_append_drop → Yc7, take_length → Yca, take_of_length_le → YeT, take_sublist → YdG, take_succ → YbQ, zip_cons_cons → Yfx
open Nat renaming add_le_add_left → Yfw, add_le_add_right → Ydj, le_add_right → Ycz, le_of_eq → YdW, le_of_lt → Yb1, le_refl → Yab, le_succ → Yfv, le_trans → Yah, lt_irrefl → Ybe, lt_of_le_of_lt → YaS, lt_of_lt_of_le → Yan, lt_trans → YdV, mul_comm → YdU, ne_of_lt → YaM, succ_le_succ → Yd9, zero_add → YdT, zero_le → Ya8
open PySem.W renaming BT → Yb6, CodeHd → YfE, Frag → Yac, OpenLaw → YdN, WalkO → YfP, boot_heap → YbX, boot_o_0 → YbM, boot_o_1 → Ybq, boot_o_10 → Yby, boot_o_2 → YbL, boot_o_3 → Yff, boot_o_4 → YbK, boot_o_5 → YbJ, boot_o_6 → YbI, boot_o_7 → YbH, boot_o_8 → YbG, boot_o_9 → YbF, callWith_K → Ydh, cellsFrom_some → Ych, codeIn → Ybu, codeRec_of → Ydg, findIn → YfD, fnMade → Yd7, fnOf → Ya2, instObj → YdM, keepIn → Ybk, kia_one → Ya5, kitOne → Yc6, kitx_dict → Ye7, kitx_list → Ye6, lookIn → Yd6, methodObj → Ydv, mg_of → YcS, nsIn → Ya6, piece_app → YcI, piecesOf → YcU, plainGet → Yfe, segRunT → YcZ, segRun_of → YcH, topRun → YfC, topStub → Yft
open PySem renaming Arguments → YfW, Comprehension → Yeb, DictEntry → Ydw, ExcBaseFacts → Yev, FuncData → YeL, NameKind → Ybv, Operator → Yd8, PassesOwn → Yc5, Spec → Yay, StoreFacts → Yc4, assignEach → Ybg, assignInOrder → Yfr, attributeBase → YcG, behindInMarks → Yd3, binaryOp → Yba, bindArgs → Yfq, bindName → YeF, bootBuiltins → YbR, builtinLookup_eq_fast → YbA, builtinsNs → Ydz, call → Yfs, call_meets → Ybr, cellsFrom → Ya9, checkBuiltinCall → Ydb, closureFor → Yfc, codeAny_call_builtin → YdD, codeAny_call_function → Ydt, codeAny_func → YfN, codeAny_mono → YcY, compTurn → YeE, compareOp → YaG, concat_meets → YfM, evalPart_none → Yfp, excClassObj → YcR, foldedForSure → Yfo, foldedSetIterable → Ya0, inplaceOp → Yd2, isInstance → Yfb, lastMarks → YfL, letOwnedTupleGo → YcQ, lookupAlong_cons → Yez, mainGlobals → Yax, mem_of_lookup → Yat, newFunctionEnv → Ye4, noFill_tuple_add → Yey, noteFrame → YfK, post_val_or_str → Yds, pushCells → YeQ, qualnameIn → YcL, repr_of_reads' → Ye3, seqIndex? → YfJ, seqIndex_neg → YfI, seqSlot_of → YfB, seq_tuple_add → Yfn, setFlight → Yd1, sizeLine → Yag, sizeLine_eq → YbU, sliceBounds → Ycl, slicePick → Yd0, starEach → Yap, strLen_append → Yfm, swappedStores → Ybh, swapsWith → Ycg, swapsWithSole → Ybz, sysModules → Ya3, treeTable → YcP, tupleKind → YdY, tupleKind_room_in1 → Yct, typeIs_int → Yek, typeIs_str → YcK, typeLookup → YaV, typeLookup_eq → Yfk, typeLookup_type → Ycs, wpAny_Call_Name_kw → Ybl, wpAny_binaryOp_repeat_ref → Ye2, wpAny_bind → Yad, wpAny_call → Yej, wpAny_callSpecial?_slot → Yc9, wpAny_call_entry → Yex, wpAny_comprehension_free → Yfa, wpAny_execs_cons → YbW, wpAny_execs_nil → YcO, wpAny_field → YbT, wpAny_getItem_list_slice → Yc3, wpAny_getItem_str_slice → Ycr, wpAny_holding → Yb8, wpAny_isSubtype_exc → YbS, wpAny_loadPart_at → Yaq, wpAny_mono → YaL, wpAny_mroOf_exc → YeP, wpAny_newFunctionEnv_cells → YcV, wpAny_newObj_type → YaZ, wpAny_passesOwn → Yb4, wpAny_pure → Yal, wpAny_pyIter_list → Yei, wpAny_sequenceKey → Yeh, wpAny_setField → Ye1, wpAny_standAt → Yb7, wpAny_truthy_bool → YaY, wpAny_typeOf → Ydr
open PySem.Heap renaming SameBut → YdQ, get?_none_of_le → Yde, get?_push_at → YfH, get?_push_of_some → Yae, get?_push_size → Yau, get?_update_ne → Yfh, get?_update_other → Yc2, get?_update_self → Ycw, lt_size → Yam, size_push → Yeu
open Bool renaming and_eq_true → Yaf, and_false → Yew, decide_and → Yc8, eq_iff_iff → Ybf, false_eq_true → YbV, false_ne_true → Yaj, false_or → YeN, not_eq_true' → Ycq, or_eq_true → YbD, or_true → Ycx, true_and → YdC
open Option.some renaming inj → Yas
open PySem.NameKind renaming cell → YaH, free → Yaw
open Int renaming ediv_one → Ye9, emod_lt_of_pos → Ycn, emod_nonneg → YcE, eq_ofNat_of_zero_le → Yaz, toNat_natCast → YbE
open PySem.W.Fast renaming te10110043849684766642 → Ybi, te14364793385576792824 → YaF, te5923862056798008813 → Yc0
open PySem.Builtin.Slice renaming sliceAdjust → Ybm, sliceApplied → YbO, sliceFields → Ydx, slicePlaces → YaN
open PySem.Value renaming bool → Yeq, builtin → YcW, int → Ydu, none → Ybs, ref → YaP, str → YeR
open PySem.Builtin.Tuple renaming tupleExact → YaQ, tupleIsExact → Ydq, tupleItemsOf → Ycu, tupleTooMany → Ydp
open PySem.PyData renaming canLayAll0 → YcM, depthAll → Ybb, eqv → YaR, eqvAll → Ydm, showable → YcB, showableAll → Ye8, shown → Yb9, shownAll → YcA, str → Yen
open PyProof.Rows renaming args_tuple_getitem → Yd5, assignInOrder_cons → Yd4, boot_isinstance → Ydi, callWith_type1 → Ybj, entry_tuple_getitem → YdK, slot_tuple_getitem → YaT, subscriptTail → YdZ, subscriptTail_builtinR → YfA, tupleItemsOf_ → Yfl
open False renaming elim → YbC
open PySem.Str renaming ofString → YbN
open True renaming intro → YbP
open Array renaming all_toList → Ycy, append_assoc → Yfj, find?_toList → Ydy, getElem?_setIfInBounds_self_of_lt → YbY, getElem?_toList → YeV, length_toList → Ydl
open PySem.Builtin.List renaming listTooLong → Yb2
open PySem.Builtin.Str renaming occurrences → Yb5
open Sum.inr renaming injEq → Yce
open PySem.F renaming args_dict_get_3 → Yem, args_tuple_add_2 → YcJ, args_tuple_mul_2 → YdR, entry_dict_get → Yes, entry_tuple_add → YcT, entry_tuple_mul → Yea, plainAttrs_dict → Yel, plainAttrs_list → Ycf, slot_dict_eq_refl → YfV, slot_dict_get → Yco, slot_int_rmul → Ydk, slot_tuple_add → YcX, slot_tuple_mul → Yep, type_dict_get → YeC
open PySem.Obj renaming data_mapFields → YfF, isFreed_of_fields → Yda, mapFields → Ycm, mapSeq → YdO
open PySem.EqBoolInt renaming of_rcne → YcF
open PySem.W.Hook renaming obs → Ydd, val → Ydc
open PySem.SeqAt renaming EqAt → Yer, in_listAt → YfO, in_tupleAt → YdL, notIn_listAt → Yfd, notIn_tupleAt → Ydf
open PySem.Paired renaming length → Ydn
open Option renaming getD_none → Yfu, isSome_map → YdA, map → Yfg
open List.cons renaming injEq → YdE
open PySem.Builtin.Range renaming rangeSize → YdF
open PySem.Txt renaming slice → Ye5, slice_le → YdS
open PySem.SeqAt.RcNeAt renaming tuples → Yec
open PySem.Calls renaming Name_function_global → Yeg, callWith_builtin → YeM, spliced_cons → Yfi
open List.Pairwise renaming nil → Yeo
open PySem.SeqAt.EqAt renaming int_str → YeB, str_int → YeA
open PySem.ScopeKind renaming function → YeG
open PySem.Manifest renaming signature? → YeH
open PySem.Around renaming frames_deeper → YeW, under → YeO
open PySem.PassesOwn renaming looking → YeS
open PySem.Code renaming isFrame → Ye0, quiet_builtin → Yfz
open Lean.Parser.Tactic renaming simpLemma → YfG
namespace L2
open PySem PySem.Spec PyProof.Rows

abbrev Key:=Sum Int Str
noncomputable def jhS  : Key->Value->Bool
 |.inl k,v=>Value.isInt k v
 |.inr x,v=>Value.isStrOf x v
noncomputable def keyH  (w:World):Key->Int
 |.inl k=>hashInt k
 |.inr x=>hashStr w x
def jat  : ∀{k } {v },jhS k v=true->(∃i t,k=Sum.inl i/\v=Ydu i t)\/(∃x t,k=Sum.inr x/\v=YeR x t)
 |.inl i,v,h=>by
  obtain⟨t,e⟩:=Value.isInt_shape (k:=i) (v:=v) h;exact .inl ⟨i,t,rfl,e⟩
 |.inr x,v,h=>by
  obtain⟨t,e⟩:=Value.isStrOf_shape (x:=x) (v:=v) h;exact .inr ⟨x,t,rfl,e⟩
def jiZ   i t:jhS (.inl i) (.int i t)=true:=by simp[jhS,Value.isInt]
def jiY   x t:jhS (.inr x) (.str x t)=true:=by simp[jhS,Value.isStrOf]
def jov   a b:decide ((Sum.inl a:Key)=Sum.inl b)=(a==b):=by
 by_cases e:a=b
 ·subst e;simp
 ·have h:¬(Sum.inl a:Key)=Sum.inl b:=λq=>e (Sum.inl.inj q);rw[decide_eq_false h];exact(beq_eq_false_iff_ne.mpr e).symm
def jos   a b:decide ((Sum.inr a:Key)=Sum.inr b)=decide (a=b):=by
 by_cases e:a=b
 ·subst e;simp
 ·have h:¬(Sum.inr a:Key)=Sum.inr b:=λq=>e (Sum.inr.inj q);rw[decide_eq_false h,decide_eq_false e]
def jou   a b:decide ((Sum.inl a:Key)=Sum.inr b)=false:=decide_eq_false (λq=>nomatch q)
def jot   a b:decide ((Sum.inr a:Key)=Sum.inl b)=false:=decide_eq_false (λq=>nomatch q)

def jas   prog w:PySem.KeyKind prog w Key where
 is:=jhS
 hash:=keyH w
 inj:=λv a b ha hb=>by
  rcases jat ha with⟨i,t,rfl,rfl⟩|⟨x,t,rfl,rfl⟩
  ·rcases jat hb with⟨j,u,rfl,e⟩|⟨y,u,rfl,e⟩
   ·injection e with e1 _;rw[e1]
   ·exact nomatch e
  ·rcases jat hb with⟨j,u,rfl,e⟩|⟨y,u,rfl,e⟩
   ·exact nomatch e
   ·injection e with e1 _;rw[e1]
 byValue:=λk v h=>by
  rcases jat h with⟨i,t,rfl,rfl⟩|⟨x,t,rfl,rfl⟩<;>rfl
 pyHash:=λhv h=>by
  rcases jat hv with⟨i,t,rfl,rfl⟩|⟨x,t,rfl,rfl⟩
  ·exact wpAny_pyHash_int h
  ·exact wpAny_pyHash_str h
 eqBool:=λhu hv h=>by
  rcases jat hu with⟨i,t,rfl,rfl⟩|⟨x,t,rfl,rfl⟩
  ·rcases jat hv with⟨j,u,rfl,rfl⟩|⟨y,u,rfl,rfl⟩
   ·rw[jov]at h;exact wpAny_eqBool_int h
   ·rw[jou]at h;exact YeB i t y u _ _ _ _ h
  ·rcases jat hv with⟨j,u,rfl,rfl⟩|⟨y,u,rfl,rfl⟩
   ·rw[jot]at h;exact YeA x t j u _ _ _ _ h
   ·rw[jos]at h;exact wpAny_eqBool_str h
 «strs»:=λk x t v h=>by
  rcases jat h with⟨i,u,rfl,e⟩|⟨y,u,rfl,e⟩
  ·exact nomatch e
  ·injection e with e1 _
   subst e1
   cases v<;>rfl

def jgk   prog w i t:(jas prog w).is (.inl i) (.int i t)=true:=jiZ i t
def jgj   prog w x t:(jas prog w).is (.inr x) (.str x t)=true:=jiY x t

set_option genInjectivity true
inductive V where
 |non|bl (b:Bool)|int (i:Int)|str (x:Str)|byt (b:Array UInt8)|flt (b:UInt64)|ref (a:Addr)|ty (n:String)
 deriving DecidableEq

set_option genInjectivity false
def RelV  : V->Value->Prop
 |.non,u=>u=Ybs
 |.bl b,u=>u=Yeq b
 |.int i,u=>∃t,u=Ydu i t
 |.str x,u=>∃t,u=YeR x t
 |.byt b,u=>∃t,u=Value.bytes b t
 |.flt b,u=>∃t,u=Value.float b t
 |.ref a,u=>u=YaP a
 |.ty n,u=>u=Value.type n

abbrev Vals  : List V->List Value->Prop:=Paired RelV
def Vals.length    (r:Vals xs us):xs.length=us.length:=Ydn r
theorem Vals.get  : ∀{xs } {us } {i:Nat} {x },Vals xs us->xs[i]?=some x->∃u,us[i]?=some u/\RelV x u
 |_,_,_,_,.nil,e=>by simp at e
 |_,_,0,_,.cons r _,e=>by simp at e;subst e;exact⟨_,rfl,r⟩
 |_,_,i+1,x,.cons _ t,e=>by
  obtain⟨u,h1,h2⟩:=Vals.get (i:=i) (x:=x) t (by simpa using e)
  exact⟨u,by simpa using h1,h2⟩
theorem Vals.set    (r:RelV x u):∀{xs } {us } i ,Vals xs us->Vals (xs.set i x) (us.set i u)
 |_,_,_,.nil=>.nil
 |_,_,0,.cons _ t=>.cons r t
 |_,_,i+1,.cons q t=>.cons q (Vals.set r i t)
theorem Vals.append  : ∀{xs ys } {us ws },Vals xs us->Vals ys ws->Vals (xs++ys) (us++ws)
 |_,_,_,_,.nil,s=>s
 |_,_,_,_,.cons r t,s=>.cons r (Vals.append t s)
theorem Vals.take  : ∀{xs } {us } n ,Vals xs us->Vals (xs.take n) (us.take n)
 |_,_,0,_=>.nil
 |_,_,_+1,.nil=>.nil
 |_,_,n+1,.cons r t=>.cons r (Vals.take n t)
theorem Vals.drop  : ∀{xs } {us } n ,Vals xs us->Vals (xs.drop n) (us.drop n)
 |_,_,0,r=>r
 |_,_,_+1,.nil=>.nil
 |_,_,n+1,.cons _ t=>Vals.drop n t
def RelO  : Option V->Option Value->Prop
 |some v,some u=>RelV v u
 |none,none=>True
 |_,_=>False
def KV  {κ:Type}:List (κ×V)->List (κ×Value)->Prop:=Paired λ(p:κ×V) (q:κ×Value)=>p.1=q.1/\RelV p.2 q.2

noncomputable def kV  : Key->V
 |.inl i=>.int i
 |.inr x=>.str x

set_option genInjectivity true
inductive HO where
 |lst (xs:List V)
 |tup (xs:List V)
 |dK (kvs:List (Key×V))|dT (kvs:List (List Key×V))
 |set (S:Int->Bool) (n:Nat)
 |ins (C dx:Addr) (fs:List (Str×V))
 |own (x:Addr)
 |xd (fs:List (Str×V))
 |met (f x:Addr)
 |rng (lo hi:Int)
 |frz (o:Obj) (u:HO)
 |tbl (ps:Array Value)
 |ext (φ:Heap->Prop)

set_option genInjectivity false
abbrev Hp:=Addr->Option HO
noncomputable def upd  (H:Hp)(a:Addr)(o:HO):Hp:=λb=>if b=a then some o else H b
def jaj     : upd H a o a=some o:=by unfold upd;rw[if_pos rfl]
def jae     (h:b≠a):upd H a o b=H b:=by unfold upd;rw[if_neg h]
def jpX  {H:Hp}(h:H a=some o)(h':H b=some u)(d:o≠u):a≠b:=by
 intro e;subst e;rw[h]at h';exact d (Yas h')
def jak  {H:Hp}(h:H a=some o)(h':H b=none):a≠b:=by
 intro e;subst e;rw[h]at h';cases h'

def TupD  (h:Heap)(a:Addr)(items:Array Value):Prop:=∃o,h.get? a=some o/\o.cls=.type "tuple" /\ ∃n,o.data=.seq items n/\o.dict=none
def TupD.tup     (x:TupD h a items):IsTup h a items:=let ⟨o,e,c,n,d,_⟩:=x;⟨o,e,c,n,d⟩
def TupD.new  (h:Heap) items:TupD (h.push { cls:=.type "tuple",data:=.seq items }) h.objs.size items:=⟨_,Yau _ rfl,rfl,_,rfl,rfl⟩
section
variable (P:Program)(w:World)
def jaC (H:Hp)(h:Heap)(a:Addr):HO->Prop
 |.lst xs=>xs.length<=Yag/\∃(its:List Value) (n:Nat),Vals xs its/\h.get? a=some { cls:=.type "list",data:=.seq its.toArray n }
 |.tup xs=>xs.length<=Yag/\∃its:List Value,Vals xs its/\TupD h a its.toArray
 |.dK kvs=>kvs.length<=Yag/\(a==Ya3)=false/\∃vs,KV kvs vs/\h.DictOf (jas P w) a vs
 |.dT kvs=>kvs.length<=Yag/\(a==Ya3)=false/\∃xs:List (List Key×Addr×Value),
   Paired (λ(p:List Key×V) (q:List Key×Addr×Value)=>p.1=q.1/\H q.2.1=some (.tup (p.1.map kV))/\RelV p.2 q.2.2) kvs xs/\
   ∃o es ep,h.get? a=some o/\o.ExactDict/\o.data=.dict es ep/\es.toList=xs.map (entryOfKey (YdY (jas P w)))/\(xs.map (·.1)).Nodup
 |.set S n=>h.SetOf (intKind P w) a S n
 |.ins C dx fs=>H dx=some (.own a)/\fs.length<=1000/\dx≠a/\h.get? a=some (YdM C dx)/\
   ∃mA,h.Ns1 dx mA/\(∀f,RelO (fs.lookup f) (mA f))/\PySem.Within mA (fs.map (·.1))
 |.own _=>∃o,h.get? a=some o
 |.xd fs=>∃mA,h.Ns1 a mA/\∀f,RelO (fs.lookup f) (mA f)
 |.rng lo hi=>∃t u v,h.get? a=some { cls:=.type "range",data:=.fields #[.int lo t,.int hi u,.int 1 v] }
 |.frz o u=>h.get? a=some o/\jaC H h a u
 |.tbl ps=>h.get? a=some { cls:=.none,data:=.fields ps }
 |.met f x=>h.get? a=some (Ydv (.ref f) (.ref x))
 |.ext φ=>φ h/\(∃o,h.get? a=some o)/\∀h1 h2:Heap,φ h1->(∀o,h1.get? a=some o->h2.get? a=some o)->φ h2
def HOk (H:Hp)(h:Heap):Prop:=∀a o,H a=some o->jaC P w H h a o
end

section
variable {P:Program}{w:World}{H H':Hp}{h h':Heap}{a:Addr}{o:HO}
theorem jaC.lt  (x:jaC P w H h a o):a<h.objs.size:=by
 cases o with
 |lst xs=>obtain⟨_,_,_,_,e⟩:=x;exact Yam e
 |tup xs=>obtain⟨_,_,_,p⟩:=x;exact p.tup.lt
 |dK kvs=>obtain⟨_,_,_,_,o,_,_,e,_⟩:=x;exact Yam e
 |dT kvs=>obtain⟨_,_,_,_,o,_,_,e,_⟩:=x;exact Yam e
 |set S n=>obtain⟨o,_,_,_,e,_⟩:=x;exact Yam e
 |ins C dx fs=>obtain⟨_,_,_,e,_⟩:=x;exact Yam e
 |own y=>obtain⟨_,e⟩:=x;exact Yam e
 |xd fs=>obtain⟨_,⟨_,_,_,e,_⟩,_⟩:=x;exact Yam e
 |rng lo hi=>obtain⟨_,_,_,e⟩:=x;exact Yam e
 |frz ob u=>obtain⟨e,_⟩:=x;exact Yam e
 |tbl ps=>exact Yam (show h.get? a=some _ from x)
 |met f y=>exact Yam (show h.get? a=some _ from x)
 |ext φ=>obtain⟨_,⟨_,e⟩,_⟩:=x;exact Yam e
theorem Paired.mapP    : ∀{l₁ } {l₂ },Paired F l₁ l₂->(∀a b,F a b->G a b)->Paired G l₁ l₂
 |_,_,.nil,_=>.nil
 |_,_,.cons r t,f=>.cons (f _ _ r) (Paired.mapP t f)
def jaC.stay  (x:jaC P w H h a o)(k:∀b u,(b=a\/H b=some (.own a))->h.get? b=some u->h'.get? b=some u)
  (ho:∀b,H b=some (.own a)->H' b=some (.own a)) (ht:∀b xs,H b=some (.tup xs)->H' b=some (.tup xs)):jaC P w H' h' a o:=by
 induction o with
 |lst xs=>obtain⟨z,its,n,r,e⟩:=x;exact⟨z,its,n,r,k _ _ (.inl rfl) e⟩
 |tup xs=>obtain⟨z,its,r,ob,e,c⟩:=x;exact⟨z,its,r,ob,k _ _ (.inl rfl) e,c⟩
 |dK kvs=>obtain⟨z,y,vs,r,ob,es,ep,e,c⟩:=x;exact⟨z,y,vs,r,ob,es,ep,k _ _ (.inl rfl) e,c⟩
 |dT kvs=>
  obtain⟨z,y,xs,r,ob,es,ep,e,c⟩:=x;exact⟨z,y,xs,Paired.mapP r λp q z=>⟨z.1,ht _ _ z.2.1,z.2.2⟩,ob,es,ep,k _ _ (.inl rfl) e,c⟩
 |set S n=>obtain⟨ob,es,ep,t,e,c⟩:=x;exact⟨ob,es,ep,t,k _ _ (.inl rfl) e,c⟩
 |ins C dx fs=>
  obtain⟨d,z,ne,e,mA,⟨od,es,ep,e2,c⟩,r⟩:=x;exact⟨ho _ d,z,ne,k _ _ (.inl rfl) e,mA,⟨od,es,ep,k _ _ (.inr d) e2,c⟩,r⟩
 |own y=>obtain⟨ob,e⟩:=x;exact⟨ob,k _ _ (.inl rfl) e⟩
 |xd fs=>obtain⟨mA,⟨od,es,ep,e,c⟩,r⟩:=x;exact⟨mA,⟨od,es,ep,k _ _ (.inl rfl) e,c⟩,r⟩
 |rng lo hi=>obtain⟨t,u,v,e⟩:=x;exact⟨t,u,v,k _ _ (.inl rfl) e⟩
 |frz ob u ih=>obtain⟨e,q⟩:=x;exact⟨k _ _ (.inl rfl) e,ih q⟩
 |tbl ps=>
  have e:h.get? a=some { cls:=.none,data:=.fields ps }:=x;show h'.get? a=some { cls:=.none,data:=.fields ps };exact k a _ (.inl rfl) e
 |met f y=>
  have e:h.get? a=some (Ydv (.ref f) (.ref y)):=x;show h'.get? a=some (Ydv (.ref f) (.ref y));exact k a _ (.inl rfl) e
 |ext φ=>obtain⟨p,⟨o,e⟩,st⟩:=x;exact⟨st _ _ p λo q=>k _ _ (.inl rfl) q,⟨o,k _ _ (.inl rfl) e⟩,st⟩
def HOk.lt  (x:HOk P w H h)(e:H a=some o):a<h.objs.size:=(x a o e).lt
def HOk.fresh  (x:HOk P w H h)(e:h.objs.size<=a):H a=none:=by
 cases q:H a with
 |none=>rfl
 |some u=>exact absurd (Yan (x.lt q) e) (Ybe _)
def HOk.kept  (x:HOk P w H h)(k:∀b u,h.get? b=some u->h'.get? b=some u):HOk P w H h':=λa o e=>
 (x a o e).stay (λb u _ q=>k b u q) (λ_ q=>q) λ_ _ q=>q
def HOk.laid  (x:HOk P w H h)(k:∀b u,h.get? b=some u->h'.get? b=some u)(hp:h.objs.size<=a)(new:jaC P w (upd H a o) h' a o):HOk P w (upd H a o) h':=λb u e=>by
 have hn:=x.fresh hp;by_cases hb:b=a
 ·subst hb;rw[jaj]at e;cases e;exact new
 ·rw[jae hb]at e;exact(x b u e).stay (λc v _ q=>k c v q) (λc q=>by rw[jae (jak q hn)];exact q) λc xs q=>by rw[jae (jak q hn)];exact q
end

def Rd  (H:Hp)(a:Addr)(u:HO):Prop:=H a=some u\/∃o,H a=some (.frz o u)
def Rd.ok        (r:Rd H a u)(x:HOk P w H h):jaC P w H h a u:=by
 rcases r with r|⟨o,r⟩
 ·exact x a u r
 ·obtain⟨_,q⟩:=x a _ r;exact q
def Mut  : Option HO->Prop
 |some (.lst _)=>True
 |some (.dK _)=>True
 |some (.dT _)=>True
 |some (.set _ _)=>True
 |some (.ins _ _ _)=>True
 |some (.ext _)=>True
 |_=>False

def HOk.write  (ok:HOk P w H h)(mu:Mut (H x))(he:e=x\/H e=some (.own x))(k:∀b u,b≠e->h.get? b=some u->h'.get? b=some u)(heo:∃u,h'.get? e=some u)
  (new:jaC P w (upd H x o') h' x o'):HOk P w (upd H x o') h':=λb u q=>by
 have nown:∀c y,H c=some (.own y)->c≠x:=λc y r z=>by subst z;rw[r]at mu;exact mu
 have ntup:∀c xs,H c=some (.tup xs)->c≠x:=λc xs r z=>by subst z;rw[r]at mu;exact mu
 by_cases hb:b=x
 ·subst hb;rw[jaj]at q;cases q;exact new
 ·rw[jae hb]at q;by_cases hbe:b=e
  ·have q':H b=some (.own x):=by
    rcases he with z|z
    ·exact absurd (hbe.trans z) hb
    ·rw[hbe];exact z
   rw[q]at q';cases q';obtain⟨v,hv⟩:=heo;exact⟨v,by rw[hbe];exact hv⟩
  ·refine(ok b u q).stay (λc v hc r=>k c v ?_ r) (λc r=>by rw[jae (nown c b r)];exact r) λc xs r=>by rw[jae (ntup c xs r)];exact r
   rcases hc with rfl|hc
   ·exact hbe
   ·rintro rfl;rcases he with z|z
    ·exact nown c b hc z
    ·rw[hc]at z;cases z;exact hb rfl

structure Un (fs ex:List Addr)(H H':Hp)(h h':Heap):Prop where
 keep:∀b o,h.get? b=some o->H b=none->b∉fs->b∉ex->h'.get? b=some o
 slot:∀b o,h.get? b=some o->H b=none->b∈fs->b∉ex->∃sl,h'.get? b=some { o with slots:=sl }
 free:∀b o,h.get? b=some o->H b=none->b∉ex->H' b=none
 there:∀b o,h.get? b=some o->b∉ex->∃o',h'.get? b=some o'
 tups:∀b xs,H b=some (.tup xs)->H' b=some (.tup xs)
 frzs:∀b o u,H b=some (.frz o u)->H' b=some (.frz o u)
 tbls:∀b ps,H b=some (.tbl ps)->∃more,H' b=some (.tbl (ps++more))

def Un.any  (u:Un fs ex H H1 h h1)(q:h.get? b=some ob)(n:H b=none)(hx:b∉ex):∃sl,h1.get? b=some { ob with slots:=sl }:=by
 by_cases hb:b∈fs
 ·exact u.slot b ob q n hb hx
 ·exact⟨ob.slots,u.keep b ob q n hb hx⟩
def Un.trans  (a:Un fs ex H H1 h h1)(b:Un fs ex H1 H2 h1 h2):Un fs ex H H2 h h2 where
 keep:=λc ob q n hc hx=>b.keep c ob (a.keep c ob q n hc hx) (a.free c ob q n hx) hc hx
 slot:=λc ob q n hc hx=>by
  obtain⟨sl,e1⟩:=a.slot c ob q n hc hx;obtain⟨sl',e2⟩:=b.slot c _ e1 (a.free c ob q n hx) hc hx;exact⟨sl',e2⟩
 free:=λc ob q n hx=>by
  obtain⟨o',e1⟩:=a.there c ob q hx;exact b.free c o' e1 (a.free c ob q n hx) hx
 there:=λc ob q hx=>by
  obtain⟨o',e1⟩:=a.there c ob q hx;exact b.there c o' e1 hx
 tups:=λc xs q=>b.tups c xs (a.tups c xs q)
 frzs:=λc ob xs q=>b.frzs c ob xs (a.frzs c ob xs q)
 tbls:=λc ps q=>by
  obtain⟨m1,e1⟩:=a.tbls c ps q;obtain⟨m2,e2⟩:=b.tbls c _ e1;exact⟨m1++m2,by rw[e2,Yfj]⟩
def Un.kept  (k:∀b u,h.get? b=some u->h'.get? b=some u):Un fs ex H H h h':=
 ⟨λb ob q _ _ _=>k b ob q,λb ob q _ _ _=>⟨ob.slots,k b ob q⟩,λ_ _ _ n _=>n,λb ob q _=>⟨ob,k b ob q⟩,λ_ _ q=>q,λ_ _ _ q=>q,λ_ ps q=>⟨#[],by rw[q];simp⟩⟩
def Un.refl  : Un fs ex H H h h:=Un.kept λ_ _ q=>q
def Un.laid  {h: Heap}{a: Addr}(k:∀b u,h.get? b=some u->h'.get? b=some u)(hp:h.objs.size<=a)(hn:H a=none):Un fs ex H (upd H a o) h h' where
 keep:=λb u q _ _ _=>k b u q
 slot:=λb u q _ _ _=>⟨u.slots,k b u q⟩
 free:=λb u q n _=>by rw[jae (YaM (Yan (Yam q) hp))];exact n
 there:=λb u q _=>⟨u,k b u q⟩
 tups:=λb xs q=>by rw[jae (jak q hn)];exact q
 frzs:=λb u xs q=>by rw[jae (jak q hn)];exact q
 tbls:=λb ps q=>⟨#[],by rw[jae (jak q hn),q];simp⟩
def Un.write  (mu:Mut (H x))(he:e=x\/H e=some (.own x))(k:∀b u,b≠e->h.get? b=some u->h'.get? b=some u)(heo:∃u,h'.get? e=some u):Un fs ex H (upd H x o) h h':=by
 have hx:∀b,H b=none->b≠x:=λb n z=>by subst z;rw[n]at mu;exact mu
 have hb:∀b,H b=none->b≠e:=λb n z=>by
  subst z;rcases he with r|r
  ·exact hx b n r
  ·rw[n]at r;cases r
 have hm:∀b u,H b=some u->¬Mut (some u)->b≠x:=λb u q nm z=>by subst z;rw[q]at mu;exact nm mu
 refine⟨λb u q n _ _=>k b u (hb b n) q,λb u q n _ _=>⟨u.slots,k b u (hb b n) q⟩,λb u q n _=>by rw[jae (hx b n)];exact n,λb u q _=>?_,
  λb xs q=>by rw[jae (hm b _ q λz=>z)];exact q,λb u xs q=>by rw[jae (hm b _ q λz=>z)];exact q,λb ps q=>⟨#[],by rw[jae (hm b _ q λz=>z),q];simp⟩⟩
 by_cases hbe:b=e
 ·subst hbe;exact heo
 ·exact⟨u,k b u hbe q⟩

noncomputable def trk  (h:Heap)(H:Hp):List Addr:=(YaO h.objs.size).filter λa=>(H a).isSome
def hidT  (h:Heap)(H:Hp):Heap:=PySem.W.hideAll h (trk h H)
def ji8  (h:Heap) H:(hidT h H).objs.size=h.objs.size:=PySem.W.hideAll_size _ _
def je3      (e:h.get? b=some o)(n:H b=none):(hidT h H).get? b=some o:=
 PySem.W.hideAll_get _ e λhm=>by
  have q:(H b).isSome=true:=(List.mem_filter.mp hm).2;rw[n]at q;simp at q
def jmi      (e:(hidT h H).get? b=some o):h.get? b=some o/\H b=none:=by
 have e':h.get? b=some o:=PySem.W.of_hideAll (trk h H) e;refine⟨e',?_⟩;cases q:H b with
 |none=>rfl
 |some x=>
  have hm:b∈trk h H:=List.mem_filter.mpr ⟨List.mem_range.mpr (Yam e'),by simp[q]⟩
  have z:(hidT h H).get? b=none:=PySem.W.hideAll_none (trk h H) hm;rw[z]at e;cases e

noncomputable def jmW  (g h:Heap)(L:Addr):List (Addr×Obj):=(YaO h.objs.size).filterMap λa=>if a=L\/(g.get? a).isSome=true then none else (h.get? a).map λo=>(a,o)
def rest  (g h:Heap)(L d:Addr):List (Addr×Obj):=(jmW g h L).filter λp=>decide (p.1≠d)

structure Mod (K:Yac)(mg:Str->Option Value)(base:Heap):Prop where
 kin:K.In base
 glob:base.Ns Yax mg
 blt:∃mb,base.Ns Ydz mb/\∀x:Str,x ≠ "__name__" -> mb x=YbR x
 nolimit:base.NoLimit
 sys:∃o,K.lookup Ya3=some o/\o.cls=.type "dict"

structure Cx where
 prog:Program
 w:World
 K:Yac
 mg:Str->Option Value
 base:Heap
 A:Around
 N:List Str
 s₀:Shared
 H₀:Hp
 env:Env
 outer:List Env
 stack:List Env
 ex:List Addr
 fn:Str->Bool
 calm:Bool
 pn:List (Addr×Obj)
 xe:Value->Shared->Prop
noncomputable def frs  (l:List Env):List Addr:=l.filterMap (·.frame)
abbrev Cx.fs  (X:Cx):List Addr:=frs X.outer

def Vis  (sc:Scope)(x:Str):Prop:=sc.names.lookup x=some .local\/sc.names.lookup x=some .cell\/sc.names.lookup x=some .free
def Loc  (sc:Scope)(x:Str):Prop:=sc.names.lookup x=some .local\/sc.names.lookup x=some .cell
def Look  (env:Env)(h:Heap)(m:Str->Option Value)(x:Str)(u:Value):Prop:=
 (env.kindOf x=some .local/\m x=some u)\/((env.kindOf x=some .cell\/env.kindOf x=some .free)/\∃c,env.cells.lookup x=some c/\h.IsCell c (some u))

structure Cx.Ok (X:Cx):Prop where
 mod:Mod X.K X.mg X.base
 kind:X.env.scope.kind=.function
 glob:X.env.globals=Yax
 blt:X.env.builtins=Ydz
 above:X.s₀.heap.objs.size<=X.env.locals
 inj:∀x y c,X.env.cells.lookup x=some c->X.env.cells.lookup y=some c->x=y
 has:∀x,(X.env.kindOf x=some .cell\/X.env.kindOf x=some .free)->∃c,X.env.cells.lookup x=some c
 cab:∀x c,X.fn x=true->X.env.cells.lookup x=some c->X.s₀.heap.objs.size<=c
 hd:X.calm=true->X.A.handled=none
 frames:X.A.frames=some X.stack
 stk:X.stack=X.outer\/(X.stack=X.env::X.outer/\X.env.frame=some X.env.locals)
 exf:∀b∈X.ex,b≠X.env.locals/\∀x c,X.env.cells.lookup x=some c->c≠b
 bs:∀b o,X.base.get? b=some o->X.s₀.heap.get? b=some o/\X.H₀ b=none
 bsz:X.base.objs.size<=X.s₀.heap.objs.size
 noex:∀b o,X.base.get? b=some o->b∉X.ex
 exfs:∀b∈X.ex,b∉X.fs
 funs:X.s₀.heap.FunFrames X.base X.outer
 frf:∀b∈X.fs,X.H₀ b=none

structure Inv (X:Cx)(pins:List (Addr×Obj))(σ:List (Option V))(H:Hp)(s:Shared):Prop where
 ok:X.Ok
 os:s.os=X.s₀.os
 bare:AllBare s.gens
 base:Un X.fs X.ex X.H₀ H X.s₀.heap s.heap
 loc:∃m,s.heap.Ns X.env.locals m/\∀(i:Nat) (x:Str) (v:V),X.N[i]?=some x->σ[i]?=some (some v)->Vis X.env.scope x->∃u,RelV v u/\Look X.env s.heap m x u
 cell:∀x c,X.env.cells.lookup x=some c->∃v,s.heap.IsCell c v
 free:H X.env.locals=none
 freeC:∀x c,X.env.cells.lookup x=some c->H c=none
 pin:∀p∈X.pn++pins,s.heap.get? p.1=some p.2/\H p.1=none/\p.1≠X.env.locals/\p.1∉X.fs/\∀v,p.2.data≠.cell v
 hok:HOk X.prog X.w H s.heap
 len:σ.length=X.N.length

section
variable {X:Cx}{pins:List (Addr×Obj)}{σ:List (Option V)}{H H':Hp}{s:Shared}{h':Heap}

def Cx.Ok.nofr  (ok:X.Ok)(e:X.base.get? b=some o):b∉X.fs:=λhb=>by
 have:=(ok.funs.mem hb).1;rw[e]at this;cases this
def Inv.bs  (I:Inv X pins σ H s):∀b o,X.base.get? b=some o->s.heap.get? b=some o/\H b=none:=λb o e=>
 ⟨I.base.keep b o (I.ok.bs b o e).1 (I.ok.bs b o e).2 (I.ok.nofr e) (I.ok.noex b o e),I.base.free b o (I.ok.bs b o e).1 (I.ok.bs b o e).2 (I.ok.noex b o e)⟩
def Inv.bk  (I:Inv X pins σ H s):∀b o,X.base.get? b=some o->s.heap.get? b=some o:=λb o e=>(I.bs b o e).1
def Inv.mod  (I:Inv X pins σ H s):Mod X.K X.mg X.base:=I.ok.mod
def Inv.kIn  (I:Inv X pins σ H s):X.K.In s.heap:=I.ok.mod.kin.keeps I.bk
def Inv.lt  (I:Inv X pins σ H s):X.env.locals<s.heap.objs.size:=let ⟨_,hn,_⟩:=I.loc;hn.lt
def Inv.sz  (I:Inv X pins σ H s):X.s₀.heap.objs.size<=s.heap.objs.size:=Yah I.ok.above (Yb1 I.lt)
def Inv.nofs  (I:Inv X pins σ H s){a:Addr}(h:s.heap.objs.size<=a):a∉X.fs:=λhb=>by
 obtain⟨_,o,ho,_⟩:=I.ok.funs.mem hb;exact absurd (Yan (Yam ho) (Yah I.sz h)) (Ybe _)
def Inv.cne  (I:Inv X pins σ H s):∀x c,X.env.cells.lookup x=some c->c≠X.env.locals:=λx c e z=>by
 obtain⟨v,o,ho,hd⟩:=I.cell x c e;obtain⟨m,⟨o',es,ep,ho',hd',_⟩,_⟩:=I.loc;rw[z,ho']at ho;cases ho;rw[hd']at hd;cases hd
theorem Inv.funs  (I:Inv X pins σ H s):s.heap.FunFrames X.base X.outer:=by
 have all:∀(l:List Env),(∀b∈frs l,b∈X.fs)->X.s₀.heap.FunFrames X.base l->s.heap.FunFrames X.base l:=by
  intro l
  induction l with
  |nil=>intro _ _;trivial
  |cons env r ih=>
   intro hs hl;obtain⟨hk,⟨L,o,hf,hn,ho,hd⟩,hr⟩:=hl;have hL:L∈X.fs:=hs L (by unfold frs;rw[YcD,hf];exact YaC)
   obtain⟨sl,e⟩:=I.base.slot L o ho (I.ok.frf L hL) hL λz=>I.ok.exfs L z hL;exact⟨hk,⟨L,_,hf,hn,e,hd⟩,ih (λb hb=>hs b (by unfold frs;rw[YcD,hf];exact Yao _ hb)) hr⟩
 exact all X.outer (λ_ hb=>hb) I.ok.funs

def Inv.stack  (I:Inv X pins σ H s):s.heap.FunFrames X.base X.stack:=by
 rcases I.ok.stk with e|⟨e,hf⟩
 ·rw[e];exact I.funs
 ·rw[e];obtain⟨m,hn,_⟩:=I.loc;refine .cons (by rw[I.ok.kind];decide) hf hn ?_ I.funs
  exact Yde (Yah I.ok.bsz I.ok.above)
def Inv.stkSub  (I:Inv X pins σ H s):∀b∈frs X.stack,b∈X.env.locals::X.fs:=λb hb=>by
 rcases I.ok.stk with e|⟨e,hf⟩
 ·rw[e]at hb;exact Yao _ hb
 ·rw[e]at hb;unfold frs at hb;rw[YcD,hf]at hb;exact hb
def Inv.stkFree  (I:Inv X pins σ H s):∀b∈frs X.stack,H b=none:=λb hb=>by
 rcases YaW.mp (I.stkSub b hb)with e|hb
 ·rw[e];exact I.free
 ·obtain⟨_,o,ho,_⟩:=I.ok.funs.mem hb;exact I.base.free b o ho (I.ok.frf b hb) λz=>I.ok.exfs b z hb

def Inv.step     {ch:List Addr}(I:Inv X pins σ H s)
  (hch:∀b∈ch,(b∈X.ex\/X.s₀.heap.objs.size<=b)/\b≠X.env.locals/\(∀x c,X.env.cells.lookup x=some c->c≠b)/\∀p∈X.pn++pins,p.1≠b)
  (keep:∀b o,b≠X.env.locals->b∉X.fs->b∉ch->s.heap.get? b=some o->H b=none->h'.get? b=some o)
  (slot:∀b o,b≠X.env.locals->b∈X.fs->b∉ch->s.heap.get? b=some o->H b=none->∃sl,h'.get? b=some { o with slots:=sl }) (free:∀b o,b∉ch->s.heap.get? b=some o->H b=none->H' b=none)
  (there:∀b o,b∉ch->s.heap.get? b=some o->∃o',h'.get? b=some o')
  (tups:∀b xs,H b=some (.tup xs)->H' b=some (.tup xs)) (frzs:∀b o u,H b=some (.frz o u)->H' b=some (.frz o u)) (tbls:∀b ps,H b=some (.tbl ps)->∃more,H' b=some (.tbl (ps++more)))
  (ns:∀m,s.heap.Ns X.env.locals m->h'.Ns X.env.locals m) (hok:HOk X.prog X.w H' h') (hg:AllBare g') :
  Inv X pins σ H' { s with heap:=h',gens:=g',drawn:=d',toks:=t' }:=by
 have neL:∀b o,X.s₀.heap.get? b=some o->b≠X.env.locals:=λb o e=>YaM (Yan (Yam e) I.ok.above);have neC:∀b o,X.s₀.heap.get? b=some o->b∉X.ex->b∉ch:=λb o e hx hb=>by
  rcases(hch b hb).1 with z|z
  ·exact hx z
  ·exact absurd (Yan (Yam e) z) (Ybe _)
 have cellK:∀x c,X.env.cells.lookup x=some c->∀v,s.heap.IsCell c v->h'.IsCell c v:=λx c e v ⟨o,ho,hd⟩=>by
  have nch:c∉ch:=λz=>(hch c z).2.2.1 x c e rfl;by_cases hc:c∈X.fs
  ·obtain⟨sl,q⟩:=slot c o (I.cne x c e) hc nch ho (I.freeC x c e);exact⟨_,q,hd⟩
  ·exact⟨o,keep c o (I.cne x c e) hc nch ho (I.freeC x c e),hd⟩
 refine⟨I.ok,I.os,hg,⟨λb o e n hb hx=>?_,λb o e n hb hx=>?_,λb o e n hx=>?_,λb o e hx=>?_,λb xs e=>tups b xs (I.base.tups b xs e),λb o xs e=>frzs b o xs (I.base.frzs b o xs e),λb ps e=>?_⟩,?_,λx c e=>?_,?_,λx c e=>?_,λp hp=>?_,hok,I.len⟩
 ·exact keep b o (neL b o e) hb (neC b o e hx) (I.base.keep b o e n hb hx) (I.base.free b o e n hx)
 ·obtain⟨sl,e1⟩:=I.base.slot b o e n hb hx;obtain⟨sl',e2⟩:=slot b _ (neL b o e) hb (neC b o e hx) e1 (I.base.free b o e n hx);exact⟨sl',e2⟩
 ·obtain⟨o',e1⟩:=I.base.there b o e hx;exact free b o' (neC b o e hx) e1 (I.base.free b o e n hx)
 ·obtain⟨o',e1⟩:=I.base.there b o e hx;exact there b o' (neC b o e hx) e1
 ·obtain⟨m1,e1⟩:=I.base.tbls b ps e;obtain⟨m2,e2⟩:=tbls b _ e1;exact⟨m1++m2,by rw[e2,Yfj]⟩
 ·obtain⟨m,hn,hl⟩:=I.loc;refine⟨m,ns m hn,λi x v e1 e2 e3=>?_⟩;obtain⟨u,r,l⟩:=hl i x v e1 e2 e3;refine⟨u,r,?_⟩;rcases l with l|⟨k,c,e,z⟩
  ·exact .inl l
  ·exact .inr ⟨k,c,e,cellK x c e _ z⟩
 ·obtain⟨v,z⟩:=I.cell x c e;exact⟨v,cellK x c e v z⟩
 ·obtain⟨m,⟨o,_,_,ho,_⟩,_⟩:=I.loc;exact free _ o (λz=>(hch _ z).2.1 rfl) ho I.free
 ·obtain⟨v,o,ho,hd⟩:=I.cell x c e;exact free c o (λz=>(hch c z).2.2.1 x c e rfl) ho (I.freeC x c e)
 ·obtain⟨e,n,ne,nf,d⟩:=I.pin p hp;have nch:p.1∉ch:=λz=>(hch p.1 z).2.2.2 p hp rfl;exact⟨keep p.1 p.2 ne nf nch e n,free p.1 p.2 nch e n,ne,nf,d⟩
def Inv.un   (I:Inv X pins σ H s)(u:Un X.fs [] H H' s.heap h')(hok:HOk X.prog X.w H' h'):Inv X pins σ H' { s with heap:=h',toks:=t' }:=by
 obtain⟨m,⟨o,es,ep,ho,r⟩,_⟩:=id I.loc;obtain⟨sl,hL⟩:=u.any ho I.free (by simp)
 exact I.step (g':=s.gens) (d':=s.drawn) (ch:=[]) (λ_ z=>nomatch z) (λb o _ hb _ e n=>u.keep b o e n hb (by simp)) (λb o _ hb _ e n=>u.slot b o e n hb (by simp)) (λb o _ e n=>u.free b o e n (by simp)) (λb o _ e=>u.there b o e (by simp)) u.tups u.frzs u.tbls (λm' hm=>by
  obtain⟨o',es',ep',ho',r'⟩:=hm;rw[ho]at ho';cases ho';exact⟨_,es',ep',hL,r'⟩) hok I.bare
def Inv.call      (I:Inv X pins σ H s)(u:Un (frs X.stack) ch H H' s.heap h')(hok:HOk X.prog X.w H' h')(hg:AllBare g')
  (hch:∀b∈ch,(b∈X.ex\/X.s₀.heap.objs.size<=b)/\b≠X.env.locals/\(∀x c,X.env.cells.lookup x=some c->c≠b)/\∀p∈X.pn++pins,p.1≠b) :
  Inv X pins σ H' { s with heap:=h',gens:=g',drawn:=d',toks:=t' }:=by
 obtain⟨m,⟨o,es,ep,ho,r⟩,_⟩:=id I.loc;obtain⟨sl,hL⟩:=u.any ho I.free λz=>(hch _ z).2.1 rfl;exact I.step (ch:=ch) hch (λb o hL hb hc e n=>u.keep b o e n (λz=>(YaW.mp (I.stkSub b z)).elim hL hb) hc) (λb o _ _ hc e n=>u.any e n hc) (λb o hc e n=>u.free b o e n hc) (λb o hc e=>u.there b o e hc) u.tups u.frzs u.tbls (λm' hm=>by
  obtain⟨o',es',ep',ho',r'⟩:=hm;rw[ho]at ho';cases ho';exact⟨_,es',ep',hL,r'⟩) hok hg
def Inv.turned    (I:Inv X pins σ H s)(k:∀b o,b≠it->s.heap.get? b=some o->h'.get? b=some o)(hn:H it=none)(hL:it≠X.env.locals)
  (h1:it∈X.ex\/X.s₀.heap.objs.size<=it) (h2:∀x c,X.env.cells.lookup x=some c->c≠it) (h3:∀p∈X.pn++pins,p.1≠it):Inv X pins σ H { s with heap:=h',toks:=t' }:=by
 have nit:∀b u,H b=some u->b≠it:=λb u e z=>by rw[z,hn]at e;cases e
 refine I.step (g':=s.gens) (d':=s.drawn) (ch:=[it]) (λb hb=>?_) (λb o _ _ hc e _=>k b o (λz=>hc (by simp[z])) e) (λb o _ _ hc e _=>⟨o.slots,k b o (λz=>hc (by simp[z])) e⟩) (λ_ _ _ _ n=>n)
  (λb o hc e=>⟨o,k b o (λz=>hc (by simp[z])) e⟩) (λ_ _ e=>e) (λ_ _ _ e=>e) (λb ps e=>⟨#[],by rw[e];simp⟩) (λm hm=>?_) (λb u e=>?_) I.bare
 ·have e:b=it:=by simpa using hb
  subst e;exact⟨h1,hL,h2,h3⟩
 ·obtain⟨o,es,ep,ho,r⟩:=hm;exact⟨o,es,ep,k _ o (Ne.symm hL) ho,r⟩
 ·refine(I.hok b u e).stay (λc v hc q=>k c v ?_ q) (λ_ q=>q) λ_ _ q=>q;rcases hc with z|z
  ·rw[z];exact nit b u e
  ·exact nit c _ z
def Inv.tok  (I:Inv X pins σ H s) t:Inv X pins σ H { s with toks:=t }:=I.un (h':=s.heap) (t':=t) Un.refl I.hok
def Inv.kept   (I:Inv X pins σ H s)(k:∀b u,s.heap.get? b=some u->h'.get? b=some u):Inv X pins σ H { s with heap:=h',toks:=t' }:=I.un (Un.kept k) (I.hok.kept k)
def Inv.laid  {a:Addr}(I:Inv X pins σ H s)(k:∀b u,s.heap.get? b=some u->h'.get? b=some u)(hp:s.heap.objs.size<=a)(new:jaC X.prog X.w (upd H a o) h' a o) :
  Inv X pins σ (upd H a o) { s with heap:=h',toks:=t' }:=I.un (Un.laid k hp (I.hok.fresh hp)) (I.hok.laid k hp new)
def Inv.write     (I:Inv X pins σ H s)(mu:Mut (H x))(he:e=x\/H e=some (.own x))(k:∀b u,b≠e->s.heap.get? b=some u->h'.get? b=some u)(heo:∃u,h'.get? e=some u)
  (new:jaC X.prog X.w (upd H x o) h' x o):Inv X pins σ (upd H x o) { s with heap:=h',toks:=t' }:=I.un (Un.write mu he k heo) (I.hok.write mu he k heo new)
def Inv.pins_of  {pins':List (Addr×Obj)}(I:Inv X pins σ H s)(h:∀p∈pins',s.heap.get? p.1=some p.2/\H p.1=none/\p.1≠X.env.locals/\p.1∉X.fs/\∀v,p.2.data≠.cell v):Inv X pins' σ H s:=
 ⟨I.ok,I.os,I.bare,I.base,I.loc,I.cell,I.free,I.freeC,λp hp=>(List.mem_append.mp hp).elim (λz=>I.pin p (YbB _ z)) (h p),I.hok,I.len⟩

def jdq  {N:List Str}(hN:N.Nodup){i j:Nat}(a:N[i]?=some x)(b:N[j]?=some x):i=j:=by
 obtain⟨h1,e1⟩:=List.getElem?_eq_some_iff.mp a;obtain⟨h2,e2⟩:=List.getElem?_eq_some_iff.mp b;exact(List.getElem_inj hN).mp (e1.trans e2.symm)

section
variable {M:Model}{A:Around}{E:Value->Shared->Prop}{i:Nat}{x:Str}{v:V}{u:Value}{Q:Unit->Shared->Prop}
def jfg (I:Inv X pins σ H s)(hN:X.N.Nodup)(hi:X.N[i]?=some x)(hx:Loc X.env.scope x)(r:RelV v u)
  (h:∀s',Inv X pins (σ.set i (some v)) H s'->(∃a,YdQ a s.heap s'.heap/\(a=X.env.locals\/X.env.cells.lookup x=some a))->Q () s') (hf:X.fn x=true\/X.env.scope.names.lookup x=some .local:=by first|exact .inl rfl|exact .inr rfl|assumption):wpAny M A (storeName X.env x u) Q E s:=by
 obtain⟨m,hn,hl⟩:=id I.loc;have hcls:(X.env.scope.kind == .class||(X.env.scope.kind == .module&&X.env.locals != X.env.globals))=false:=by rw[I.ok.kind];rfl
 have hiσ:i<σ.length:=by rw[I.len];exact(List.getElem?_eq_some_iff.mp hi).1
 have cne:=I.cne;have tracked:∀{a:Addr} {h':Heap},(∃o,s.heap.get? a=some o/\H a=none)->YdQ a s.heap h'->HOk X.prog X.w H h':=λ{a h'} ha hs b ob e=>by
  obtain⟨_,_,hfree⟩:=ha;refine(I.hok b ob e).stay (λc w' hc q=>(hs.2 c ?_).trans q) (λ_ q=>q) λ_ _ q=>q;rintro rfl;rcases hc with rfl|hc
  ·rw[hfree]at e;cases e
  ·rw[hfree]at hc;cases hc
 rcases hx with hk|hk
 ·refine wpAny_storeName_local hk hn (λh' hn' hs=>?_) hcls;obtain⟨oL,_,_,hoL,_⟩:=id hn;refine h _ ⟨I.ok,I.os,I.bare,⟨λb o e n hb hx=>?_,λb o e n hb hx=>?_,I.base.free,λb o e hx=>?_,I.base.tups,I.base.frzs,I.base.tbls⟩,⟨_,hn',λj y v' e1 e2 e3=>?_⟩,λy c e=>?_,I.free,I.freeC,λp hp=>?_,tracked ⟨oL,hoL,I.free⟩ hs,by simpa using I.len⟩ ⟨_,hs,.inl rfl⟩
  ·exact(hs.2 b (YaM (Yan (Yam e) I.ok.above))).trans (I.base.keep b o e n hb hx)
  ·obtain⟨sl,e1⟩:=I.base.slot b o e n hb hx;exact⟨sl,(hs.2 b (YaM (Yan (Yam e) I.ok.above))).trans e1⟩
  ·obtain⟨o',e1⟩:=I.base.there b o e hx;exact⟨o',(hs.2 b (YaM (Yan (Yam e) I.ok.above))).trans e1⟩
  ·by_cases hj:j=i
   ·subst hj;rw[hi]at e1;cases e1;rw[Ybp hiσ]at e2;cases e2;exact⟨u,r,.inl ⟨hk,by simp⟩⟩
   ·rw[YaX (Ne.symm hj)]at e2;obtain⟨u',r',q⟩:=hl j y v' e1 e2 e3;refine⟨u',r',?_⟩;rcases q with⟨k,e⟩|⟨k,c,e,z⟩
    ·refine .inl ⟨k,?_⟩;have:y≠x:=λe=>hj (jdq hN e1 (e ▸ hi));simp[this,e]
    ·exact .inr ⟨k,c,e,z.sameBut hs (cne y c e)⟩
  ·obtain⟨w',z⟩:=I.cell y c e;exact⟨w',z.sameBut hs (cne y c e)⟩
  ·obtain⟨e,n,ne,nf,d⟩:=I.pin p hp;exact⟨(hs.2 p.1 ne).trans e,n,ne,nf,d⟩
 ·have hfn:X.fn x=true:=by
   rcases hf with z|z
   ·exact z
   ·rw[z]at hk;cases hk
  obtain⟨c,hc⟩:=I.ok.has x (.inl hk);obtain⟨w',z⟩:=I.cell x c hc;refine wpAny_storeName_cell I.ok.kind hk hc z (λh' hc' hs=>?_);obtain⟨oc,hoc,hocd⟩:=id z;refine h { s with heap:=h' } ⟨I.ok,I.os,I.bare,⟨λb o e n hb hx=>?_,λb o e n hb hx=>?_,I.base.free,λb o e hx=>?_,I.base.tups,I.base.frzs,I.base.tbls⟩,⟨m,hn.sameBut hs (Ne.symm (cne x c hc)),λj y v' e1 e2 e3=>?_⟩,λy c' e=>?_,I.free,I.freeC,λp hp=>?_,tracked ⟨oc,hoc,I.freeC x c hc⟩ hs,by simpa using I.len⟩ ⟨c,hs,.inr hc⟩
  ·exact(hs.2 b (YaM (Yan (Yam e) (I.ok.cab x c hfn hc)))).trans (I.base.keep b o e n hb hx)
  ·obtain⟨sl,e1⟩:=I.base.slot b o e n hb hx;exact⟨sl,(hs.2 b (YaM (Yan (Yam e) (I.ok.cab x c hfn hc)))).trans e1⟩
  ·obtain⟨o',e1⟩:=I.base.there b o e hx;exact⟨o',(hs.2 b (YaM (Yan (Yam e) (I.ok.cab x c hfn hc)))).trans e1⟩
  ·by_cases hj:j=i
   ·subst hj;rw[hi]at e1;cases e1;rw[Ybp hiσ]at e2;cases e2;exact⟨u,r,.inr ⟨.inl hk,c,hc,hc'⟩⟩
   ·rw[YaX (Ne.symm hj)]at e2;obtain⟨u',r',q⟩:=hl j y v' e1 e2 e3;refine⟨u',r',?_⟩;rcases q with q|⟨k,c',e,z'⟩
    ·exact .inl q
    ·refine .inr ⟨k,c',e,z'.sameBut hs ?_⟩;rintro rfl;exact hj (jdq hN e1 (I.ok.inj _ _ _ e hc ▸ hi))
  ·by_cases hcc:c'=c
   ·subst hcc;exact⟨_,hc'⟩
   ·obtain⟨w2,z2⟩:=I.cell y c' e;exact⟨w2,z2.sameBut hs hcc⟩
  ·obtain⟨e,n,ne,nf,d⟩:=I.pin p hp;refine⟨(hs.2 p.1 ?_).trans e,n,ne,nf,d⟩;intro q;rw[q,hoc]at e;have q':oc=p.2:=Yas e;exact d w' (by rw[<- q'];exact hocd)
def jbf (I:Inv X pins σ H s)(hN:X.N.Nodup)(hi:X.N[i]?=some x)(hx:Loc X.env.scope x)(r:RelV v u)
  (h:∀s',Inv X pins (σ.set i (some v)) H s'->Q () s') (hf:X.fn x=true\/X.env.scope.names.lookup x=some .local:=by first|exact .inl rfl|exact .inr rfl|assumption):wpAny M A (storeName X.env x u) Q E s:=
 jfg I hN hi hx r (λs' I' _=>h s' I') hf
end
def Inv.call'    (I:Inv X pins σ H s)(ho:s'.os=s.os)(u:Un (frs X.stack) ch H H' s.heap s'.heap)(hok:HOk X.prog X.w H' s'.heap)(hg:AllBare s'.gens)
  (hch:∀b∈ch,(b∈X.ex\/X.s₀.heap.objs.size<=b)/\b≠X.env.locals/\(∀x c,X.env.cells.lookup x=some c->c≠b)/\∀p∈X.pn++pins,p.1≠b):Inv X pins σ H' s':=by
 obtain⟨h',g',d',t',o'⟩:=s';have e:o'=s.os:=ho;subst e;exact I.call (g':=g') (t':=t') (d':=d') u hok hg hch
end

abbrev XK:=Value->Option Addr->Hp->Prop
abbrev St:=List (Option V)
abbrev VK:=V->Hp->Prop
abbrev TE:=St->Hp->VK->Prop
abbrev TT:=St->Hp->(Bool->Hp->Prop)->Prop
abbrev TA:=St->Hp->(List V->Hp->Prop)->Prop
structure Ends where
 nx:St->Hp->Prop
 rt:VK
 bk:St->Hp->Prop:=λ_ _=>False
 ct:St->Hp->Prop:=λ_ _=>False
abbrev TS:=Ends->St->Hp->Prop

def EP  (X:Cx)(pins:List (Addr×Obj))(σ:St)(Q:VK)(u:Value)(s':Shared):Prop:=∃v H',Inv X pins σ H' s'/\RelV v u/\Q v H'
def TP  (X:Cx)(pins:List (Addr×Obj))(σ:St)(Q:Bool->Hp->Prop)(b:Bool)(s':Shared):Prop:=∃H',Inv X pins σ H' s'/\Q b H'
def AP  (X:Cx)(pins:List (Addr×Obj))(σ:St)(Q:List V->Hp->Prop)(us:List Value)(s':Shared):Prop:=∃vs H',Inv X pins σ H' s'/\Vals vs us/\Q vs H'
def SP  (X:Cx)(pins:List (Addr×Obj))(D:Ends)(f:Flow)(s':Shared):Prop:=
 match f with
 |.next=>∃σ' H',Inv X pins σ' H' s'/\D.nx σ' H'
 |.brk=>∃σ' H',Inv X pins σ' H' s'/\D.bk σ' H'
 |.cont=>∃σ' H',Inv X pins σ' H' s'/\D.ct σ' H'
 |.ret u=>∃v σ' H',Inv X pins σ' H' s'/\RelV v u/\D.rt v H'

def PE  (X:Cx)(e:Expr)(t:TE):Prop:=
 ∀(pins:List (Addr×Obj)) (s:Shared) (σ:St) (H:Hp) (Q:VK),Inv X pins σ H s->t σ H Q->wpAny (model X.prog X.w) X.A (eval e X.env) (EP X pins σ Q) X.xe s
def PT  (X:Cx)(e:Expr)(t:TT):Prop:=
 ∀(pins:List (Addr×Obj)) (s:Shared) (σ:St) (H:Hp) (Q:Bool->Hp->Prop),Inv X pins σ H s->t σ H Q->wpAny (model X.prog X.w) X.A (isTrue e X.env (eval e X.env)) (TP X pins σ Q) X.xe s
def PW  (X:Cx)(e:Expr)(t:TT):Prop:=
 ∀(whole:Sem Value) (pins:List (Addr×Obj)) (s:Shared) (σ:St) (H:Hp) (Q:Bool->Hp->Prop),Inv X pins σ H s->t σ H Q->wpAny (model X.prog X.w) X.A (isTrue e X.env whole) (TP X pins σ Q) X.xe s
def PW.pt     (h:PW X e t):PT X e t:=h _
def PA  (X:Cx)(es:List Expr)(t:TA):Prop:=
 ∀(pos:Pos) (pins:List (Addr×Obj)) (s:Shared) (σ:St) (H:Hp) (Q:List V->Hp->Prop),Inv X pins σ H s->t σ H Q->wpAny (model X.prog X.w) X.A (spliced (backTo pos (Yap es X.env))) (AP X pins σ Q) X.xe s
def PS  (X:Cx)(st:Stmt)(t:TS):Prop:=
 ∀(pins:List (Addr×Obj)) (s:Shared) (σ:St) (H:Hp) (D:Ends),Inv X pins σ H s->t D σ H->wpAny (model X.prog X.w) X.A (exec st X.env) (SP X pins D) X.xe s
def PSs  (X:Cx)(st:List Stmt)(t:TS):Prop:=
 ∀(pins:List (Addr×Obj)) (s:Shared) (σ:St) (H:Hp) (D:Ends),Inv X pins σ H s->t D σ H->wpAny (model X.prog X.w) X.A (execs st X.env) (SP X pins D) X.xe s
def thn    {Q Q':α->Shared->Prop}(h:wpAny M A t Q E s)(hQ:∀a s,Q a s->Q' a s):wpAny M A t Q' E s:=YaL h hQ λ_ _ x=>x
section
variable {X:Cx}

def tVar  (i:Nat):TE:=λσ H Q=>∃v,σ[i]?=some (some v)/\Q v H
def tC  (v:V):TE:=λ_ H Q=>Q v H
def jbC {i:Nat}{x:Str}{pos:Pos}(hN:X.N[i]?=some x)(hv:Vis X.env.scope x)(hd:(x==("__debug__" : Str))=false:=by decide)(hcd:(x==("__classdict__" : Str))=false:=by decide):PE X (.Name x pos) (tVar i):=by
 intro pins s σ H Q I h;obtain⟨v,e,h⟩:=h;obtain⟨m,hn,hl⟩:=I.loc;obtain⟨u,r,l⟩:=hl i x v hN e hv;have fin:EP X pins σ Q u s:=⟨v,H,I,r,h⟩;rcases l with⟨hk,hm⟩|⟨hk,c,hc,hcell⟩
 ·exact wpAny_Name (wpAny_loadName_local I.ok.kind hk hn hm fin) hd
 ·rcases hk with hk|hk
  ·exact wpAny_Name (wpAny_loadName_cell I.ok.kind hk hc hcell fin) hd
  ·exact wpAny_Name (wpAny_loadName_free I.ok.kind hk hc hcell fin hcd) hd
def jnO   : PE X (.Constant (.int i) j pos) (tC (.int i)):=λ_ _ _ H _ I h=>wpAny_Constant_int ⟨.int i,H,I.tok _,⟨_,rfl⟩,h⟩
def jnP   : PE X (.Constant (.bool b) j pos) (tC (.bl b)):=λ_ _ _ H _ I h=>Constant_bool ⟨.bl b,H,I,rfl,h⟩
def jnM   : PE X (.Constant .none j pos) (tC .non):=λ_ _ _ H _ I h=>Constant_none ⟨.non,H,I,rfl,h⟩
def jkM   : PE X (.Constant (.str x) j pos) (tC (.str x)):=λ_ _ _ H _ I h=>Calls.Constant_str ⟨.str x,H,I.tok _,⟨_,rfl⟩,h⟩

def Gl  (X:Cx)(x:Str):Prop:=X.env.kindOf x=some .globalImplicit
section
variable {E:Value->Shared->Prop}{pins:List (Addr×Obj)}{s:Shared}{σ:St}{H:Hp}{x:Str}{u:Value}{pos:Pos}{Q:Value->Shared->Prop}
def jcX (I:Inv X pins σ H s)(hg:Gl X x)(hm:X.mg x=some u)(h:Q u s)
  (hd:(x==("__debug__" : Str))=false:=by decide):wpAny (model X.prog X.w) X.A (eval (.Name x pos) X.env) Q E s:=
 Yeg I.ok.kind hg (Calls.loadGlobal_global (by rw[I.ok.glob];exact I.mod.glob.keeps I.bk) hm h) hd
def jdQ (I:Inv X pins σ H s)(hg:Gl X x)(hm:X.mg x=none)(hv:YbR x=some u)(h:Q u s)
  (hn:x ≠ "__name__" := by decide) (hd:(x==("__debug__" : Str))=false:=by decide):wpAny (model X.prog X.w) X.A (eval (.Name x pos) X.env) Q E s:=by
 obtain⟨mb,h1,h2⟩:=I.mod.blt;exact Yeg I.ok.kind hg (Calls.loadGlobal_builtin (by rw[I.ok.glob];exact I.mod.glob.keeps I.bk) hm (by rw[I.ok.blt];exact h1.keeps I.bk) ((h2 x hn).trans hv) h) hd
end
section
variable {x:Str}{v:V}{u:Value}{pos:Pos}
def jga (hg:Gl X x)(hm:X.mg x=some u)(r:RelV v u)(hd:(x==("__debug__" : Str))=false:=by decide):PE X (.Name x pos) (tC v):=
 λ_ _ _ H _ I h=>jcX I hg hm ⟨v,H,I,r,h⟩ hd
def jiz (hg:Gl X x)(hm:X.mg x=none)(hv:YbR x=some u)(r:RelV v u)(hn:x ≠ "__name__" := by decide)(hd:(x==("__debug__" : Str))=false:=by decide):PE X (.Name x pos) (tC v):=
 λ_ _ _ H _ I h=>jdQ I hg hm hv ⟨v,H,I,r,h⟩ hn hd

end
variable {a b:Expr}{ta tb:TE}{pos:Pos}
def tB  (t:TE):TT:=λσ H Q=>t σ H λx H1=>∃c,x=.bl c/\Q c H1
def jnA {e:Expr}{t:TE}(h:PE X e t)(he:∀whole,isTrue e X.env whole=(do let v <- whole;standAt e.pos;holding [v] (truthy v)):=by intro _;rfl):PT X e (tB t):=by
 intro pins s σ H Q I hw;refine isTrue_plain (thn (h pins s σ H _ I hw) λv s1 ⟨x,H1,I1,r1,q1⟩=>?_) (he _);obtain⟨d,rfl,q⟩:=q1;cases r1;exact YaY ⟨H1,I1,q⟩

def tAnd  (t u:TT):TT:=λσ H Q=>t σ H λc H1=>if c=true then u σ H1 Q else Q false H1
def tOr  (t u:TT):TT:=λσ H Q=>t σ H λc H1=>if c=true then Q true H1 else u σ H1 Q
def tNot  (t:TT):TT:=λσ H Q=>t σ H λc H1=>Q (!c) H1
def pw_and1  (ha:PT X a tA):PW X (.BoolOp .And [a] pos) tA:=by
 intro wh pins s σ H Q I h;refine isTrue_and (thn (ha pins s σ H Q I h) λc s1 e=>?_);cases c with
 |true=>exact isTrue_and_nil e
 |false=>exact e
def pw_or1  (ha:PT X a tA):PW X (.BoolOp .Or [a] pos) tA:=by
 intro wh pins s σ H Q I h;refine isTrue_or (thn (ha pins s σ H Q I h) λc s1 e=>?_);cases c with
 |false=>exact isTrue_or_nil e
 |true=>exact e
def pw_and  {rest: List Expr}(ha:PT X a tA)(hb:PW X (.BoolOp .And (b::rest) pos) tB'):PW X (.BoolOp .And (a::b::rest) pos) (tAnd tA tB'):=by
 intro wh pins s σ H Q I h;refine isTrue_and (thn (ha pins s σ H _ I h) λc s1 ⟨H1,I1,q1⟩=>?_);cases c with
 |true=>exact hb wh pins s1 σ H1 Q I1 q1
 |false=>exact⟨H1,I1,q1⟩
def pw_or  {rest: List Expr}(ha:PT X a tA)(hb:PW X (.BoolOp .Or (b::rest) pos) tB'):PW X (.BoolOp .Or (a::b::rest) pos) (tOr tA tB'):=by
 intro wh pins s σ H Q I h;refine isTrue_or (thn (ha pins s σ H _ I h) λc s1 ⟨H1,I1,q1⟩=>?_);cases c with
 |true=>exact⟨H1,I1,q1⟩
 |false=>exact hb wh pins s1 σ H1 Q I1 q1
def jkK  (ha:PT X a tA):PT X (.UnaryOp .Not a pos) (tNot tA):=by
 intro pins s σ H Q I h;exact isTrue_not (ha pins s σ H (λc H1=>Q (!c) H1) I h)
def jpw  (ta tb:TE):TE:=λσ H Q=>ta σ H λx H1=>∃c,x=.bl c/\if c=true then tb σ H1 Q else Q (.bl false) H1
def tOrV  (ta tb:TE):TE:=λσ H Q=>ta σ H λx H1=>∃c,x=.bl c/\if c=true then Q (.bl true) H1 else tb σ H1 Q
def jpr  (ta:TE):TE:=λσ H Q=>ta σ H λx H1=>∃c,x=.bl c/\Q (.bl (!c)) H1
def jg1    (h:PE X a t):PE X (.BoolOp op [a] pos) t:=λpins s σ H Q I hw=>BoolOp_one (h pins s σ H Q I hw)
def jnQ  {rest: List Expr}(ha:PE X a ta)(hb:PE X (.BoolOp .And (b::rest) pos) tb):PE X (.BoolOp .And (a::b::rest) pos) (jpw ta tb):=by
 intro pins s σ H Q I h;refine BoolOp_and (thn (ha pins s σ H _ I h) λv s1 ⟨x,H1,I1,r1,q1⟩=>?_);obtain⟨c,rfl,q1⟩:=q1;cases r1;refine YaY ?_;cases c with
 |true=>exact hb pins s1 σ H1 Q I1 q1
 |false=>exact⟨.bl false,H1,I1,rfl,q1⟩
def jpM  {rest: List Expr}(ha:PE X a ta)(hb:PE X (.BoolOp .Or (b::rest) pos) tb):PE X (.BoolOp .Or (a::b::rest) pos) (tOrV ta tb):=by
 intro pins s σ H Q I h;refine BoolOp_or (thn (ha pins s σ H _ I h) λv s1 ⟨x,H1,I1,r1,q1⟩=>?_);obtain⟨c,rfl,q1⟩:=q1;cases r1;refine YaY ?_;cases c with
 |false=>exact hb pins s1 σ H1 Q I1 q1
 |true=>exact⟨.bl true,H1,I1,rfl,q1⟩
def jnL  (ha:PE X a ta):PE X (.UnaryOp .Not a pos) (jpr ta):=by
 intro pins s σ H Q I h;refine UnaryOp_ (thn (ha pins s σ H _ I h) λv s1 ⟨x,H1,I1,r1,q1⟩=>?_);obtain⟨c,rfl,q1⟩:=q1;cases r1;exact not_of (YaY ⟨.bl (!c),H1,I1,rfl,q1⟩)
def tIf  (t:TT)(ta tb:TE):TE:=λσ H Q=>t σ H λc H1=>if c=true then ta σ H1 Q else tb σ H1 Q
def jj3   (hc:PT X c tA)(ha:PE X a ta)(hb:PE X b tb):PE X (.IfExp c a b pos) (tIf tA ta tb):=by
 intro pins s σ H Q I h;refine wpAny_IfExp (thn (hc pins s σ H _ I h) λd s1 ⟨H1,I1,q1⟩=>?_);cases d with
 |true=>exact ha pins s1 σ H1 Q I1 q1
 |false=>exact hb pins s1 σ H1 Q I1 q1
end

def SqL  (K:Yac)(H:Hp)(a:Addr)(xs:List V):Prop:=
 Rd H a (.lst xs)\/
  ∃(o:Obj) (its:Array Value) (n:Nat),K.lookup a=some o/\o.cls=.type "list" /\ o.dict=none/\o.data=.seq its n/\its.size<=Yag/\Vals xs its.toList
def SqT  (K:Yac)(H:Hp)(a:Addr)(xs:List V):Prop:=
 Rd H a (.tup xs)\/
  ∃(o:Obj) (its:Array Value) (n:Nat),K.lookup a=some o/\o.cls=.type "tuple" /\ o.data=.seq its n/\its.size<=Yag/\Vals xs its.toList
noncomputable def absV  : Value->Option V
 |.none=>some .non
 |.bool b=>some (.bl b)
 |.int i _=>some (.int i)
 |.str x _=>some (.str x)
 |.bytes b _=>some (.byt b)
 |.float b _=>some (.flt b)
 |.ref a=>some (.ref a)
 |.type n=>some (.ty n)
 |_=>none
def RelV.abs    (r:RelV x u):absV u=some x:=by
 cases x with
 |non=>cases r;rfl
 |bl _=>cases r;rfl
 |int _=>obtain⟨t,rfl⟩:=r;rfl
 |str _=>obtain⟨t,rfl⟩:=r;rfl
 |byt _=>obtain⟨t,rfl⟩:=r;rfl
 |flt _=>obtain⟨t,rfl⟩:=r;rfl
 |ref _=>cases r;rfl
 |ty _=>cases r;rfl
def RelV.inj    (r:RelV x u)(q:RelV y u):x=y:=Yas (r.abs.symm.trans q.abs)
theorem Vals.inj  : ∀{xs ys } {us },Vals xs us->Vals ys us->xs=ys
 |_,_,_,.nil,.nil=>rfl
 |_,_,_,.cons r t,.cons r' t'=>by rw[r.inj r',Vals.inj t t']

def SqL.of  {K:Yac}(h:H a=some (.lst xs)):SqL K H a xs:=.inl (.inl h)
def SqT.of  {K:Yac}(h:H a=some (.tup xs)):SqT K H a xs:=.inl (.inl h)
def Inv.list  {σ: St}(I:Inv X pins σ H s)(h:SqL X.K H a xs):∃its ,Vals xs its/\PlainL s.heap a its.toArray/\xs.length<=Yag:=by
 rcases h with h|⟨o,its,n,hk,hc,hd,hs,hz,r⟩
 ·obtain⟨z,its,n,r,e⟩:=h.ok I.hok;exact⟨its,r,⟨_,n,e,rfl,rfl,rfl⟩,z⟩
 ·refine⟨its.toList,r,⟨o,n,I.kIn a o hk,hc,hd,by simpa using hs⟩,?_⟩
  have e:=r.length;simp only[Ydl]at e
  lia
def Inv.tuple  {σ: St}(I:Inv X pins σ H s)(h:SqT X.K H a xs):∃its ,Vals xs its/\IsTup s.heap a its.toArray/\xs.length<=Yag:=by
 rcases h with h|⟨o,its,n,hk,hc,hs,hz,r⟩
 ·obtain⟨z,its,r,p⟩:=h.ok I.hok;exact⟨its,r,p.tup,z⟩
 ·refine⟨its.toList,r,⟨o,I.kIn a o hk,hc,n,by simpa using hs⟩,?_⟩
  have e:=r.length;simp only[Ydl]at e
  lia
def Inv.list_inj  {σ: St}(I:Inv X pins σ H s)(h:SqL X.K H a xs)(h':SqL X.K H a ys):xs=ys:=by
 obtain⟨its,r,⟨o,n,e,_,_,d⟩,_⟩:=I.list h;obtain⟨its',r',⟨o',n',e',_,_,d'⟩,_⟩:=I.list h';rw[e]at e';cases e';rw[d]at d';injection d' with d1 _
 have:its=its':=by simpa using congrArg Array.toList d1
 subst this;exact r.inj r'
def Inv.tuple_inj  {σ: St}(I:Inv X pins σ H s)(h:SqT X.K H a xs)(h':SqT X.K H a ys):xs=ys:=by
 obtain⟨its,r,⟨o,e,_,n,d⟩,_⟩:=I.tuple h;obtain⟨its',r',⟨o',e',_,n',d'⟩,_⟩:=I.tuple h';rw[e]at e';cases e';rw[d]at d';injection d' with d1 _
 have:its=its':=by simpa using congrArg Array.toList d1
 subst this;exact r.inj r'

noncomputable abbrev Cx.wish  (X:Cx)(E:Value->Shared->Prop):Cx:={ X with xe:=E }
def Cx.Ok.wish  {X:Cx}(ok:X.Ok) E:(X.wish E).Ok:=
 ⟨ok.mod,ok.kind,ok.glob,ok.blt,ok.above,ok.inj,ok.has,ok.cab,ok.hd,ok.frames,ok.stk,ok.exf,ok.bs,ok.bsz,ok.noex,ok.exfs,ok.funs,ok.frf⟩
def Cx.Ok.unwish  {X:Cx}(ok:(X.wish E).Ok):X.Ok:=
 ⟨ok.mod,ok.kind,ok.glob,ok.blt,ok.above,ok.inj,ok.has,ok.cab,ok.hd,ok.frames,ok.stk,ok.exf,ok.bs,ok.bsz,ok.noex,ok.exfs,ok.funs,ok.frf⟩
section
variable {X:Cx}{pins:List (Addr×Obj)}{σ:St}{H:Hp}{s:Shared}{E:Value->Shared->Prop}
def Inv.wish  (I:Inv X pins σ H s) E:Inv (X.wish E) pins σ H s:=⟨I.ok.wish E,I.os,I.bare,I.base,I.loc,I.cell,I.free,I.freeC,I.pin,I.hok,I.len⟩
def Inv.unwish  (I:Inv (X.wish E) pins σ H s):Inv X pins σ H s:=⟨I.ok.unwish,I.os,I.bare,I.base,I.loc,I.cell,I.free,I.freeC,I.pin,I.hok,I.len⟩
theorem SP.unwish     (h:SP (X.wish E) pins D f s'):SP X pins D f s':=by
 cases f with
 |next=>obtain⟨σ',H',I,q⟩:=h;exact⟨σ',H',I.unwish,q⟩
 |brk=>obtain⟨σ',H',I,q⟩:=h;exact⟨σ',H',I.unwish,q⟩
 |cont=>obtain⟨σ',H',I,q⟩:=h;exact⟨σ',H',I.unwish,q⟩
 |ret u=>obtain⟨v,σ',H',I,r,q⟩:=h;exact⟨v,σ',H',I.unwish,r,q⟩
end

section
variable {X:Cx}{st:Stmt}{rest:List Stmt}{t u:TS}{e:Expr}{te:TE}{pos:Pos}
def jpt  : TS:=λD σ H=>D.nx σ H
def tSeq  (t u:TS):TS:=λD σ H=>t { D with nx:=u D } σ H
def jf8  : PSs X [] jpt:=λ_ _ σ H _ I h=>YcO ⟨σ,H,I,h⟩
def jeU  (h1:PS X st t)(h2:PSs X rest u):PSs X (st::rest) (tSeq t u):=by
 intro pins s σ H D I h;refine YbW (thn (h1 pins s σ H { D with nx:=u D } I h) λf s1 q=>?_)
 cases f with
 |next=>
  obtain⟨σ',H',I',q⟩:=q;exact h2 pins s1 σ' H' D I' q
 |ret v=>exact q
 |brk=>exact q
 |cont=>exact q
def jlL  (h1:PS X st t):PSs X [st] t:=by
 intro pins s σ H D I h;refine YbW (thn (h1 pins s σ H D I h) λf s1 q=>?_);cases f with
 |next=>exact YcO q
 |ret v=>exact q
 |brk=>exact q
 |cont=>exact q
def Inv.quiet   {σ:St}(I:Inv X pins σ H s):interactive X.env=false:=by simp[interactive,I.ok.kind]
def jpu  (te:TE):TS:=λD σ H=>te σ H λ_ H1=>D.nx σ H1
def jlN (he:PE X e te)(hs:Ycg e none pos.line X.env=pure false:=by rfl):PS X (.Expr e pos) (jpu te):=by
 intro pins s σ H D I h;exact wpAny_Expr_any (thn (he pins s σ H _ I h) λv s1 ⟨x,H1,I1,r1,q1⟩=>⟨σ,H1,I1,q1⟩) I.quiet hs
def tRet  (te:TE):TS:=λD σ H=>te σ H D.rt
def jnB  (he:PE X e te):PS X (.Return (some e) pos) (tRet te):=by
 intro pins s σ H D I h;exact wpAny_Return_some (thn (he pins s σ H _ I h) λv s1 ⟨x,H1,I1,r1,q1⟩=>⟨x,σ,H1,I1,r1,q1⟩)
def tIfS  (c:TT)(t u:TS):TS:=λD σ H=>c σ H λb H1=>if b=true then t D σ H1 else u D σ H1
def jnE     (hc:PT X c tc)(ha:PSs X a t)(hb:PSs X b u):PS X (.If c a b pos) (tIfS tc t u):=by
 intro pins s σ H D I h;refine wpAny_If (thn (hc pins s σ H _ I h) λd s1 ⟨H1,I1,q1⟩=>?_);cases d with
 |true=>exact ha pins s1 σ H1 D I1 q1
 |false=>exact hb pins s1 σ H1 D I1 q1
end

abbrev TG:=V->St->Hp->(St->Hp->Prop)->Prop
abbrev TGs:=List V->St->Hp->(St->Hp->Prop)->Prop
def PG  (X:Cx)(target:Expr)(t:TG):Prop:=
 ∀(pins:List (Addr×Obj)) (s:Shared) (σ:St) (H:Hp) (v:V) (u:Value) (Q:St->Hp->Prop),Inv X pins σ H s->RelV v u->t v σ H Q->
  wpAny (model X.prog X.w) X.A (assign target X.env u) (λ_ s'=>∃σ' H',Inv X pins σ' H' s'/\Q σ' H') X.xe s
def PGs  (X:Cx)(ts:List Expr)(t:TGs):Prop:=
 ∀(pins:List (Addr×Obj)) (s:Shared) (σ:St) (H:Hp) (vs:List V) (us:List Value) (Q:St->Hp->Prop),Inv X pins σ H s->Vals vs us->t vs σ H Q->
  wpAny (model X.prog X.w) X.A (Yfr ((Ybg ts X.env).map (·.2)) us) (λ_ s'=>∃σ' H',Inv X pins σ' H' s'/\Q σ' H') X.xe s
abbrev TSet:=V->V->V->Hp->(Hp->Prop)->Prop
def PSet  (X:Cx)(t:TSet):Prop:=
 ∀(pins:List (Addr×Obj)) (s:Shared) (σ:St) (H:Hp) (o i v:V) (ov iv u:Value) (Q:Hp->Prop),Inv X pins σ H s->RelV o ov->RelV i iv->RelV v u->t o i v H Q->
  wpAny (model X.prog X.w) X.A (setItem ov iv u) (λ_ s'=>∃H',Inv X pins σ H' s'/\Q H') X.xe s
abbrev TIp:=V->V->Hp->VK->Prop
def PIp  (X:Cx)(op:Yd8)(t:TIp):Prop:=
 ∀(pins:List (Addr×Obj)) (s:Shared) (σ:St) (H:Hp) (x y:V) (v u:Value) (Q:VK),Inv X pins σ H s->RelV x v->RelV y u->t x y H Q->
  wpAny (model X.prog X.w) X.A (Yd2 op v u) (EP X pins σ Q) X.xe s
section
variable {X:Cx}{pos:Pos}
def jjc  (i:Nat):TG:=λv σ H Q=>Q (σ.set i (some v)) H
def jf9 {i:Nat}{x:Str}(hN:X.N.Nodup)(hi:X.N[i]?=some x)(hx:Loc X.env.scope x)(hf:X.fn x=true\/X.env.scope.names.lookup x=some .local:=by first|exact .inl rfl|exact .inr rfl|assumption):PG X (.Name x pos) (jjc i):=by
 intro pins s σ H v u Q I r h;exact wpAny_assign_Name (jbf I hN hi hx r (λs' I'=>⟨_,H,I',h⟩) hf)
def gNil  : TGs:=λvs σ H Q=>vs=[]/\Q σ H
def jqe  (t:TG)(u:TGs):TGs:=λvs σ H Q=>∃v r,vs=v::r/\t v σ H λσ' H'=>u r σ' H' Q
def jlU  : PGs X [] gNil:=by
 intro pins s σ H vs us Q I r h;obtain⟨e,h⟩:=h;subst e;cases r;exact assignInOrder_nil ⟨σ,H,I,h⟩
def jj1 {e:Expr}{es:List Expr}{t:TG}{u:TGs}(h1:PG X e t)(h2:PGs X es u)
  (hs:(Ybg (e::es) X.env).map (·.2)=assign e X.env::(Ybg es X.env).map (·.2):=by rfl):PGs X (e::es) (jqe t u):=by
 intro pins s σ H vs us Q I r h;obtain⟨v,vr,e1,h⟩:=h;subst e1;cases r with
 |cons r rr=>
  rw[hs];refine Yd4 (thn (h1 pins s σ H _ _ _ I r h) λ_ s1 ⟨σ1,H1,I1,q1⟩=>?_);exact h2 pins s1 σ1 H1 _ _ Q I1 rr q1
def gTup  (K:Yac)(n:Nat)(t:TGs):TG:=λv σ H Q=>∃a xs,v=.ref a/\SqT K H a xs/\xs.length=n/\t xs σ H Q
def jnI {es:List Expr}{k:Nat}{t:TGs}{n:Nat}(hc:X.calm=true)(h:PGs X es t)
  (hn:(Ybg es X.env).length=n:=by rfl) (hst:(Ybg es X.env).findIdx? (·.1)=none:=by rfl):PG X (.Tuple es k pos) (gTup X.K n t):=by
 intro pins s σ H v u Q I r hw;obtain⟨a,xs,e1,hq,hl,hw⟩:=hw;subst e1;cases r;obtain⟨its,rv,ht,hz⟩:=I.tuple hq;refine assign_Tuple_tuple (I.ok.hd hc) ht (by simp[hn,<- hl,rv.length]) hst λh' hx=>?_
 have I1:Inv X pins σ H { s with heap:=h' }:=I.kept (t':=s.toks) λb o e=>hx b o (YaM (Yam e)) e
 exact h pins _ σ H xs _ Q I1 (by simpa using rv) hw
def gSub  (to ti:TE)(t:TSet):TG:=λv σ H Q=>to σ H λo H1=>ti σ H1 λi H2=>t o i v H2 λH3=>Q σ H3
def jnJ {o i:Expr}{to ti:TE}{t:TSet}(ho:PE X o to)(hi:PE X i ti)(hs:PSet X t)
  (ha:∀v,assign (.Subscript o i pos) X.env v=(do
   let ov <- holding [v] (eval o X.env)
   let iv <- holding [v,ov] (eval i X.env)
   standAt pos
   holding [v,ov,iv] (setItem ov iv v)
   release [v,ov,iv] []):=by intro _;rfl):PG X (.Subscript o i pos) (gSub to ti t):=by
 intro pins s σ H v u Q I r h;rw[ha];refine Yad (Yb8 (thn (ho pins s σ H _ I h) λov s1 ⟨x,H1,I1,r1,q1⟩=>?_));refine Yad (Yb8 (thn (hi pins s1 σ H1 _ I1 q1) λiv s2 ⟨y,H2,I2,r2,q2⟩=>?_));refine Yad (Yb7 (Yad (Yb8 (thn (hs pins s2 σ H2 x y v ov iv u _ I2 r1 r2 r q2) λ_ s3 ⟨H3,I3,q3⟩=>?_))));exact wpAny_release ⟨σ,H3,I3,q3⟩
def tAsg  (te:TE)(g:TG):TS:=λD σ H=>te σ H λx H1=>g x σ H1 D.nx
def jis {tg e:Expr}{te:TE}{g:TG}(he:PE X e te)(hg:PG X tg g)(hs:Ybz [tg] e pos.line X.env=pure false:=by rfl)(hw:Ybh [tg] e X.env=pure none:=by rfl)
  (h1:(Ybg [tg] X.env).map (·.2)=[assign tg X.env]:=by rfl):PS X (.Assign [tg] e pos) (tAsg te g):=by
 intro pins s σ H D I h;refine wpAny_Assign_stores (thn (he pins s σ H _ I h) λv s1 ⟨x,H1,I1,r1,q1⟩=>?_) hs hw;rw[h1];exact thn (hg pins s1 σ H1 x v _ I1 r1 q1) λ_ s2 q=>q
def tPar  (i j:Nat)(ta:TA):TS:=λD σ H=>ta σ H λvs H1=>∃v w,vs=[v,w]/\D.nx ((σ.set i (some v)).set j (some w)) H1
def jnC {i j:Nat}{x y:Str}{a b:Expr}{ta:TA}{px py pt:Pos}{kt k2 pt2}(hc:X.calm=true)(hN:X.N.Nodup)(hi:X.N[i]?=some x)(hj:X.N[j]?=some y)(hij:i≠j)
  (hx:X.env.scope.names.lookup x=some .local) (hy:X.env.scope.names.lookup y=some .local) (ha:PA X [a,b] ta)
  (hw:Ybh [.Tuple [.Name x px,.Name y py] kt pt] (.Tuple [a,b] k2 pt2) X.env=pure (some [x,y]))
  (hs:Ybz [.Tuple [.Name x px,.Name y py] kt pt] (.Tuple [a,b] k2 pt2) pos.line X.env=pure false:=by rfl) :
  PS X (.Assign [.Tuple [.Name x px,.Name y py] kt pt] (.Tuple [a,b] k2 pt2) pos) (tPar i j ta):=by
 intro pins s σ H D I h;rw[exec_Assign_arm];refine Yad (Yb7 ?_);rw[hs];refine Yad (Yal ?_);rw[if_neg (by decide)]
 refine Yad (Tuple_ (thn (ha _ pins s σ H _ I h) λus s1 ⟨vs,H1,I1,r1,q1⟩=>?_));obtain⟨v,w,e1,q1⟩:=q1;subst e1;obtain⟨u1,u2,rfl,rv,rw'⟩:∃u1 u2,us=[u1,u2]/\RelV v u1/\RelV w u2:=by
  cases r1 with
  |cons p q=>
   cases q with
   |cons p' q'=>
    cases q';exact⟨_,_,rfl,p,p'⟩
 refine YaZ ?_ (by show 2<=Yag;decide)
 have I2:Inv X pins σ H1 { s1 with heap:=s1.heap.push { cls:=.type "tuple",data:=.seq [u1,u2].toArray } }:=I1.kept (t':=s1.toks) λb o e=>Yae _ e
 rw[hw];refine Yad (Yal ?_);show wpAny (model X.prog X.w) X.A (do rule "assign.swapped-stores";let items <- unpackItems (.ref s1.heap.objs.size) 2 none;Yfr [λv=>YeF X.env y v,λv=>YeF X.env x v] items.reverse;pure Flow.next) _ _ _
 refine Yad (wpAny_rule (Yad (unpackItems_tuple (items:=#[u1,u2]) (I.ok.hd hc) (IsTup.new s1.heap _) λh' hx'=>?_)));have I3:=I2.kept (h':=h') (t':=s1.toks) λb o e=>hx' b o (YaM (Yam e)) e;show wpAny _ _ (Yfr [λv=>YeF X.env y v,λv=>YeF X.env x v] [u2,u1] >>= λ_=>pure Flow.next) _ _ _
 refine Yad (Yd4 (wpAny_bindName (jbf I3 hN hj (.inl hy) rw' (λs2 I4=>?_) (.inr hy))));refine Yd4 (wpAny_bindName (jbf I4 hN hi (.inl hx) rv (λs3 I5=>assignInOrder_nil (Yal ?_)) (.inr hx)));rw[List.set_comm _ _ (Ne.symm hij)]at I5;exact⟨_,H1,I5,q1⟩
def tAug  (i:Nat)(te:TE)(ti:TIp):TS:=λD σ H=>∃x,σ[i]?=some (some x)/\te σ H λy H1=>ti x y H1 λz H2=>D.nx (σ.set i (some z)) H2
def jnG {i:Nat}{x:Str}{e:Expr}{te:TE}{op:Yd8}{ti:TIp}{pos':Pos}(hN:X.N.Nodup)(hi:X.N[i]?=some x)(hx:Loc X.env.scope x)(he:PE X e te)(ho:PIp X op ti)(hf:X.fn x=true\/X.env.scope.names.lookup x=some .local:=by first|exact .inl rfl|exact .inr rfl|assumption) :
  PS X (.AugAssign (.Name x pos') op e pos) (tAug i te ti):=by
 intro pins s σ H D I h;obtain⟨v,e1,h⟩:=h;obtain⟨m,hn,hl⟩:=I.loc;have vis:Vis X.env.scope x:=by rcases hx with k|k;exact .inl k;exact .inr (.inl k)
 obtain⟨u,r,l⟩:=hl i x v hi e1 vis;refine wpAny_AugAssign_Name ?_;have go:wpAny (model X.prog X.w) X.A (eval e X.env) (λw s₂=>wpAny (model X.prog X.w) X.A (Yd2 op u w) (λr s₃=>wpAny (model X.prog X.w) X.A (storeName X.env x r) (λ_=>SP X pins D .next) X.xe s₃) X.xe s₂) X.xe s:=by
  refine thn (he pins s σ H _ I h) λw s1 ⟨y,H1,I1,r1,q1⟩=>?_;refine thn (ho pins s1 σ H1 v y u w _ I1 r r1 q1) λz s2 ⟨zv,H2,I2,r2,q2⟩=>?_;exact jbf I2 hN hi hx r2 (λs3 I3=>⟨_,H2,I3,q2⟩) hf
 rcases l with⟨hk,hm⟩|⟨hk,c,hc,hcell⟩
 ·exact wpAny_loadName_local I.ok.kind hk hn hm go
 ·rcases hk with hk|hk
  ·exact wpAny_loadName_cell I.ok.kind hk hc hcell go
  ·rcases hx with k|k
   ·have:X.env.scope.names.lookup x=some .free:=hk;rw[k]at this;cases this
   ·have:X.env.scope.names.lookup x=some .free:=hk;rw[k]at this;cases this
def PGet  (X:Cx)(t:V->V->Hp->VK->Prop):Prop:=
 ∀(pins:List (Addr×Obj)) (s:Shared) (σ:St) (H:Hp) (o i:V) (ov iv:Value) (Q:VK),Inv X pins σ H s->RelV o ov->RelV i iv->t o i H Q->
  wpAny (model X.prog X.w) X.A (getItem ov iv) (EP X pins σ Q) X.xe s
end


def jnc  (c:TT)(tb:TS):TS:=λD σ H=>∃W:Nat->St->Hp->Prop,(∃m,W m σ H)/\∀m σ H,W m σ H->
 c σ H λb H1=>if b=true then ∃N:St->Hp->Prop,(∀σ' H',N σ' H'->∃m',m'<m/\W m' σ' H')/\tb { D with nx:=N,ct:=N,bk:=D.nx } σ H1 else D.nx σ H1
def jjV      (hp:Yc5 (model X.prog X.w) X.A X.env X.xe)(hc:PT X c tc)(hb:PSs X body tb):PS X (.While c body [] pos) (jnc tc tb):=by
 intro pins s σ H D I h;obtain⟨W,⟨m0,w0⟩,turn⟩:=h;refine wpAny_While (codeAny_whileLoop (λn s'=>∃σ' H',Inv X pins σ' H' s'/\W n σ' H') ?_ m0 ⟨σ,H,I,w0⟩);rintro n s1 ⟨σ1,H1,I1,w1⟩;refine Yb4 hp (thn (hc pins s1 σ1 H1 _ I1 (turn n σ1 H1 w1)) λb s2 ⟨H2,I2,q2⟩=>?_);cases b with
 |true=>
  obtain⟨N,hN,q2⟩:=q2;rw[if_pos rfl];refine Yb4 hp (thn (hb pins s2 σ1 H2 _ I2 q2) λf s3 q3=>?_);cases f with
  |next=>
   obtain⟨σ3,H3,I3,n3⟩:=q3;obtain⟨m',hm,w3⟩:=hN σ3 H3 n3;exact⟨m',hm,σ3,H3,I3,w3⟩
  |cont=>
   obtain⟨σ3,H3,I3,n3⟩:=q3;obtain⟨m',hm,w3⟩:=hN σ3 H3 n3;exact⟨m',hm,σ3,H3,I3,w3⟩
  |brk=>exact q3
  |ret v=>exact q3
 |false=>
  rw[if_neg Yaj];exact YcO ⟨σ1,H2,I2,q2⟩

structure It where
 go:Nat->Hp->Prop
 yld:Nat->Hp->V->Hp->Prop
 stop:Nat->Hp->Prop
def FpOk  (X:Cx)(pins:List (Addr×Obj))(H:Hp)(b:Addr):Prop:=
 H b=none/\b≠X.env.locals/\b∉X.fs/\(b∈X.ex\/X.s₀.heap.objs.size<=b)/\(∀x c,X.env.cells.lookup x=some c->c≠b)/\∀p∈X.pn++pins,p.1≠b
def Inv.fpOk    {σ:St}{b:Addr}(I:Inv X pins σ H s)(hb:s.heap.objs.size<=b)(hn:H' b=none):FpOk X pins H' b:=by
 refine⟨hn,Nat.ne_of_gt (Yan I.lt hb),I.nofs hb,.inr (Yah I.sz hb),λx c e z=>?_,λp hp z=>?_⟩
 ·obtain⟨v,q⟩:=I.cell x c e;exact absurd (Yan q.lt (by rw[z];exact hb)) (Ybe _)
 ·exact absurd (Yan (Yam (I.pin p hp).1) (by rw[z];exact hb)) (Ybe _)
structure Turn (P:Program)(w:World)(K:Yac)(tg:Expr)(J:It)(fp:List Addr)(it:Addr)(tn:Nat->Heap->Prop):Prop where
 mem:it∈fp
 obj:∀i h,tn i h->∀b∈fp,∃o,h.get? b=some o/\∀v,o.data≠.cell v
 keep:∀i h h',tn i h->(∀b∈fp,∀o,h.get? b=some o->h'.get? b=some o)->tn i h'
 item:∀(X:Cx),X.prog=P->X.w=w->X.K=K->X.calm=true->∀(i:Nat) (pins:List (Addr×Obj)) (s:Shared) (σ:St) (H:Hp) (E:Value->Shared->Prop),Inv X pins σ H s->(∀b∈fp,FpOk X pins H b)->tn i s.heap->J.go i H->
  wpAny (model P w) X.A (pyNext (.ref it)) (λr s1=>∃u,r=some u/\
   wpAny (model P w) X.A (YcQ tg (.ref it) u) (λ_ s2=>∃x H',Inv X pins σ H' s2/\RelV x u/\J.yld i H x H'/\tn (i+1) s2.heap/\∀b∈fp,H' b=none) E s1) E s
 done:∀(X:Cx),X.prog=P->X.w=w->X.K=K->X.calm=true->∀(i:Nat) (pins:List (Addr×Obj)) (s:Shared) (σ:St) (H:Hp) (E:Value->Shared->Prop),Inv X pins σ H s->(∀b∈fp,FpOk X pins H b)->tn i s.heap->J.stop i H->
  wpAny (model P w) X.A (pyNext (.ref it)) (λr s1=>r=none/\Inv X pins σ H s1) E s
 self:∀(A:Around) (i:Nat) (s:Shared) (Q:Value->Shared->Prop) (E:Value->Shared->Prop),tn i s.heap->Q (.ref it) s->wpAny (model P w) A (pyIter (.ref it)) Q E s
abbrev TI:=St->Hp->(It->Hp->Prop)->Prop
def PIE  (X:Cx)(pins:List (Addr×Obj))(σ:St)(tg:Expr)(R:It->Hp->Prop)(itv:Value)(s2:Shared):Prop:=
 ∃(it:Addr) (fp:List Addr) (tn:Nat->Heap->Prop) (J:It) (H':Hp),itv=.ref it/\Inv X pins σ H' s2/\Turn X.prog X.w X.K tg J fp it tn/\tn 0 s2.heap/\(∀b∈fp,FpOk X pins H' b)/\R J H'
def PI  (X:Cx)(tg iter:Expr)(wi:TI):Prop:=
 ∀(pins:List (Addr×Obj)) (s:Shared) (σ:St) (H:Hp) (R:It->Hp->Prop),Inv X pins σ H s->wi σ H R->
  wpAny (model X.prog X.w) X.A (eval iter X.env) (λv s1=>wpAny (model X.prog X.w) X.A (pyIter v) (PIE X pins σ tg R) X.xe s1) X.xe s

def jmH             (ho : s.heap.get? it = some o)(hc : o.cls = .type n)(hd : o.data = .fields vs)
    (hn : ["enumerate", "zip", "dict_itemiterator", "dict_reverseitemiterator", "odict_iterator", "itertools.zip_longest", "itertools.pairwise"].contains n = false) (hQ : Q () s) : wpAny M A (YcQ tg (.ref it) u) Q E s := by
  unfold YcQ
  cases tg <;> first
    | exact Yal hQ
    | (cases u <;> first
        | exact Yal hQ
        | (refine Yad (wpAny_load ho ?_)
           rw [hc, hd]
           show wpAny M A (if (["enumerate", "zip", "dict_itemiterator", "dict_reverseitemiterator", "odict_iterator", "itertools.zip_longest", "itertools.pairwise"].contains n && vs[0]? == some (rawInt _)) = true then _ else _) Q E s
           rw [if_neg (by intro h; rw [hn, Bool.false_and] at h; cases h)]
           exact Yal hQ))

noncomputable def Itl  (K:Yac)(a:Addr):It:=
 ⟨λi H=>∃xs x,SqL K H a xs/\xs[i]?=some x,λi H x H'=>H'=H/\∀xs,SqL K H a xs->xs[i]?=some x,λi H=>∃xs,SqL K H a xs/\xs.length<=i⟩
noncomputable def Itt  (K:Yac)(a:Addr):It:=
 ⟨λi H=>∃xs x,SqT K H a xs/\xs[i]?=some x,λi H x H'=>H'=H/\∀xs,SqT K H a xs->xs[i]?=some x,λi H=>∃xs,SqT K H a xs/\xs.length<=i⟩
noncomputable def Itr  (lo:Int)(n:Nat):It:=⟨λi _=>i<n,λi H x H'=>H'=H/\x=.int (lo+i),λi _=>n<=i⟩
def jh9    {K:Yac} a it:Turn P w K tg (Itl K a) [it] it (λi h=>h.IsListIter it a i) where
 mem:=by simp
 obj:=λi h st b hb=>by
  have e:b=it:=by simpa using hb
  subst e;obtain⟨o,e,c,d⟩:=st;exact⟨o,e,λv z=>by rw[d]at z;cases z⟩
 keep:=λi h h' st k=>st.at λo e=>k it (by simp) o e
 item:=by
  intro X hP hw hK hc i pins s σ H E I hf st hg;subst hP hw hK;obtain⟨xs,x,hq,hx⟩:=hg;obtain⟨its,rv,p,hz⟩:=I.list hq;obtain⟨u,hu,ru⟩:=rv.get hx;obtain⟨f0,f1,f2,f3,f4,f5⟩:=hf it (by simp)
  refine wpAny_pyNext_list_item st p.isList (x:=u) (by simpa using hu) λh' st' sb=>?_
  have I1:Inv X pins σ H { s with heap:=h' }:=I.turned (t':=s.toks) (λb o hb e=>(sb.2 b hb).trans e) f0 f1 f3 f4 f5
  obtain⟨o,e,c,d⟩:=id st';exact⟨u,rfl,jmH (s:={ s with heap:=h' }) e c d (by decide) ⟨x,H,I1,ru,⟨rfl,λys hy=>by rw[I.list_inj hy hq];exact hx⟩,st',λb hb=>(hf b hb).1⟩⟩
 done:=by
  intro X hP hw hK hc i pins s σ H E I hf st hg;subst hP hw hK;obtain⟨xs,hq,hx⟩:=hg;obtain⟨its,rv,p,hz⟩:=I.list hq;obtain⟨f0,f1,f2,f3,f4,f5⟩:=hf it (by simp)
  have hl:=rv.length;exact wpAny_pyNext_list_end (I.ok.hd hc) st p.isList (by simp;lia) λh' eb=>⟨rfl,I.turned (t':=s.toks) (λb o hb e=>eb b o hb e) f0 f1 f3 f4 f5⟩
 self:=λ_ _ _ _ _ st h=>wpAny_pyIter_listiter st h
def jhs    {K:Yac} a it:Turn P w K tg (Itt K a) [it] it (λi h=>h.IsTupleIter it a i) where
 mem:=by simp
 obj:=λi h st b hb=>by
  have e:b=it:=by simpa using hb
  subst e;obtain⟨o,e,c,d⟩:=st;exact⟨o,e,λv z=>by rw[d]at z;cases z⟩
 keep:=λi h h' st k=>st.at λo e=>k it (by simp) o e
 item:=by
  intro X hP hw hK hc i pins s σ H E I hf st hg;subst hP hw hK;obtain⟨xs,x,hq,hx⟩:=hg;obtain⟨its,rv,p,hz⟩:=I.tuple hq;obtain⟨u,hu,ru⟩:=rv.get hx;obtain⟨f0,f1,f2,f3,f4,f5⟩:=hf it (by simp)
  refine wpAny_pyNext_tuple_item st (show s.heap.IsTuple a its.toArray from p) (x:=u) (by simpa using hu) λh' st' sb=>?_
  have I1:Inv X pins σ H { s with heap:=h' }:=I.turned (t':=s.toks) (λb o hb e=>(sb.2 b hb).trans e) f0 f1 f3 f4 f5
  obtain⟨o,e,c,d⟩:=id st';exact⟨u,rfl,jmH (s:={ s with heap:=h' }) e c d (by decide) ⟨x,H,I1,ru,⟨rfl,λys hy=>by rw[I.tuple_inj hy hq];exact hx⟩,st',λb hb=>(hf b hb).1⟩⟩
 done:=by
  intro X hP hw hK hc i pins s σ H E I hf st hg;subst hP hw hK;obtain⟨xs,hq,hx⟩:=hg;obtain⟨its,rv,p,hz⟩:=I.tuple hq;obtain⟨f0,f1,f2,f3,f4,f5⟩:=hf it (by simp)
  have hl:=rv.length;exact wpAny_pyNext_tuple_end (I.ok.hd hc) st (show s.heap.IsTuple a its.toArray from p) (by simp;lia) λh' eb=>⟨rfl,I.turned (t':=s.toks) (λb o hb e=>eb b o hb e) f0 f1 f3 f4 f5⟩
 self:=λ_ _ _ _ _ st h=>wpAny_pyIter_tupleiter st h
def jht    {K:Yac} it lo n:Turn P w K tg (Itr lo n) [it] it (λi h=>IsRangeIter h it (lo+(i:Nat)*1) ((n:Int)-(i:Nat)) 1) where
 mem:=by simp
 obj:=λi h st b hb=>by
  have e:b=it:=by simpa using hb
  subst e;exact⟨_,st,λv z=>by
   have z':Data.fields _=Data.cell v:=z;cases z'⟩
 keep:=λi h h' st k=>k it (by simp) _ st
 item:=by
  intro X hP hw hK hc i pins s σ H E I hf st hg;subst hP hw hK;obtain⟨f0,f1,f2,f3,f4,f5⟩:=hf it (by simp)
  have W:=Walks.range (prog:=X.prog) (w:=X.w) (I.ok.hd hc) it lo 1 n;refine W.item i s _ _ hg st λv h' tk hv st' kk=>?_;obtain⟨t,rfl⟩:=hv;have I1:Inv X pins σ H { s with heap:=h',toks:=tk }:=I.turned (λb o hb e=>kk b o (by simpa using hb) e) f0 f1 f3 f4 f5
  refine⟨_,rfl,jmH (s:={ s with heap:=h',toks:=tk }) (n := "range_iterator") st' rfl rfl (by decide) ⟨.int (lo+i),H,I1,⟨t,?_⟩,⟨rfl,rfl⟩,st',λb hb=>(hf b hb).1⟩⟩
  rw[Int.mul_one]
 done:=by
  intro X hP hw hK hc i pins s σ H E I hf st hg;subst hP hw hK;obtain⟨f0,f1,f2,f3,f4,f5⟩:=hf it (by simp)
  exact wpAny_pyNext_range_end (I.ok.hd hc) st (by have:n<=i:=hg;lia) λh' eb=>⟨rfl,I.turned (t':=s.toks) (λb o hb e=>eb b o hb e) f0 f1 f3 f4 f5⟩
 self:=λ_ _ _ _ _ st h=>wpAny_pyIter_rangeiter st h
section
variable {X:Cx}{tg:Expr}
def jgY   {σ:St}{lo hi:Int}(I:Inv X pins σ H s)(h1:-(2 ^ 62)<=lo)(h2:lo<2 ^ 62)(h3:-(2 ^ 62)<=hi)(h4:hi<2 ^ 62)
  (q:R (Itr lo (hi-lo).toNat) H):wpAny (model X.prog X.w) X.A (pyIter (.ref s.heap.objs.size)) (PIE X pins σ tg R) E { s with heap:=s.heap.push { cls:=.type "range",data:=.fields #[.int lo t,.int hi u,.int 1 v] },toks:=tk }:=by
 refine wpAny_pyIter_range (IsRange.new ..) (small_one h1 h2 h3 h4) ?_;have I1:Inv X pins σ H { s with heap:=s.heap.push { cls:=.type "range",data:=.fields #[.int lo t,.int hi u,.int 1 v] },toks:=tk }:=I.kept λb o e=>Yae _ e
 refine⟨(s.heap.push { cls:=.type "range",data:=.fields #[.int lo t,.int hi u,.int 1 v] }).objs.size,[(s.heap.push { cls:=.type "range",data:=.fields #[.int lo t,.int hi u,.int 1 v] }).objs.size],_,_,H,rfl,
  I1.kept (t':=tk) λb o e=>Yae _ e,jht _ lo (hi-lo).toNat,?_,λb hb=>?_,q⟩
 ·have e1:lo+((0:Nat):Int)*1=lo:=by simp
  have e2:(((hi-lo).toNat:Nat):Int)-((0:Nat):Int)=YdF lo hi 1:=by rw[rangeSize_one];split<;>lia
  show IsRangeIter _ _ (lo+((0:Nat):Int)*1) ((((hi-lo).toNat:Nat):Int)-((0:Nat):Int)) 1;rw[e1,e2];exact Yau _ rfl
 ·have e:b=(s.heap.push { cls:=.type "range",data:=.fields #[.int lo t,.int hi u,.int 1 v] }).objs.size:=by simpa using hb
  subst e;exact I1.fpOk (Yab _) (I1.hok.fresh (Yab _))
def jqb  (ta:TA):TI:=λσ H R=>ta σ H λvs H1=>∃j:Int,vs=[.int j]/\-(2 ^ 62)<=j/\j<2 ^ 62/\R (Itr 0 j.toNat) H1
def jqa  (ta:TA):TI:=λσ H R=>ta σ H λvs H1=>∃i j:Int,vs=[.int i,.int j]/\(-(2 ^ 62)<=i/\i<2 ^ 62/\-(2 ^ 62)<=j/\j<2 ^ 62)/\R (Itr i (j-i).toNat) H1
def jix {a:Expr}{ta:TA}{p pos:Pos}(hg:Gl X "range")(hm:X.mg "range" = none)(ha:PA X [a] ta)(hs:Yap [a] X.env=[(false,eval a X.env)]:=by rfl):PI X tg (.Call (.Name "range" p) [a] [] pos) (jqb ta):=by
 intro pins s σ H R I h;refine Call_ (jdQ I hg hm boot_range (Ybj (thn (ha pos pins s σ H _ I h) λus s1 ⟨vs,H1,I1,r1,q1⟩=>?_) hs rfl));obtain⟨j,e,q1,q2,q⟩:=q1;subst e;cases r1 with
 |cons r rr=>
  cases rr;obtain⟨t,rfl⟩:=r;exact call_range_1 (jgY I1 (by lia) (by lia) q1 q2 (by simpa using q))
def jiw {a b:Expr}{ta:TA}{p pos:Pos}(hg:Gl X "range")(hm:X.mg "range" = none)(ha:PA X [a,b] ta)(hs:Yap [a,b] X.env=[(false,eval a X.env),(false,eval b X.env)]:=by rfl)(hs2:Yap [b] X.env=[(false,eval b X.env)]:=by rfl) :
  PI X tg (.Call (.Name "range" p) [a,b] [] pos) (jqa ta):=by
 intro pins s σ H R I h;refine Call_ (jdQ I hg hm boot_range (Ybj (thn (ha pos pins s σ H _ I h) λus s1 ⟨vs,H1,I1,r1,q1⟩=>?_) (by rw[hs,hs2]) (by rw[hs2];rfl)))
 obtain⟨i,j,e,⟨q1,q2,q3,q4⟩,q⟩:=q1;subst e;cases r1 with
 |cons r rr=>
  cases rr with
  |cons r' rr=>
   cases rr;obtain⟨t,rfl⟩:=r;obtain⟨t',rfl⟩:=r';exact call_range_2 (jgY I1 q1 q2 q3 q4 q)

def tFor  (wi:TI)(g:TG)(tb:TS):TS:=λD σ H=>wi σ H λJ H1=>∃W:Nat->Nat->St->Hp->Prop,(∃m,W 0 m σ H1)/\∀i m σ H,W i m σ H->
 (J.stop i H/\D.nx σ H)\/(J.go i H/\∃N:St->Hp->Prop,(∀σ' H',N σ' H'->∃m',m'<m/\W (i+1) m' σ' H')/\∀x H',J.yld i H x H'->g x σ H' λσ2 H2=>tb { D with nx:=N,ct:=N,bk:=D.nx } σ2 H2)
noncomputable def jfk  (fp:List Addr)(h:Heap):List (Addr×Obj):=fp.filterMap λb=>(h.get? b).map λo=>(b,o)
def jbS      (hb:b∈fp)(e:h.get? b=some o):(b,o)∈jfk fp h:=List.mem_filterMap.mpr ⟨b,hb,by rw[e];rfl⟩
def jiM     (hp:p∈jfk fp h):p.1∈fp/\h.get? p.1=some p.2:=by
 obtain⟨b,hb,e⟩:=List.mem_filterMap.mp hp;cases q:h.get? b with
 |none=>rw[q]at e;cases e
 |some o=>
  rw[q]at e;have e':(b,o)=p:=Yas e;subst e';exact⟨hb,q⟩
def Inv.pinned   {σ:St}(I:Inv X pins σ H s)(hf:∀b∈fp,FpOk X pins H b)(ho:∀b∈fp,∃o,s.heap.get? b=some o/\∀v,o.data≠.cell v):Inv X (pins++jfk fp s.heap) σ H s:=
 I.pins_of λp hp=>(List.mem_append.mp hp).elim (λz=>I.pin p (YaA _ z)) λz=>by
  obtain⟨hb,e⟩:=jiM z;obtain⟨f0,f1,f2,_⟩:=hf p.1 hb;obtain⟨o,e',d⟩:=ho p.1 hb;rw[e]at e';cases e';exact⟨e,f0,f1,f2,d⟩
def Inv.unpinned   {σ:St}(I:Inv X (pins++pl) σ H s):Inv X pins σ H s:=I.pins_of λp hp=>I.pin p (YaA _ (YbB _ hp))
def jnF {iter:Expr}{body:List Stmt}{wi:TI}{g:TG}{tb:TS}{pos:Pos}(hp:Yc5 (model X.prog X.w) X.A X.env X.xe)(hc:X.calm=true)(hi:PI X tg iter wi)(hg:PG X tg g)(hb:PSs X body tb)
  (hs:∀x,Ya0 iter X.env x=pure x:=by intro _;rfl):PS X (.For tg iter body [] pos) (tFor wi g tb):=by
 intro pins s σ H D I h;refine wpAny_For (thn (hi pins s σ H _ I h) λv s1 h1=>thn h1 λitv s2 h2=>?_) hs;obtain⟨it,fp,tn,J,H2,e,I2,T,st2,f2,W,⟨m0,w0⟩,turn⟩:=h2;subst e;have stat:∀{H':Hp},(∀b∈fp,H' b=none)->∀b∈fp,FpOk X pins H' b:=λhn b hb=>⟨hn b hb,(f2 b hb).2⟩;refine codeAny_forLoop_any (λn s'=>∃i σ' H',Inv X pins σ' H' s'/\tn i s'.heap/\(∀b∈fp,H' b=none)/\W i n σ' H') ?_ m0 ⟨0,σ,H2,I2,st2,λb hb=>(f2 b hb).1,w0⟩;rintro n s3 ⟨i,σ3,H3,I3,st3,fr3,w3⟩;rcases turn i n σ3 H3 w3 with⟨stop,qn⟩|⟨go,N,hN,step⟩
 ·refine Yb4 hp (thn (T.done X rfl rfl rfl hc i pins s3 σ3 H3 X.xe I3 (stat fr3) st3 stop) λr s4 ⟨hr,I4⟩=>?_);subst hr;exact YcO ⟨σ3,H3,I4,qn⟩
 ·refine Yb4 hp (thn (T.item X rfl rfl rfl hc i pins s3 σ3 H3 X.xe I3 (stat fr3) st3 go) λr s4 ⟨u,hr,h4⟩=>?_);subst hr;refine Yb4 hp (thn h4 λ_ s5 ⟨x,H5,I5,r5,y5,st5,fr5⟩=>?_);have I5':=I5.pinned (stat fr5) (T.obj _ _ st5);refine Yb4 hp (thn (hg _ s5 σ3 H5 x u _ I5' r5 (step x H5 y5)) λ_ s6 ⟨σ6,H6,I6,q6⟩=>?_);refine Yb4 hp (thn (hb _ s6 σ6 H6 _ I6 q6) λf s7 q7=>?_);have again:∀{σ7:St} {H7:Hp},Inv X (pins++jfk fp s5.heap) σ7 H7 s7->N σ7 H7->∃m,m<n/\∃i σ' H',Inv X pins σ' H' s7/\tn i s7.heap/\(∀b∈fp,H' b=none)/\W i m σ' H':=λ{σ7 H7} I7 n7=>by
   obtain⟨m',hm,w7⟩:=hN σ7 H7 n7;refine⟨m',hm,i+1,σ7,H7,I7.unpinned,T.keep _ _ _ st5 λb hb o e=>(I7.pin (b,o) (YaA _ (YaA _ (jbS hb e)))).1,λb hb=>?_,w7⟩;obtain⟨o,e,d⟩:=T.obj _ _ st5 b hb;exact(I7.pin (b,o) (YaA _ (YaA _ (jbS hb e)))).2.1
  cases f with
  |next=>obtain⟨σ7,H7,I7,n7⟩:=q7;exact again I7 n7
  |cont=>obtain⟨σ7,H7,I7,n7⟩:=q7;exact again I7 n7
  |brk=>obtain⟨σ7,H7,I7,q7⟩:=q7;exact⟨σ7,H7,I7.unpinned,q7⟩
  |ret v=>obtain⟨x7,σ7,H7,I7,r7,q7⟩:=q7;exact⟨x7,σ7,H7,I7.unpinned,r7,q7⟩
end


abbrev R2:=V->V->Hp->VK->Prop
def OpR  (X:Cx)(f:Value->Value->Sem Value)(r:R2):Prop:=
 ∀(pins:List (Addr×Obj)) (s:Shared) (σ:St) (H:Hp) (x y:V) (v u:Value) (Q:VK),Inv X pins σ H s->RelV x v->RelV y u->r x y H Q->
  wpAny (model X.prog X.w) X.A (f v u) (EP X pins σ Q) X.xe s
def UnR  (X:Cx)(f:Value->Sem Value)(r:V->Hp->VK->Prop):Prop:=
 ∀(pins:List (Addr×Obj)) (s:Shared) (σ:St) (H:Hp) (x:V) (v:Value) (Q:VK),Inv X pins σ H s->RelV x v->r x H Q->
  wpAny (model X.prog X.w) X.A (f v) (EP X pins σ Q) X.xe s
def jaN  (X:Cx)(f:Value)(r:List V->Hp->VK->Prop):Prop:=
 ∀(pins:List (Addr×Obj)) (s:Shared) (σ:St) (H:Hp) (xs:List V) (us:List Value) (Q:VK),Inv X pins σ H s->Vals xs us->r xs H Q->
  wpAny (model X.prog X.w) X.A (call f us) (EP X pins σ Q) X.xe s
def TruR  (X:Cx)(r:V->Hp->(Bool->Hp->Prop)->Prop):Prop:=
 ∀(pins:List (Addr×Obj)) (s:Shared) (σ:St) (H:Hp) (x:V) (v:Value) (Q:Bool->Hp->Prop),Inv X pins σ H s->RelV x v->r x H Q->
  wpAny (model X.prog X.w) X.A (truthy v) (TP X pins σ Q) X.xe s

def tOp  (r:R2)(ta tb:TE):TE:=λσ H Q=>ta σ H λx H1=>tb σ H1 λy H2=>r x y H2 Q
def tUn  (r:V->Hp->VK->Prop)(ta:TE):TE:=λσ H Q=>ta σ H λx H1=>r x H1 Q
def rI  (C:Int->Int->Prop)(g:Int->Int->V):R2:=λx y H Q=>∃i j,x=.int i/\y=.int j/\C i j/\Q (g i j) H
def rI0  (g:Int->Int->V):R2:=λx y H Q=>∃i j,x=.int i/\y=.int j/\Q (g i j) H
def rU  (g:Int->V):V->Hp->VK->Prop:=λx H Q=>∃i,x=.int i/\Q (g i) H


def binT  (ha:PE X a ta)(hb:PE X b tb){σ:St}{R:V->V->Hp->Prop}(I:Inv X pins σ H s)
  (h:ta σ H λx H1=>tb σ H1 λy H2=>R x y H2) {f:Value->Value->Sem Value}
  (hf:∀v u s2 x y H2,Inv X pins σ H2 s2->RelV x v->RelV y u->R x y H2->wpAny (model X.prog X.w) X.A (f v u) Q X.xe s2) :
  wpAny (model X.prog X.w) X.A (eval a X.env) (λv s₁=>wpAny (model X.prog X.w) X.A (eval b X.env) (λu s₂=>wpAny (model X.prog X.w) X.A (f v u) Q X.xe s₂) X.xe s₁) X.xe s:=by
 refine thn (ha pins s σ H _ I h) λv s1 ⟨x,H1,I1,r1,q1⟩=>?_;refine thn (hb pins s1 σ H1 _ I1 q1) λu s2 ⟨y,H2,I2,r2,q2⟩=>?_;exact hf v u s2 x y H2 I2 r1 r2 q2

def jpN    (ho:OpR X (Yba op) r)(ha:PE X a ta)(hb:PE X b tb):PE X (.BinOp a op b pos) (tOp r ta tb):=by
 intro pins s σ H Q I h;exact wpAny_BinOp (binT ha hb I h λv u s2 x y H2 I2 rx ry q=>ho pins s2 σ H2 x y v u Q I2 rx ry q)
def jpL    (ho:UnR X (unaryOp op) r)(ha:PE X a ta):PE X (.UnaryOp op a pos) (tUn r ta):=by
 intro pins s σ H Q I h;exact UnaryOp_ (thn (ha pins s σ H _ I h) λv s1 ⟨x,H1,I1,r1,q1⟩=>ho pins s1 σ H1 x v Q I1 r1 q1)
def opI    {g:Int->Int->Int}
  (rule:∀i j t u (s:Shared) Q E ,C i j->Q (.int (g i j) s.toks) { s with toks:=s.toks+1 }->wpAny (model X.prog X.w) X.A (f (.int i t) (.int j u)) Q E s) :
  OpR X f (rI C λi j=>.int (g i j)):=by
 intro pins s σ H x y v u Q I rx ry h;obtain⟨i,j,rfl,rfl,hc,q⟩:=h;obtain⟨t,rfl⟩:=rx;obtain⟨t',rfl⟩:=ry;exact rule i j t t' s _ _ hc ⟨.int (g i j),H,I.tok _,⟨_,rfl⟩,q⟩
def opI0   {g:Int->Int->Int}
  (rule:∀i j t u (s:Shared) Q E ,Q (.int (g i j) s.toks) { s with toks:=s.toks+1 }->wpAny (model X.prog X.w) X.A (f (.int i t) (.int j u)) Q E s) :
  OpR X f (rI0 λi j=>.int (g i j)):=by
 intro pins s σ H x y v u Q I rx ry h;obtain⟨i,j,rfl,rfl,q⟩:=h;obtain⟨t,rfl⟩:=rx;obtain⟨t',rfl⟩:=ry;exact rule i j t t' s _ _ ⟨.int (g i j),H,I.tok _,⟨_,rfl⟩,q⟩
def opB0   {g:Int->Int->Bool}
  (rule:∀i j t u s Q E ,Q (.bool (g i j)) s->wpAny (model X.prog X.w) X.A (f (.int i t) (.int j u)) Q E s) :
  OpR X f (rI0 λi j=>.bl (g i j)):=by
 intro pins s σ H x y v u Q I rx ry h;obtain⟨i,j,rfl,rfl,q⟩:=h;obtain⟨t,rfl⟩:=rx;obtain⟨t',rfl⟩:=ry;exact rule i j t t' s _ _ ⟨.bl (g i j),H,I,rfl,q⟩

def CDiv  (i j:Int):Prop:=0<j/\j<1073741824
def CPow  (i j:Int):Prop:=0<=j/\j<=1000000/\i.natAbs<2 ^ 64
def CMul  (i j:Int):Prop:=(-(2 ^ 64)<i/\i<2 ^ 64)\/(-(2 ^ 64)<j/\j<2 ^ 64)
def CMul.ok   (h:CMul i j):IntMulOk i j:=by
 rcases h with⟨h1,h2⟩|⟨h1,h2⟩
 ·exact .of_left (intBits_le_64 h1 h2)
 ·exact .of_right (intBits_le_64 h1 h2)
def job  : OpR X (Yba .Add) (rI0 λi j=>.int (i+j)):=opI0 λ_ _ _ _ _ _ _ q=>add_int q
def jnZ  : OpR X (Yba .Sub) (rI0 λi j=>.int (i-j)):=opI0 λ_ _ _ _ _ _ _ q=>sub_int q
def jn3  : OpR X (Yba .Mult) (rI CMul λi j=>.int (i*j)):=opI λ_ _ _ _ _ _ _ hc q=>mul_int q hc.ok
def jl5  : OpR X (Yba .FloorDiv) (rI CDiv λi j=>.int (i/j)):=opI λi j _ _ _ _ _ hc q=>by
 have h1:(0:Int)<j:=hc.1;have h2:j<1073741824:=hc.2;exact floordiv_int (by lia) (by rw[Int.fdiv_eq_ediv_of_nonneg i (by lia)];exact q) (.inl (PyProof.noPylong_small (by lia)))
def jn4  : OpR X (Yba .Mod) (rI (λ_ j=>0<j) λi j=>.int (i%j)):=opI λi j _ _ _ _ _ hc q=>by
 have h1:(0:Int)<j:=hc;exact mod_int' (by lia) (by rw[Int.fmod_eq_emod_of_nonneg i (by lia)];exact q)
def jn1  : OpR X (Yba .Pow) (rI CPow λi j=>.int (i ^ j.toNat)):=opI λ_ _ _ _ _ _ _ hc q=>pow_int_small hc.1 hc.2.1 hc.2.2 q
def jmB  : OpR X (Yd2 .Add) (rI0 λi j=>.int (i+j)):=opI0 λ_ _ _ _ _ _ _ q=>iadd_int q
def jmz  : OpR X (Yd2 .Sub) (rI0 λi j=>.int (i-j)):=opI0 λ_ _ _ _ _ _ _ q=>isub_int q
def jmA  : OpR X (Yd2 .Mult) (rI CMul λi j=>.int (i*j)):=opI λ_ _ _ _ _ _ _ hc q=>imul_int q hc.ok
def unI   {g:Int->Int}
  (rule:∀i t (s:Shared) Q E ,Q (.int (g i) s.toks) { s with toks:=s.toks+1 }->wpAny (model X.prog X.w) X.A (f (.int i t)) Q E s) :
  UnR X f (rU λi=>.int (g i)):=by
 intro pins s σ H x v Q I rx h;obtain⟨i,rfl,q⟩:=h;obtain⟨t,rfl⟩:=rx;exact rule i t s _ _ ⟨.int (g i),H,I.tok _,⟨_,rfl⟩,q⟩
def jmZ  : UnR X (unaryOp .USub) (rU λi=>.int (-i)):=unI λ_ _ _ _ _ q=>neg_int q

noncomputable def scal  : V->V->Bool
 |.non,.non=>true|.non,.int _=>true|.int _,.non=>true|.non,.bl _=>true|.bl _,.non=>true|.non,.str _=>true|.str _,.non=>true
 |.int _,.int _=>true|.bl _,.bl _=>true|.str _,.str _=>true|.byt _,.byt _=>true
 |.int _,.str _=>true|.str _,.int _=>true|.bl _,.str _=>true|.str _,.bl _=>true
 |_,_=>false
def rEq  : R2:=λx y H Q=>scal x y=true/\Q (.bl (decide (x=y))) H
def rNe  : R2:=λx y H Q=>scal x y=true/\Q (.bl (!decide (x=y))) H

def jjl   : decide (V.int i=V.int j)=(i==j):=by
 rw[Ybf];simp
def jlb   : decide (V.bl i=V.bl j)=(i==j):=by
 rw[Ybf];simp
def jjk   : decide (V.str i=V.str j)=(i==j):=by
 rw[Ybf];simp
def jjm   : decide (V.byt i=V.byt j)=(i.toList==j.toList):=by
 rw[Ybf];cases i;cases j;simp

section
variable {X:Cx}{a b c:Expr}{ta tb tc:TE}{pos:Pos}
def jam   {σ:St}(I:Inv X pins σ H s)(q:Q (.bl k) H)(e:k=k'):EP X pins σ Q (.bool k') s:=by
 subst e;exact⟨.bl k,H,I,rfl,q⟩
def jpV  : OpR X (YaG .Eq) rEq:=by
 intro pins s σ H x y v u Q I rx ry h;obtain⟨hs,q⟩:=h;cases x with
 |non=>
  cases rx;cases y with
  |non=>cases ry;exact PySem.EqNone.eq_none_none (jam I q (by simp))
  |bl j=>cases ry;exact PySem.EqNone.eq_none_bool (jam I q (by simp))
  |int j=>obtain⟨t',rfl⟩:=ry;exact PySem.EqNone.eq_none_int (jam I q (by simp))
  |str j=>obtain⟨t',rfl⟩:=ry;exact PySem.EqNone.eq_none_str (jam I q (by simp))
  |_=>exact absurd (show false=true from hs) Yaj
 |bl i=>
  cases rx;cases y with
  |non=>cases ry;exact PySem.EqNone.eq_bool_none (jam I q (by simp))
  |bl j=>cases ry;exact eq_bool (jam I q jlb)
  |str j=>obtain⟨t',rfl⟩:=ry;exact PySem.EqMixed.eq_bool_str (jam I q (by simp))
  |_=>exact absurd (show false=true from hs) Yaj
 |int i=>
  obtain⟨t,rfl⟩:=rx;cases y with
  |non=>cases ry;exact PySem.EqNone.eq_int_none (jam I q (by simp))
  |int j=>obtain⟨t',rfl⟩:=ry;exact eq_int (jam I q jjl)
  |str j=>obtain⟨t',rfl⟩:=ry;exact PySem.EqMixed.eq_int_str (jam I q (by simp))
  |_=>exact absurd (show false=true from hs) Yaj
 |str i=>
  obtain⟨t,rfl⟩:=rx;cases y with
  |non=>cases ry;exact PySem.EqNone.eq_str_none (jam I q (by simp))
  |bl j=>cases ry;exact PySem.EqMixed.eq_str_bool (jam I q (by simp))
  |int j=>obtain⟨t',rfl⟩:=ry;exact PySem.EqMixed.eq_str_int (jam I q (by simp))
  |str j=>obtain⟨t',rfl⟩:=ry;exact eq_str (jam I q jjk)
  |_=>exact absurd (show false=true from hs) Yaj
 |byt i=>
  obtain⟨t,rfl⟩:=rx;cases y with
  |byt j=>obtain⟨t',rfl⟩:=ry;exact PySem.W.eq_bytes (jam I q jjm)
  |_=>exact absurd (show false=true from hs) Yaj
 |_=>cases y<;>exact absurd (show false=true from hs) Yaj
def jpQ  : OpR X (YaG .NotEq) rNe:=by
 intro pins s σ H x y v u Q I rx ry h;obtain⟨hs,q⟩:=h;cases x with
 |non=>
  cases rx;cases y with
  |non=>cases ry;exact PySem.EqNone.ne_none_none (jam I q (by simp))
  |bl j=>cases ry;exact PySem.EqNone.ne_none_bool (jam I q (by simp))
  |int j=>obtain⟨t',rfl⟩:=ry;exact PySem.EqNone.ne_none_int (jam I q (by simp))
  |str j=>obtain⟨t',rfl⟩:=ry;exact PySem.EqNone.ne_none_str (jam I q (by simp))
  |_=>exact absurd (show false=true from hs) Yaj
 |bl i=>
  cases rx;cases y with
  |non=>cases ry;exact PySem.EqNone.ne_bool_none (jam I q (by simp))
  |bl j=>cases ry;exact ne_bool (jam I q (congrArg not jlb))
  |str j=>obtain⟨t',rfl⟩:=ry;exact PySem.EqMixed.ne_bool_str (jam I q (by simp))
  |_=>exact absurd (show false=true from hs) Yaj
 |int i=>
  obtain⟨t,rfl⟩:=rx;cases y with
  |non=>cases ry;exact PySem.EqNone.ne_int_none (jam I q (by simp))
  |int j=>obtain⟨t',rfl⟩:=ry;exact ne_int (jam I q (congrArg not jjl))
  |str j=>obtain⟨t',rfl⟩:=ry;exact PySem.EqMixed.ne_int_str (jam I q (by simp))
  |_=>exact absurd (show false=true from hs) Yaj
 |str i=>
  obtain⟨t,rfl⟩:=rx;cases y with
  |non=>cases ry;exact PySem.EqNone.ne_str_none (jam I q (by simp))
  |bl j=>cases ry;exact PySem.EqMixed.ne_str_bool (jam I q (by simp))
  |int j=>obtain⟨t',rfl⟩:=ry;exact PySem.EqMixed.ne_str_int (jam I q (by simp))
  |str j=>obtain⟨t',rfl⟩:=ry;exact ne_str (jam I q (congrArg not jjk))
  |_=>exact absurd (show false=true from hs) Yaj
 |byt i=>
  obtain⟨t,rfl⟩:=rx;cases y with
  |byt j=>obtain⟨t',rfl⟩:=ry;exact PySem.W.ne_bytes (jam I q (congrArg not jjm))
  |_=>exact absurd (show false=true from hs) Yaj
 |_=>cases y<;>exact absurd (show false=true from hs) Yaj

def jpR  : OpR X (YaG .Lt) (rI0 λi j=>.bl (decide (i<j))):=opB0 λ_ _ _ _ _ _ _ q=>lt_int q
def jpS  : OpR X (YaG .LtE) (rI0 λi j=>.bl (decide (i<=j))):=opB0 λ_ _ _ _ _ _ _ q=>le_int q
def jpT  : OpR X (YaG .Gt) (rI0 λi j=>.bl (decide (j<i))):=opB0 λ_ _ _ _ _ _ _ q=>gt_int q
def jpU  : OpR X (YaG .GtE) (rI0 λi j=>.bl (decide (j<=i))):=opB0 λ_ _ _ _ _ _ _ q=>ge_int q
def jiE  : OpR X (YaG .In) (λx y H Q=>∃i j,x=.str i/\y=.str j/\Q (.bl (!(Yb5 j i 0 j.length 1).isEmpty)) H):=by
 intro pins s σ H x y v u Q I rx ry h;obtain⟨i,j,rfl,rfl,q⟩:=h;obtain⟨t,rfl⟩:=rx;obtain⟨t',rfl⟩:=ry;exact in_str (jam I q rfl)

def jfm  : OpR X (YaG .NotIn) (λx y H Q=>∃i j,x=.str i/\y=.str j/\Q (.bl (!(!(Yb5 j i 0 j.length 1).isEmpty))) H):=by
 intro pins s σ H x y v u Q I rx ry h;obtain⟨i,j,rfl,rfl,q⟩:=h;obtain⟨t,rfl⟩:=rx;obtain⟨t',rfl⟩:=ry;exact notIn_str (jam I q rfl)
def OpR.or    (h:OpR X f r)(h':OpR X f r'):OpR X f (λx y H Q=>r x y H Q\/r' x y H Q):=by
 intro pins s σ H x y v u Q I rx ry q;rcases q with q|q
 ·exact h pins s σ H x y v u Q I rx ry q
 ·exact h' pins s σ H x y v u Q I rx ry q

def jlY    (ho:OpR X (YaG op) r)(ha:PE X a ta)(hb:PE X b tb)(hm:Yd3 op b=false):PE X (.Compare a [op] [b] pos) (tOp r ta tb):=by
 intro pins s σ H Q I h;exact wpAny_Compare1 (binT ha hb I h λv u s2 x y H2 I2 rx ry q=>ho pins s2 σ H2 x y v u Q I2 rx ry q) hm
def jnd  (t:TE):TT:=λσ H Q=>t σ H λx H'=>∃k,x=.bl k/\Q k H'
def jlK    (ho:OpR X (YaG op) r)(ha:PE X a ta)(hb:PE X b tb)(hm:Yd3 op b=false):PT X (.Compare a [op] [b] pos) (jnd (tOp r ta tb)):=by
 intro pins s σ H Q I h;refine wpAny_isTrue_Compare1 (thn (ha pins s σ H _ I h) λv s1 ⟨x,H1,I1,r1,q1⟩=>thn (hb pins s1 σ H1 _ I1 q1) λu s2 ⟨y,H2,I2,r2,q2⟩=>
  thn (ho pins s2 σ H2 x y v u _ I2 r1 r2 q2) λc s3 ⟨z,H3,I3,r3,k,e,q3⟩=>?_) hm
 subst e;cases r3;exact YaY ⟨H3,I3,q3⟩
def jkI  (r r':R2)(ta tb tc:TE):TE:=λσ H Q=>ta σ H λx H1=>tb σ H1 λy H2=>r x y H2 λz H3=>∃k,z=.bl k/\
 (if k=true then tc σ H3 λw' H4=>r' y w' H4 Q else Q (.bl false) H3)
section
variable {op op':CmpOp}{r r':R2}
def jj5 (ho:OpR X (YaG op) r)(ho':OpR X (YaG op') r')(ha:PE X a ta)(hb:PE X b tb)(hc:PE X c tc)
  (hm:YfL [op,op'] [b,c]=false:=by with_unfolding_all rfl):PE X (.Compare a [op,op'] [b,c] pos) (jkI r r' ta tb tc):=by
 intro pins s σ H Q I h;refine Compare_chain (thn (ha pins s σ H _ I h) λv s1 ⟨x,H1,I1,r1,q1⟩=>chain_link (thn (hb pins s1 σ H1 _ I1 q1) λu s2 ⟨y,H2,I2,r2,q2⟩=>
  thn (ho pins s2 σ H2 x y v u _ I2 r1 r2 q2) λd s3 ⟨z,H3,I3,r3,k,e,q3⟩=>?_)) hm
 subst e;cases r3;refine YaY ?_;cases k with
 |false=>exact ite_ff ⟨.bl false,H3,I3,rfl,q3⟩
 |true=>exact ite_tt (chain_last (thn (hc pins s3 σ H3 _ I3 q3) λw' s4 ⟨z',H4,I4,r4,q4⟩=>ho' pins s4 σ H4 y z' u w' Q I4 r2 r4 q4))
def jjU (ho:OpR X (YaG op) r)(ho':OpR X (YaG op') r')(ha:PE X a ta)(hb:PE X b tb)(hc:PE X c tc)
  (hm:YfL [op,op'] [b,c]=false:=by with_unfolding_all rfl):PT X (.Compare a [op,op'] [b,c] pos) (jnd (jkI r r' ta tb tc)):=by
 intro pins s σ H Q I h;refine isTrue_chain (thn (ha pins s σ H _ I h) λv s1 ⟨x,H1,I1,r1,q1⟩=>test_link (thn (hb pins s1 σ H1 _ I1 q1) λu s2 ⟨y,H2,I2,r2,q2⟩=>
  thn (ho pins s2 σ H2 x y v u _ I2 r1 r2 q2) λd s3 ⟨z,H3,I3,r3,k,e,q3⟩=>?_)) hm
 subst e;cases r3;refine YaY ?_;cases k with
 |false=>
  obtain⟨k',e',q'⟩:=q3;cases e';exact ite_ff ⟨H3,I3,q'⟩
 |true=>
  refine ite_tt (test_last (thn (hc pins s3 σ H3 _ I3 q3) λw' s4 ⟨z',H4,I4,r4,q4⟩=>thn (ho' pins s4 σ H4 y z' u w' _ I4 r2 r4 q4) λd' s5 ⟨z2,H5,I5,r5,k2,e2,q5⟩=>?_));subst e2;cases r5;exact YaY ⟨H5,I5,q5⟩

end
def TruV  (K:Yac)(x:V)(H:Hp)(k:Bool):Prop:=
 match x with
 |.non=>k=false
 |.bl b=>k=b
 |.int i=>k=(i != 0)
 |.str y=>y.length<=Yag/\k=((y.length:Int) != 0)
 |.byt y=>y.size<=Yag/\k=((y.size:Int) != 0)
 |.ref p=>(∃xs,SqL K H p xs/\k = !xs.isEmpty)\/(∃xs,SqT K H p xs/\k = !xs.isEmpty)\/∃kvs,H p=some (.dK kvs)/\k = !kvs.isEmpty
 |_=>False
def jhU     (r:KV kvs vs):(!vs.isEmpty) = !kvs.isEmpty:=by
 cases r<;>rfl
def jeA    (r:Vals xs its):(!its.toArray.isEmpty) = !xs.isEmpty:=by
 cases r<;>simp
def jdP  : (Yag:Nat)<2 ^ 63:=by rw[YbU];decide
def jgR  : TruR X (λx H Q=>∃k,TruV X.K x H k/\Q k H):=by
 intro pins s σ H x v Q I rx h;obtain⟨k,e,q⟩:=h;have hl:=jdP;have hs:Yag=16777216:=YbU;cases x with
 |non=>
  cases rx;have e':k=false:=e;subst e';exact truthy_none ⟨H,I,q⟩
 |bl b=>
  cases rx;have e':k=b:=e;subst e';exact YaY ⟨H,I,q⟩
 |int i=>
  obtain⟨t,rfl⟩:=rx;have e':k=(i != 0):=e;subst e';exact PySem.P.truthy_int ⟨H,I,q⟩
 |str y=>
  obtain⟨t,rfl⟩:=rx;obtain⟨hy,e'⟩:y.length<=Yag/\k=((y.length:Int) != 0):=e;subst e';exact PySem.P.truthy_str (by lia) ⟨H,I.tok _,q⟩
 |byt y=>
  obtain⟨t,rfl⟩:=rx;obtain⟨hy,e'⟩:y.size<=Yag/\k=((y.size:Int) != 0):=e;subst e';exact PySem.W.truthy_bytes (by lia) ⟨H,I.tok _,q⟩
 |ref p=>
  cases rx;have e':(∃xs,SqL X.K H p xs/\k = !xs.isEmpty)\/(∃xs,SqT X.K H p xs/\k = !xs.isEmpty)\/∃kvs,H p=some (.dK kvs)/\k = !kvs.isEmpty:=e;rcases e' with⟨xs,hx,e'⟩|⟨xs,hx,e'⟩|⟨kvs,hx,e'⟩
  ·subst e';obtain⟨its,r,pl,hz⟩:=I.list hx;have hlen:=r.length;exact wpAny_truthy_list pl.isList (by simp only[Yak];lia) ⟨H,I.tok _,by rw[jeA r];exact q⟩
  ·subst e';obtain⟨its,r,pl,hz⟩:=I.tuple hx;have hlen:=r.length;exact truthy_tuple pl (by simp only[Yak];lia) ⟨H,I.tok _,by rw[jeA r];exact q⟩
  ·subst e';obtain⟨hz,hS,vs,r,m⟩:kvs.length<=Yag/\(p==Ya3)=false/\∃vs,KV kvs vs/\s.heap.DictOf (jas X.prog X.w) p vs:=I.hok p _ hx;have hlen:kvs.length=vs.length:=Ydn r;exact wpAny_truthy_dict hS m (by lia) ⟨H,I.tok _,by rw[jhU r];exact q⟩
 |_=>exact(show False from e).elim
def jjT  (ha:PE X a ta)(he:∀whole,isTrue a X.env whole=(do let v <- whole;standAt a.pos;holding [v] (truthy v))) :
  PT X a (λσ H Q=>ta σ H λx H'=>∃k,TruV X.K x H' k/\Q k H'):=by
 intro pins s σ H Q I h;exact isTrue_plain (thn (ha pins s σ H _ I h) λv s1 ⟨x,H1,I1,r1,q1⟩=>jgR pins s1 σ H1 x v Q I1 r1 q1) (he _)

def jhE  : OpR X (Yba .Add) (λx y H Q=>∃i j,x=.str i/\y=.str j/\i.length+j.length<=Yag/\Q (.str (i++j)) H):=by
 intro pins s σ H x y v u Q I rx ry h;obtain⟨i,j,rfl,rfl,hz,q⟩:=h;obtain⟨t,rfl⟩:=rx;obtain⟨t',rfl⟩:=ry;exact add_str (λt' tk=>⟨.str (i++j),H,I.tok _,⟨_,rfl⟩,q⟩) hz
def jgr  : OpR X (Yd2 .Add) (λx y H Q=>∃i j,x=.str i/\y=.str j/\i.length+j.length<=Yag/\Q (.str (i++j)) H):=by
 intro pins s σ H x y v u Q I rx ry h;obtain⟨i,j,rfl,rfl,hz,q⟩:=h;obtain⟨t,rfl⟩:=rx;obtain⟨t',rfl⟩:=ry;exact iadd_str (λt' tk=>⟨.str (i++j),H,I.tok _,⟨_,rfl⟩,q⟩) hz
def jcJ    (r:Vals [x] us):∃u,us=[u]/\RelV x u:=by
 cases r with
 |cons r1 r2=>cases r2;exact⟨_,rfl,r1⟩
def jmY    (r:Vals [x,y] us):∃u w',us=[u,w']/\RelV x u/\RelV y w':=by
 cases r with
 |cons r1 r2=>
  cases r2 with
  |cons r3 r4=>cases r4;exact⟨_,_,rfl,r1,r3⟩
def jjw  (hc:X.calm=true):jaN X (.builtin "max") (λxs H Q=>∃i j,xs=[.int i,.int j]/\Q (.int (if j>i then j else i)) H):=by
 intro pins s σ H xs us Q I r h;obtain⟨i,j,rfl,q⟩:=h;obtain⟨u,w',rfl,⟨t,rfl⟩,⟨t',rfl⟩⟩:=jmY r;refine max_two_ints (I.ok.hd hc) λh' tk k=>⟨_,H,I.kept k,?_,q⟩;by_cases hj:j>i
 ·rw[if_pos hj,if_pos hj];exact⟨_,rfl⟩
 ·rw[if_neg hj,if_neg hj];exact⟨_,rfl⟩
def jjv  (hc:X.calm=true):jaN X (.builtin "min") (λxs H Q=>∃i j,xs=[.int i,.int j]/\Q (.int (if j<i then j else i)) H):=by
 intro pins s σ H xs us Q I r h;obtain⟨i,j,rfl,q⟩:=h;obtain⟨u,w',rfl,⟨t,rfl⟩,⟨t',rfl⟩⟩:=jmY r;refine min_two_ints (I.ok.hd hc) λh' tk k=>⟨_,H,I.kept k,?_,q⟩;by_cases hj:j<i
 ·rw[if_pos hj,if_pos hj];exact⟨_,rfl⟩
 ·rw[if_neg hj,if_neg hj];exact⟨_,rfl⟩
def jjC  : jaN X (.type "int") (λxs H Q=>(∃i,xs=[.int i]/\Q (.int i) H)\/∃k,xs=[.bl k]/\Q (.int (if k then 1 else 0)) H):=by
 intro pins s σ H xs us Q I r h;rcases h with⟨i,rfl,q⟩|⟨k,rfl,q⟩
 ·obtain⟨u,rfl,t,rfl⟩:=jcJ r;exact call_int_int ⟨.int i,H,I,⟨_,rfl⟩,q⟩
 ·obtain⟨u,rfl,r1⟩:=jcJ r;cases r1;exact call_int_bool ⟨.int (if k then 1 else 0),H,I.tok _,⟨_,rfl⟩,q⟩
def jfO  : jaN X (.type "str") (λxs H Q=>∃i,xs=[.int i]/\i.natAbs.log2<1920/\Q (.str (toString i)) H):=by
 intro pins s σ H xs us Q I r h;obtain⟨i,rfl,hz,q⟩:=h;obtain⟨u,rfl,t,rfl⟩:=jcJ r;exact PySem.P.str_of_int hz ⟨.str _,H,I.tok _,⟨_,rfl⟩,q⟩
def LenV  (K:Yac)(x:V)(H:Hp)(n:Nat):Prop:=
 match x with
 |.str y=>y.length<=Yag/\n=y.length
 |.byt y=>y.size<=Yag/\n=y.size
 |.ref p=>(∃xs,SqL K H p xs/\n=xs.length)\/∃xs,SqT K H p xs/\n=xs.length
 |_=>False
def jku  : jaN X (.builtin "len") (λxs H Q=>∃x n,xs=[x]/\LenV X.K x H n/\Q (.int n) H):=by
 intro pins s σ H xs us Q I r h;obtain⟨x,n,rfl,e,q⟩:=h;obtain⟨u,rfl,rx⟩:=jcJ r;have hl:=jdP;have hs:Yag=16777216:=YbU;cases x with
 |str y=>
  obtain⟨t,rfl⟩:=rx;obtain⟨hy,e'⟩:y.length<=Yag/\n=y.length:=e;subst e';exact len_str (by lia) ⟨.int _,H,I.tok _,⟨_,rfl⟩,q⟩
 |byt y=>
  obtain⟨t,rfl⟩:=rx;obtain⟨hy,e'⟩:y.size<=Yag/\n=y.size:=e;subst e';exact PySem.W.len_bytes (by lia) ⟨.int _,H,I.tok _,⟨_,rfl⟩,q⟩
 |ref p=>
  cases rx;have e':(∃xs,SqL X.K H p xs/\n=xs.length)\/∃xs,SqT X.K H p xs/\n=xs.length:=e;rcases e' with⟨xs,hx,e'⟩|⟨xs,hx,e'⟩
  ·subst e';obtain⟨its,r',pl,hz⟩:=I.list hx;have hlen:=r'.length;exact Calls.call_len_list pl.isList (by simp only[Yak];lia) ⟨.int xs.length,H,I.tok _,⟨_,by simp only[Yak];rw[hlen]⟩,q⟩
  ·subst e';obtain⟨its,r',pl,hz⟩:=I.tuple hx;have hlen:=r'.length;exact len_tuple pl (by simp only[Yak];lia) ⟨.int xs.length,H,I.tok _,⟨_,by simp only[Yak];rw[hlen]⟩,q⟩
 |_=>exact(show False from e).elim
end

structure ObjM (h:Heap)(x dx C:Addr)(mA:Str->Option Value):Prop where
 obj:h.get? x=some (YdM C dx)
 ns:h.Ns1 dx mA
 ne:dx≠x

def jiV  {h:Heap}(n:h.Ns1 dx mA):∃od,h.get? dx=some od/\∀name,Yd6 name od=some (mA name):=by
 obtain⟨o,es,ep,ho,hd,hk,_,hm⟩:=n;refine⟨o,ho,λname=>?_⟩;have e:=hm name;unfold nsFind findBy at e;rw[<- Ydy]at e;unfold Yd6;rw[hd];dsimp only;split
 ·rename_i y q;rw[q]at e;exact congrArg some e
 ·rename_i q;rw[q]at e;have a:es.toList.any (·.refKey)=false:=by
   rw[List.any_eq_false];intro y hy;obtain⟨z,t,hkey⟩:=hk y (Array.mem_toList_iff.mp hy);simp[Ydw.refKey,hkey]
  have a':¬es.toList.any (·.refKey)=true:=by rw[a];exact Yaj
  rw[if_neg a'];exact congrArg some e

def ObjM.look     (I:ObjM h x dx C mA):∃od,PySem.W.InstAt h x (YdM C dx) C (some od)/\∀name,Yd6 name od=some (mA name):=
 let ⟨od,ho,hl⟩:=jiV I.ns
 ⟨od,⟨I.obj,rfl,rfl,ho⟩,hl⟩



noncomputable def putF  (f:Str)(v:V):List (Str×V)->List (Str×V)
 |[]=>[(f,v)]
 |(g,x)::r=>if g=f then (g,v)::r else (g,x)::putF f v r
theorem jdO   f g v:∀fs ,(putF f v fs).lookup g=if g=f then some v else fs.lookup g
 |[]=>by
  show Ybx g [(f,v)]=_;by_cases h:g=f
  ·have hb:(g==f)=true:=beq_iff_eq.mpr h;simp only[Ybx,hb,if_pos h]
  ·have hb:(g==f)=false:=beq_eq_false_iff_ne.mpr h;simp only[Ybx,hb,if_neg h]
 |(k,x)::r=>by
  have ih:=jdO f g v r;rw[show putF f v ((k,x)::r)=(if k=f then (k,v)::r else (k,x)::putF f v r)from rfl]
  by_cases hk:k=f
  ·rw[if_pos hk];by_cases h:g=k
   ·have hb:(g==k)=true:=beq_iff_eq.mpr h;simp only[Ybx,hb,if_pos (h.trans hk)]
   ·have hb:(g==k)=false:=beq_eq_false_iff_ne.mpr h;simp only[Ybx,hb,if_neg (λe:g=f=>h (e.trans hk.symm))]
  ·rw[if_neg hk];by_cases h:g=k
   ·have hb:(g==k)=true:=beq_iff_eq.mpr h;simp only[Ybx,hb,if_neg (λe:g=f=>hk (h.symm.trans e))]
   ·have hb:(g==k)=false:=beq_eq_false_iff_ne.mpr h;simp only[Ybx,hb];exact ih
def RelO.some_of    (r:RelO (some v) o):∃u,o=some u/\RelV v u:=by
 cases o with
 |none=>exact(show False from r).elim
 |some u=>exact⟨u,rfl,r⟩
def RelO.none_of   (r:RelO none o):o=none:=by
 cases o with
 |none=>rfl
 |some u=>exact(show False from r).elim

def jmE  (hok:HOk P w H h)(e:H a=some (.ins C dx fs)):∃mA,ObjM h a dx C mA/\(∀f,RelO (fs.lookup f) (mA f))/\PySem.Within mA (fs.map (·.1))/\fs.length<=1000/\H dx=some (.own a):=by
 obtain⟨d,z,ne,ob,mA,n,r,q⟩:=(show jaC P w H h a (.ins C dx fs)from hok a _ e);exact⟨mA,⟨ob,n,ne⟩,r,q,z,d⟩

structure Cls (K:Yac)(C:Addr):Prop where
 pg:Yfe K C Str.empty=true
 hd:PySem.W.hasDictIn K C=true
 po:PySem.W.plainOver K C=true
 sa:YfD K (.ref C) "__setattr__" = some (some (.builtin "object.__setattr__"))
def Cls.get  {K:Yac}(c:Cls K C) f:Yfe K C f=true:=c.pg

def jmU          (hb:YcG e f env (eval e env)=eval e env)
  (h:wpAny (model prog w) A (eval e env) (λo s₁=>wpAny (model prog w) A (getAttr o f true) Q E s₁) E s):wpAny (model prog w) A (eval (.Attribute e f pos) env) Q E s:=
 Attribute_any_ h (by rw[arm_eval_Attribute,hb])



section
variable {X:Cx}{pins:List (Addr×Obj)}{σ:St}{H:Hp}{s:Shared}{A:Around}{E:Value->Shared->Prop}{Q:Value->Shared->Prop}{c:Value}{b:Bool}
inductive TyOf (K:Yac)(H:Hp):V->Value->Prop where
 |non:TyOf K H .non (.type "NoneType")
 |bl (x:Bool):TyOf K H (.bl x) (.type "bool")
 |int (i:Int):TyOf K H (.int i) (.type "int")
 |str (x:Str):TyOf K H (.str x) (.type "str")
 |flt (x:UInt64):TyOf K H (.flt x) (.type "float")
 |lst {a:Addr} {xs:List V} (e:H a=some (.lst xs)):TyOf K H (.ref a) (.type "list")
 |frz {a:Addr} {o:Obj} {xs:List V} (e:H a=some (.frz o (.lst xs))):TyOf K H (.ref a) (.type "list")
 |tup {a:Addr} {xs:List V} (e:H a=some (.tup xs)):TyOf K H (.ref a) (.type "tuple")
 |dK {a:Addr} {kvs:List (Key×V)} (e:H a=some (.dK kvs)):TyOf K H (.ref a) (.type "dict")
 |dT {a:Addr} {kvs:List (List Key×V)} (e:H a=some (.dT kvs)):TyOf K H (.ref a) (.type "dict")
 |ins {a C dx:Addr} {fs:List (Str×V)} (e:H a=some (.ins C dx fs)) (cl:Cls K C) (ha:YfD K (.ref C) "__class__" = some (some (.builtin "object.__class__")))
   (hn:PySem.W.specialIn K (.builtin "object.__class__") "__get__" = some (some (.builtin "getset_descriptor.__get__"))) (htk:PySem.W.takesIn K (.builtin "object.__class__")=some true)
   (hm:PySem.W.mroIn K C (.type "object")=some true):TyOf K H (.ref a) (.ref C)
def ji1    (I:Inv X pins σ H s)(rx:RelV x u)(ty:TyOf X.K H x t)(e:Yc6 X.K t c=some b)(h:∀tk,Q (.bool b) { s with toks:=tk }) :
  wpAny (model X.prog X.w) A (call (.builtin "isinstance") [u,c]) Q E s:=by
 cases ty with
 |non=>cases(show u=Ybs from rx);exact Ya5 PySem.W.kitx_none I.kIn YbP e (λz=>nomatch z) h
 |bl y=>cases(show u=Yeq y from rx);exact Ya5 PySem.W.kitx_bool I.kIn YbP e (λz=>nomatch z) h
 |int i=>obtain⟨t,q⟩:=(show ∃t,u=Ydu i t from rx);cases q;exact Ya5 PySem.W.kitx_int I.kIn YbP e (λz=>nomatch z) h
 |str y=>obtain⟨t,q⟩:=(show ∃t,u=YeR y t from rx);cases q;exact Ya5 PySem.W.kitx_str I.kIn YbP e (λz=>nomatch z) h
 |flt y=>obtain⟨t,q⟩:=(show ∃t,u=Value.float y t from rx);cases q;exact Ya5 PySem.W.kitx_float I.kIn YbP e (λz=>nomatch z) h
 |@lst a xs ea=>
  cases(show u=YaP a from rx);obtain⟨_,_,n,_,h1⟩:=(show jaC X.prog X.w H s.heap a (.lst xs)from I.hok a _ ea);exact Ya5 Ye6 I.kIn ⟨_,h1,rfl⟩ e (λz=>nomatch z) h
 |@frz a ob xs ea=>
  cases(show u=YaP a from rx);obtain⟨_,_,_,n,_,h1⟩:=(show jaC X.prog X.w H s.heap a (.frz ob (.lst xs))from I.hok a _ ea);exact Ya5 Ye6 I.kIn ⟨_,h1,rfl⟩ e (λz=>nomatch z) h
 |@tup a xs ea=>
  cases(show u=YaP a from rx);obtain⟨_,_,_,p⟩:=(show jaC X.prog X.w H s.heap a (.tup xs)from I.hok a _ ea);obtain⟨o,h1,h2,_⟩:=p;exact Ya5 PySem.W.kitx_tuple I.kIn ⟨o,h1,h2⟩ e (λz=>nomatch z) h
 |@dK a kvs ea=>
  cases(show u=YaP a from rx);obtain⟨_,_,vs,_,p⟩:=(show jaC X.prog X.w H s.heap a (.dK kvs)from I.hok a _ ea);obtain⟨o,es,ep,h1,h2,_⟩:=p;exact Ya5 Ye7 I.kIn ⟨o,h1,h2.1⟩ e (λz=>nomatch z) h
 |@dT a kvs ea=>
  cases(show u=YaP a from rx);obtain⟨_,_,xs,_,o,es,ep,h1,h2,_⟩:=(show jaC X.prog X.w H s.heap a (.dT kvs)from I.hok a _ ea);exact Ya5 Ye7 I.kIn ⟨o,h1,h2.1⟩ e (λz=>nomatch z) h
 |@ins a C dx fs ea cl ha hn htk hm=>
  cases(show u=YaP a from rx);obtain⟨mA,O,_⟩:=jmE I.hok ea;obtain⟨od,J,_⟩:=O.look;exact Ya5 (PySem.W.kitx_own (cl.get _) cl.hd ha hn htk hm) I.kIn J e (λz=>nomatch z) h
end

structure Room (k:Nat)(A:Around):Prop where
 hd:A.handled=none
 dp:A.depth+k+20<recursionLimit
 un:A.units+8*k+200<cLine
 gd:A.guards=some []
def Room.mono    (r:Room k A)(h:j<=k):Room j A:=⟨r.hd,by have:=r.dp;lia,by have:=r.un;lia,r.gd⟩
def Room.deeper    (r:Room (k+1) A) env:Room k (A.deeper env):=
 ⟨r.hd,by have:=r.dp;show A.depth+1+k+20<_;lia,by have:=r.un;show A.units+3+8*k+200<_;lia,r.gd⟩
def jhQ  {A:Around}:(A.under (.builtin "type.__call__" ⟨.ref C::us,kw⟩)).depth=A.depth+1:=by
 first|rfl|simp[YeO,Code.weight,Code.isCreation,Code.isGuard,Code.isCaller,Code.frames,Ye0,guardIds]
def jhP  {A:Around}:(A.under (.builtin "type.__call__" ⟨.ref C::us,kw⟩)).units=A.units+1:=by
 first|rfl|simp[YeO,Code.cUnits,Code.frames,Ye0]
def Room.make    (r:Room (k+1) A) C us kw:Room k (A.under (.builtin "type.__call__" ⟨.ref C::us,kw⟩)):=
 ⟨r.hd,by have:=r.dp;rw[jhQ];lia,by have:=r.un;rw[jhP];lia,r.gd⟩
def Room.depth    (r:Room k A):A.depth<recursionLimit:=by have:=r.dp;lia
def Room.units    (r:Room k A):A.units+64<cLine:=by have:=r.un;lia
def Room.units0    (r:Room k A):A.units<cLine:=by have:=r.un;lia

def tNil  : TA:=λ_ H Q=>Q [] H
def jid  (ta:TE)(tr:TA):TA:=λσ H Q=>ta σ H λx H1=>tr σ H1 λxs H2=>Q (x::xs) H2
section
variable {X:Cx}{e:Expr}{es:List Expr}{te:TE}{t:TA}{pos:Pos}
def jdC  : PA X [] tNil:=λ_ _ _ _ H Q I h=>Calls.spliced_nil ⟨[],H,I,.nil,h⟩
def jaH (ha:PE X e te)(hr:PA X es t)(hs:Yap (e::es) X.env=(false,eval e X.env)::Yap es X.env:=by rfl):PA X (e::es) (jid te t):=by
 intro pos pins s σ H Q I h;rw[hs];show wpAny _ _ (spliced ((false,eval e X.env)::backTo pos (Yap es X.env))) _ _ s;refine Yfi (thn (ha pins s σ H _ I h) λu s1 ⟨x,H1,I1,r1,q1⟩=>?_);exact thn (hr pos pins s1 σ H1 _ I1 q1) λus s2 ⟨xs,H2,I2,r2,q2⟩=>⟨x::xs,H2,I2,.cons r1 r2,q2⟩

def tTup  (t:TA):TE:=λσ H Q=>t σ H λxs H1=>xs.length<=Yag/\∀p,H1 p=none->Q (.ref p) (upd H1 p (.tup xs))
def tLst  (t:TA):TE:=λσ H Q=>t σ H λxs H1=>xs.length<=Yag/\∀p,H1 p=none->Q (.ref p) (upd H1 p (.lst xs))
def jiy   (h:PA X es t):PE X (.Tuple es x1 pos) (tTup t):=by
 intro pins s σ H Q I hq;refine wpAny_Tuple_spliced (thn (h pos pins s σ H _ I hq) λus s1 ⟨xs,H1,I1,r,z,q⟩=>⟨by rw[<- r.length];exact z,?_⟩)
 have hf:H1 s1.heap.objs.size=none:=I1.hok.fresh (Yab _);refine⟨.ref s1.heap.objs.size,upd H1 s1.heap.objs.size (.tup xs),I1.laid (t':=s1.toks) (λb u e=>Yae _ e) (Yab _) ?_,rfl,q _ hf⟩;exact⟨z,us,r,⟨_,Yau _ rfl,rfl,_,rfl,rfl⟩⟩
def jkN  (h:PA X es t):PE X (.List es pos) (tLst t):=by
 intro pins s σ H Q I hq;refine wpAny_List_spliced (thn (h pos pins s σ H _ I hq) λus s1 ⟨xs,H1,I1,r,z,q⟩=>⟨by rw[<- r.length];exact z,?_⟩)
 have hf:H1 s1.heap.objs.size=none:=I1.hok.fresh (Yab _);refine⟨.ref s1.heap.objs.size,upd H1 s1.heap.objs.size (.lst xs),I1.laid (t':=s1.toks) (λb u e=>Yae _ e) (Yab _) ?_,rfl,q _ hf⟩;exact⟨z,us,0,r,Yau _ rfl⟩
end

abbrev Sp:=List V->Hp->VK->XK->Prop
abbrev CXT:=List Env->Hp->Shared->XK->Value->Shared->Prop

structure Env0 (P:Program)(w:World)(K:Yac)(mg:Str->Option Value)(base:Heap)(A:Around)(outer:List Env)(s:Shared)(H:Hp):Prop where
 frames:A.frames=some outer
 mod:Mod K mg base
 bs:∀b o,base.get? b=some o->s.heap.get? b=some o/\H b=none
 bsz:base.objs.size<=s.heap.objs.size
 funs:s.heap.FunFrames base outer
 frf:∀b∈frs outer,H b=none
 hok:HOk P w H s.heap
 bare:AllBare s.gens
def CE  (outer:List Env)(P:Program)(w:World)(H:Hp)(s:Shared)(Q:VK)(u:Value)(s':Shared):Prop:=
 ∃v H',s'.os=s.os/\AllBare s'.gens/\Un (frs outer) [] H H' s.heap s'.heap/\HOk P w H' s'.heap/\RelV v u/\Q v H'
def CR  (CX:CXT)(outer:List Env)(P:Program)(w:World)(H:Hp)(s:Shared)(Q:VK)(E:XK)(r:Result)(s':Shared):Prop:=
 match r with
 |.ok (.ret u)=>CE outer P w H s Q u s'
 |.ok _=>False
 |.error e=>CX outer H s E e s'
structure FnOk (P:Program)(w:World)(K:Yac)(mg:Str->Option Value)(base:Heap)(CX:CXT)(k:Nat)(f:Addr)(fd:YeL)(ps:List Str)(sp:Sp):Prop where
 len:∀vs H Q E,sp vs H Q E->vs.length=ps.length
 run:∀(A:Around) (outer:List Env) (s:Shared) (H:Hp) (args:Args) (us:List Value) (vs:List V) (Q:VK) (E:XK),Room k A->Env0 P w K mg base A outer s H->BindsTo s fd args (ps.zip us)->Vals vs us->sp vs H Q E->
  codeAny (model P w) A (.call (.ref f) args) (CR CX outer P w H s Q E) s
def Env0.make    {K:Yac}(e:Env0 P w K mg base A outer s H) C us kw :
  Env0 P w K mg base (A.under (.builtin "type.__call__" ⟨.ref C::us,kw⟩)) outer s H:=⟨by first|exact e.frames|(simpa[YeO,Code.envs,Ye0,pushEnvs]using e.frames),e.mod,e.bs,e.bsz,e.funs,e.frf,e.hok,e.bare⟩

def Inv.env0  {σ: St}(I:Inv X pins σ H s):Env0 X.prog X.w X.K X.mg X.base X.A X.stack s H:=
 ⟨I.ok.frames,I.ok.mod,I.bs,Yah I.ok.bsz I.sz,I.stack,I.stkFree,I.hok,I.bare⟩
def Inv.after  {σ: St}(I:Inv X pins σ H s)(h:CE X.stack X.prog X.w H s Q u s'):EP X pins σ Q u s':=by
 obtain⟨v,H',os,bare,un,hok,r,q⟩:=h;obtain⟨hh,g,d,t,os'⟩:=s';obtain rfl:os'=s.os:=os;exact⟨v,H',I.call (h':=hh) (g':=g) (d':=d) (t':=t) (ch:=[]) un hok bare (λb z=>absurd z (by simp)),r,q⟩

def Binds  (K:Yac)(fd:YeL)(ps:List Str)(ds:List Value):Prop:=
 ∀(s:Shared) (us:List Value),K.In s.heap->(us++ds).length=ps.length->BindsTo s fd ⟨us,[]⟩ (ps.zip (us++ds))
def Binds.all  {K:Yac}(h:∀us ,us.length=ps.length->Yfq fd ⟨us,[]⟩=pure (ps.zip us)):Binds K fd ps []:=λs us _ hl=>by
 rw[Ya7]at hl ⊢;exact .of_eq (h us hl)





structure FnScope (N P:List Str)(sc:Scope):Prop where
 kind:sc.kind=.function
 co:sc.isCoroutine=false
 gen:sc.isGenerator=false
 nd:N.Nodup
 pre:N.take P.length=P
 par:∀x∈P,sc.names.lookup x=some .local\/sc.names.lookup x=some .cell
 nofree:∀y∈sc.names,y.2≠.free

theorem jfQ  {kindOf:Str->Option Ybv}:∀{binds } {m },(∀v,(x,v)∉binds)->bindL kindOf binds m x=m x
 |[],_,_=>rfl
 |(n,v)::r,m,h=>by
  unfold bindL;rw[jfQ λw hw=>h w (Yao _ hw)];split
  ·have:x≠n:=by rintro rfl;exact h v YaC
   simp[this]
  ·rfl
theorem jfS  {kindOf:Str->Option Ybv}:∀{binds } {m },(∀v,(x,v)∉binds)->bindC kindOf binds m x=m x
 |[],_,_=>rfl
 |(n,v)::r,m,h=>by
  unfold bindC;rw[jfS λw hw=>h w (Yao _ hw)];split
  ·rfl
  ·have:x≠n:=by rintro rfl;exact h v YaC
   simp[this]
theorem jfR  {kindOf:Str->Option Ybv}:∀{P:List Str} {vs } {i:Nat} {m },P.Nodup->P[i]?=some x->vs[i]?=some v->kindOf x=some .local->
  bindL kindOf (P.zip vs) m x=some v
 |[],_,_,_,_,h,_,_=>by simp at h
 |_::_,[],_,_,_,_,h,_=>by simp at h
 |p::P,w::vs,0,m,nd,h1,h2,hk=>by
  simp at h1 h2;subst h1;subst h2;show bindL kindOf ((p,w)::P.zip vs) m p=_;unfold bindL;rw[jfQ λv hv=>(List.nodup_cons.mp nd).1 (Yci hv).1,if_pos hk];simp
 |p::P,w::vs,i+1,m,nd,h1,h2,hk=>by
  show bindL kindOf ((p,w)::P.zip vs) m x=_;unfold bindL;exact jfR (i:=i) (List.nodup_cons.mp nd).2 (by simpa using h1) (by simpa using h2) hk
theorem jfT  {kindOf:Str->Option Ybv}:∀{P:List Str} {vs } {i:Nat} {m },P.Nodup->P[i]?=some x->vs[i]?=some v->kindOf x≠some .local->
  bindC kindOf (P.zip vs) m x=some v
 |[],_,_,_,_,h,_,_=>by simp at h
 |_::_,[],_,_,_,_,h,_=>by simp at h
 |p::P,w::vs,0,m,nd,h1,h2,hk=>by
  simp at h1 h2;subst h1;subst h2;show bindC kindOf ((p,w)::P.zip vs) m p=_;unfold bindC;rw[jfS λv hv=>(List.nodup_cons.mp nd).1 (Yci hv).1,if_neg hk];simp
 |p::P,w::vs,i+1,m,nd,h1,h2,hk=>by
  show bindC kindOf ((p,w)::P.zip vs) m x=_;unfold bindC;exact jfT (i:=i) (List.nodup_cons.mp nd).2 (by simpa using h1) (by simpa using h2) hk

noncomputable def start  (N:List Str)(vs:List V):St:=vs.map some++Yaa (N.length-vs.length) none

noncomputable def cxOf  (CX:CXT)(P:Program)(w:World)(K:Yac)(mg:Str->Option Value)(base:Heap)(N:List Str)(qual:Str)(scope:Scope)(f:Addr)(cd:Value)(A:Around)(outer:List Env)(s:Shared)(H:Hp)(E:XK):Cx where
 prog:=P
 w:=w
 K:=K
 mg:=mg
 base:=base
 A:=A.deeper (envOfC qual scope s.heap.objs.size f cd)
 N:=N
 s₀:=s
 H₀:=H
 env:=envOfC qual scope s.heap.objs.size f cd
 outer:=outer
 stack:=envOfC qual scope s.heap.objs.size f cd::outer
 ex:=[]
 calm:=true
 fn:=λ_=>true
 pn:=[]
 xe:=λe s'=>wpAny (model P w) (A.deeper (envOfC qual scope s.heap.objs.size f cd)) (leaving (envOfC qual scope s.heap.objs.size f cd) e) (λ_ s''=>CX outer H s E e s'') (λe' s''=>CX outer H s E e' s'') s'

def je8  {sc:Scope}(h:sc.names.lookup x=some .cell):∃c,(Ya9 n sc.names []).lookup x=some c:=by
 have q:=Ych sc.names n [] (.inl h);exact Option.isSome_iff_exists.mp q

def jdT     {K:Yac} 
  (S:FnScope N ps scope) (hd:A.handled=none) (e0:Env0 P w K mg base A outer s H) (hl:vs.length=ps.length) (r:Vals vs us)
  (x:InCallC s s.heap.objs.size (bindL (envOfC qual scope s.heap.objs.size f cd).kindOf (ps.zip us) λ_=>none) (Ya9 (s.heap.objs.size+1) scope.names []) (bindC (envOfC qual scope s.heap.objs.size f cd).kindOf (ps.zip us) λ_=>none) s1) :
  Inv (cxOf CX P w K mg base N qual scope f cd A outer s H E) [] (start N vs) H s1:=by
 have hpl:ps.length<=N.length:=by have:=congrArg List.length S.pre;rw[Ycb]at this;lia
 obtain⟨h1,tk,rfl,hk⟩:=x.done;have noA:∀b:Addr,b∉(cxOf CX P w K mg base N qual scope f cd A outer s H E).ex:=λb z=>absurd (show b∈([]:List Addr)from z) (by simp)
 refine⟨⟨e0.mod,S.kind,rfl,rfl,Yab _,λy z c h1 h2=>?_,λy hy=>?_,λy c _ h=>?_,λ_=>hd,YeW e0.frames,.inr ⟨rfl,rfl⟩,λb z=>absurd z (noA b),e0.bs,e0.bsz,λb _ _=>noA b,λb z=>absurd z (noA b),e0.funs,e0.frf⟩,
  rfl,e0.bare,Un.kept hk,⟨_,x.toInCall.ns,λi y v h1 h2 h3=>?_⟩,λy c h=>⟨_,x.cell y c h⟩,e0.hok.fresh (Yab _),λy c h=>?_,λp hp=>absurd (show p∈([]:List (Addr×Obj))from hp) (by simp),e0.hok.kept hk,?_⟩
 ·exact name_of_addr x.apart (Yat h1) (Yat h2)
 ·have hy:scope.names.lookup y=some .cell\/scope.names.lookup y=some .free:=hy;rcases hy with hy|hy
  ·exact je8 hy
  ·exact absurd rfl (S.nofree _ (Yat hy))
 ·exact Yb1 (x.above y c (Yat h))
 ·have hi:i<vs.length:=by
   unfold start at h2;by_cases hi:i<vs.length
   ·exact hi
   ·rw[Ybt (by simpa using hi)]at h2
    rw[Ycj]at h2;split at h2<;>cases h2
  have ha:vs[i]?=some v:=by
   unfold start at h2;rw[Ya1 (by simpa using hi),YaD]at h2
   cases e:vs[i]? with
   |none=>rw[e]at h2;cases h2
   |some a=>rw[e]at h2;cases h2;rfl
  obtain⟨u,hu,rv⟩:=r.get ha;have hp:ps[i]?=some y:=by
   rw[<- S.pre,YeD (by lia)];exact h1
  have ndP:ps.Nodup:=by rw[<- S.pre];exact S.nd.sublist (YdG _ _)
  refine⟨u,rv,?_⟩;rcases S.par y (YaI hp)with k|k
  ·exact .inl ⟨k,jfR ndP hp hu k⟩
  ·obtain⟨c,e⟩:=je8 (n:=s.heap.objs.size+1) k;refine .inr ⟨.inl k,c,e,?_⟩;have q:=x.cell y c e;rw[jfT ndP hp hu (by show scope.names.lookup y≠_;rw[k];decide)]at q
   exact q
 ·exact e0.hok.fresh (Yb1 (x.above y c (Yat h)))
 ·unfold start;show _=N.length;rw[Yar,Yai,YeX]
  lia

def jqf     {K : Yac}{dV kV doc pm cdv ct oc : Value} 
       (lk : K.lookup f = some ⟨oc, od, .func (Ya2 name qual params body scope dV kV doc pm an cdv ct), osl⟩) (hcd : Ybu K cdv qual = true) (S : FnScope N ps scope)
    (len : ∀ vs H Q E, sp vs H Q E -> vs.length = ps.length)
    (hbody : ∀ (A : Around) outer (s : Shared) H (vs : List V) Q E , Room k (A.deeper (envOfC qual scope s.heap.objs.size f cdv)) -> sp vs H Q E ->
      ∃ t, PSs (cxOf CX P w K mg base N qual scope f cdv A outer s H E) body t /\ t { nx := λ_ H' => Q .non H', rt := Q } (start N vs) H) :
    FnOk P w K mg base CX (k + 1) f (Ya2 name qual params body scope dV kV doc pm an cdv ct) ps sp := by
  refine ⟨len, λA outer s H args us vs Q E hr e0 hb r hsp => ?_⟩
  have hl := len _ _ _ _ hsp
  have KX : K.In s.heap := e0.mod.kin.keeps λb o e => (e0.bs b o e).1
  have lim : s.heap.NoLimit := e0.mod.nolimit.keeps λb o e => (e0.bs b o e).1
  have hkind : ∀ y ∈ ps.zip us, scope.names.lookup y.1 = some .local \/ (scope.names.lookup y.1 = some .cell /\ ((Ya9 (s.heap.objs.size + 1) scope.names []).lookup y.1).isSome = true) := λ⟨n, v⟩ hy => by
    rcases S.par n (Yci hy).1 with q | q
    · exact .inl q
    · exact .inr ⟨q, Ych _ _ _ (.inl q)⟩
  refine Ydt hr.depth (KX _ _ lk) rfl S.co S.gen rfl (Ydg KX hcd) (hb _ _ _ _ ?_)
  refine YcV S.kind hkind λenv he s1 x => ?_
  subst he
  refine ⟨lim.keeps x.toInCall.keep, YfN ?_⟩
  obtain ⟨t, ht, hq⟩ := hbody A outer s H vs Q E (hr.deeper _) hsp
  have I : Inv (cxOf CX P w K mg base N qual scope f cdv A outer s H E) [] (start N vs) H s1 := jdT S hr.hd e0 hl r x
  refine YaL (ht [] s1 (start N vs) H _ I hq) (λfl s' hs => ?_) λe s' hs => hs
  have fin : ∀ {σ' : St} {H' : Hp} {v : V} {u : Value}, Inv (cxOf CX P w K mg base N qual scope f cdv A outer s H E) [] σ' H' s' -> RelV v u -> Q v H' -> CE outer P w H s Q u s' :=
    λ{σ' H' v u} J rv q => ⟨v, H', J.os, J.bare, J.base, J.hok, rv, q⟩
  cases fl with
  | ret u =>
    obtain ⟨v, σ', H', J, rv, q⟩ := hs
    exact fin J rv q
  | next =>
    obtain ⟨σ', H', J, q⟩ := hs
    exact fin (v := V.non) (u := Ybs) J rfl q
  | brk =>
    obtain ⟨_, _, _, q⟩ := hs
    exact YbC q
  | cont =>
    obtain ⟨_, _, _, q⟩ := hs
    exact YbC q
section
variable {X:Cx}{x:Str}{p pos:Pos}{e:Expr}{es:List Expr}{t:TA}{id T:String}{r:List V->Hp->VK->Prop}

def tCB  (r:List V->Hp->VK->Prop)(t:TA):TE:=λσ H Q=>t σ H λvs H1=>r vs H1 Q
def jdp (hc:jaN X (.builtin id) r)(hg:Gl X x)(hm:X.mg x=none)(hv:YbR x=some (.builtin id))(ha:PA X (e::es) t)(hn:x ≠ "__name__" := by decide)(hdb:(x==("__debug__" : Str))=false:=by decide)
  (he:Yap (e::es) X.env=(false,eval e X.env)::Yap es X.env:=by rfl) (hpl:(backTo pos (Yap es X.env)).any (·.1)=false:=by rfl):PE X (.Call (.Name x p) (e::es) [] pos) (tCB r t):=by
 intro pins s σ H Q I h;refine Ybl (jdQ I hg hm hv ?_ hn hdb);exact PyProof.Rows.callWith_builtin1 (thn (ha pos pins s σ H _ I h) λus s1 ⟨vs,H1,I1,r1,q1⟩=>hc pins s1 σ H1 vs us Q I1 r1 q1) he hpl
def jdB (hc:jaN X (.type T) r)(hg:Gl X x)(hm:X.mg x=none)(hv:YbR x=some (.type T))(ha:PA X (e::es) t)(hn:x ≠ "__name__" := by decide)(hdb:(x==("__debug__" : Str))=false:=by decide)
  (he:Yap (e::es) X.env=(false,eval e X.env)::Yap es X.env:=by rfl) (hpl:(backTo pos (Yap es X.env)).any (·.1)=false:=by rfl):PE X (.Call (.Name x p) (e::es) [] pos) (tCB r t):=by
 intro pins s σ H Q I h;refine Ybl (jdQ I hg hm hv ?_ hn hdb);exact Ybj (thn (ha pos pins s σ H _ I h) λus s1 ⟨vs,H1,I1,r1,q1⟩=>hc pins s1 σ H1 vs us Q I1 r1 q1) he hpl
end
end L2

namespace HT
open PySem PyProof.Rows

section
open PySem.SeqAt
open PySem.AutoSeq1 (wpAny_loadPart')
open PySem.MeetsSeq PySem.MeetsSeq2 PySem.MeetsSeq3

end

section
variable {prog:Program}{w:World}{A:Around}{E:Value->Shared->Prop}{s:Shared}

def cat_tup     (ht:IsTup s.heap t vs.toArray)(hb:IsTup s.heap b ws.toArray)(hv:vs≠[])
  (h1:ws=[]->Q (.ref t) s) (h2:ws≠[]->Q (.ref s.heap.objs.size) { s with heap:=s.heap.push { cls:=.type "tuple",data:=.seq (vs++ws).toArray } })
  (hsz:vs.length+ws.length<=Yag):wpAny (model prog w) A (Yba .Add (.ref t) (.ref b)) Q E s:=by
 obtain⟨⟨cls,dd,data,sl⟩,ho,hc,n,hd⟩:=id ht;obtain⟨⟨cls2,dd2,data2,sl2⟩,ho2,hc2,n2,hd2⟩:=id hb;simp only at hc hd hc2 hd2;subst hc hd hc2 hd2;have e:vs.toArray++ws.toArray=(vs++ws).toArray:=by simp
 by_cases hw:ws=[]
 ·exact YfM ⟨_,ho,rfl⟩ ⟨_,ho2,rfl⟩ Yey Yfn YcX YcT (YcJ _ _)
   (tuple_addW1 t b vs.toArray ws.toArray n n2 dd dd2 sl sl2 (by simpa using hv) (by simp[hw])) ⟨ho,ho2,h1 hw⟩
 ·refine YfM ⟨_,ho,rfl⟩ ⟨_,ho2,rfl⟩ Yey Yfn YcX YcT (YcJ _ _)
   (tuple_addW2 t b vs.toArray ws.toArray n n2 dd dd2 sl sl2 (by simpa using hv) (by simpa using hw) (by rw[Yak,Yak];exact hsz)) ⟨ho,ho2,?_⟩
  rw[e];exact h2 hw

noncomputable def sIx  (n d:Nat):Option Int->Nat
 |none=>d
 |some v=>if v<0 then (v+(n:Int)).toNat else min v.toNat n
def sIx_none   n d:sIx n d none=d:=rfl
def sIx_nat  (n d k:Nat):sIx n d (some (k:Int))=min k n:=by
 show(if (k:Int)<0 then ((k:Int)+(n:Int)).toNat else min (k:Int).toNat n)=min k n
 rw[if_neg (by lia),YbE]
def jns   n d (hd:d<=n) o:sIx n d o<=n:=by
 cases o with
 |none=>exact hd
 |some v=>
  show(if v<0 then (v+(n:Int)).toNat else min v.toNat n)<=n
  by_cases hv:v<0
  ·rw[if_pos hv];lia
  ·rw[if_neg hv];exact Nat.min_le_right _ _
def jjs   v (n d:Nat):(if v<0 then max (v+(n:Int)) 0 else min v (n:Int))=((sIx n d (some v):Nat):Int):=by
 show(if v<0 then max (v+(n:Int)) 0 else min v (n:Int))=(((if v<0 then (v+(n:Int)).toNat else min v.toNat n):Nat):Int)
 by_cases hv:v<0
 ·simp only[if_pos hv];lia
 ·simp only[if_neg hv];lia
def jh4   lo hi (n:Nat):Ybm lo hi 1 (n:Int)=(((sIx n 0 lo:Nat):Int),((sIx n n hi:Nat):Int)):=by
 have h1:¬((1:Int)<0):=by lia
 unfold Ybm;simp only[h1,if_false];refine Prod.ext ?_ ?_
 ·cases lo with
  |none=>rfl
  |some v=>exact jjs v n 0
 ·cases hi with
  |none=>rfl
  |some v=>exact jjs v n n
def jhA  (i j:Nat):YaN (i:Int) (j:Int) 1=j-i:=by
 unfold YaN;have h1:(1:Int)>0:=by lia
 simp only[h1,if_true,Ye9];split<;>lia
def jbe     (p:IsPart v o)(h:Q o s):wpAny (model prog w) A (Builtin.Slice.slicePartIndex v) Q E s:=by
 cases p with
 |none=>exact slicePart_none h
 |int i t=>exact slicePart_int h
def jbp    {lo hi:Option Int}{n:Nat}(hs:s.heap.IsSliceOf sl vl vu .none)(pl:IsPart vl lo)(pu:IsPart vu hi)
  (h:Q (((sIx n 0 lo:Nat):Int),1,sIx n n hi-sIx n 0 lo) s):wpAny (model prog w) A (YbO (.ref sl) (pure (n:Int))) Q E s:=by
 obtain⟨os,hos,hcs,hds⟩:=id hs;unfold YbO Ydx;refine Yad (Yad (YbT hos hds (x:=vl) rfl (Yad (YbT hos hds (x:=vu) rfl (Yad (YbT hos hds (x:=.none) rfl (Yal ?_)))))));refine Yad (slicePart_none ?_);show wpAny _ _ (if ((1:Int)==0)=true then _ else _) _ _ s
 rw[if_neg (by decide)]
 refine Yad (jbe pl (Yad (jbe pu (Yad (Yal ?_)))));show wpAny _ _ (match Ybm lo hi 1 (n:Int)with|(lo,hi)=>pure (lo,(1:Int),YaN lo hi 1)) _ _ s
 rw[jh4 lo hi n];show wpAny _ _ (pure (((sIx n 0 lo:Nat):Int),(1:Int),YaN ((sIx n 0 lo:Nat):Int) ((sIx n n hi:Nat):Int) 1)) _ _ s;rw[jhA];exact Yal h
def jj0  (xs:Array Value)(i k:Nat):((YaO k).filterMap λ(m:Nat)=>xs[((i:Int)+(m:Int)*1).toNat]?).toArray=((xs.toList.drop i).take k).toArray:=by
 have e:(λ(m:Nat)=>xs[((i:Int)+(m:Int)*1).toNat]?)=λm=>xs[i+m]?:=by
  funext m;have:((i:Int)+(m:Int)*1).toNat=i+m:=by lia
  rw[this]
 rw[e];have:=pick_run xs i k;rw[Yfy]at this;have e2:((λx=>xs[x]?) ∘ λx=>i+x)=λm=>xs[i+m]?:=rfl;rw[e2]at this;rw[this]

def getItem_tuple_cut     {lo hi:Option Int}(ht:IsTup s.heap t items)(hs:s.heap.IsSliceOf sl vl vu .none)(pl:IsPart vl lo)(pu:IsPart vu hi)
  (hw:¬(sIx items.size 0 lo=0/\sIx items.size items.size hi=items.size))
  (h:Q (.ref s.heap.objs.size) { s with heap:=s.heap.push { cls:=.type "tuple",data:=.seq ((items.toList.drop (sIx items.size 0 lo)).take (sIx items.size items.size hi-sIx items.size 0 lo)).toArray } })
  (hsz:items.size<=Yag):wpAny (model prog w) A (getItem (.ref t) (.ref sl)) Q E s:=by
 have htake:sizeOk (.seq ((items.toList.drop (sIx items.size 0 lo)).take (sIx items.size items.size hi-sIx items.size 0 lo)).toArray):=by
  show((items.toList.drop (sIx items.size 0 lo)).take (sIx items.size items.size hi-sIx items.size 0 lo)).toArray.size<=Yag;rw[Yak,Ycb,Ycc,Ydl]
  lia
 have hj:sIx items.size items.size hi<=items.size:=jns _ _ (Yab _) hi;obtain⟨os,hos,hcs,hds⟩:=id hs;have hTs:s.TypeIs (.ref sl) "slice" := ⟨os,hos,hcs⟩;unfold getItem
 try with_reducible refine Yb8 ?_
 first|refine Yad (Yal ?_)|skip
 refine Yad (Yeh ht.typeIs (by decide) ?_)
 refine Yad (Yc9 (name:=YbN "__getitem__") ht.typeIs YaT
  (Yex YaT ht.typeIs YdK ?_ (Yd5 _ _)))
 show wpAny _ _ (Ycu (.ref t) >>= _) _ _ s;refine Yad (Yfl ht ?_);refine Yad (Ydr hTs ?_);rw[if_pos (by decide)]
 refine Yad (jbp hs pl pu ?_);have hno:¬((((sIx items.size 0 lo:Nat):Int)==0&&(1:Int)==1&&(sIx items.size items.size hi-sIx items.size 0 lo)==items.size)=true):=by
  intro q;rw[Yaf,Yaf]at q;have q1:((sIx items.size 0 lo:Nat):Int)=0:=eq_of_beq q.1.1;have q2:sIx items.size items.size hi-sIx items.size 0 lo=items.size:=eq_of_beq q.2;exact hw ⟨by lia,by lia⟩
 show wpAny _ _ (if (((sIx items.size 0 lo:Nat):Int)==0&&(1:Int)==1&&(sIx items.size items.size hi-sIx items.size 0 lo)==items.size)=true then _ else _) _ _ s
 rw[if_neg hno,jj0]
 first
  |exact Yad (m:=YaQ _) (YaZ (Yal ⟨_,rfl,Yal h⟩) htake)
  |exact Yad (m:=YaQ _) (YaZ (Yad (Yal (Yal ⟨_,rfl,Yal h⟩))) htake)
  |exact Yad (Yad (m:=YaQ _) (YaZ (Yal (Yal ⟨_,rfl,Yal h⟩)) htake))
  |exact Yad (Yad (m:=YaQ _) (YaZ (Yal ⟨_,rfl,Yal h⟩) htake))
end
end HT

namespace L2
open PySem PySem.Spec PyProof.Rows

abbrev TO:=St->Hp->(Option Int->Hp->Prop)->Prop
def PO  (X:Cx)(e:Option Expr)(t:TO):Prop:=
 ∀(pins:List (Addr×Obj)) (s:Shared) (σ:St) (H:Hp) (Q:Option Int->Hp->Prop),Inv X pins σ H s->t σ H Q->
  wpAny (model X.prog X.w) X.A (evalPart e X.env) (λu s'=>∃o H',Inv X pins σ H' s'/\IsPart u o/\Q o H') X.xe s
def jlu  : TO:=λ_ H Q=>Q none H
def jpq  (t:TE):TO:=λσ H Q=>t σ H λx H1=>∃i,x=.int i/\Q (some i) H1


def jlR  : PO X none jlu:=by
 intro pins s σ H Q I h;rw[Yfp];exact Yal ⟨none,H,I,.none,h⟩
def jlQ  (h:PE X e te):PO X (some e) (jpq te):=by
 intro pins s σ H Q I hw;rw[evalPart_some];refine thn (h pins s σ H _ I hw) λu s1 ⟨x,H1,I1,r1,q1⟩=>?_;obtain⟨i,rfl,q⟩:=q1;obtain⟨t,rfl⟩:=r1;exact⟨some i,H1,I1,.int i t,q⟩

def SlR  (X:Cx)(r:V->Option Int->Option Int->Hp->VK->Prop):Prop:=
 ∀(pins:List (Addr×Obj)) (s:Shared) (σ:St) (H:Hp) (x:V) (v vl vu:Value) (lo hi:Option Int) (sl:Addr) (Q:VK),Inv X pins σ H s->RelV x v->s.heap.IsSliceOf sl vl vu .none->IsPart vl lo->IsPart vu hi->r x lo hi H Q->
  ∃T id,YaV (.type T) "__getitem__" = pure (some (.builtin id))/\s.TypeIs v T/\wpAny (model X.prog X.w) X.A (getItem v (.ref sl)) (EP X pins σ Q) X.xe s
def SlR.or   (h:SlR X r)(h':SlR X r'):SlR X (λx lo hi H Q=>r x lo hi H Q\/r' x lo hi H Q):=by
 intro pins s σ H x v vl vu lo hi sl Q I rx hs pl pu q;rcases q with q|q
 ·exact h pins s σ H x v vl vu lo hi sl Q I rx hs pl pu q
 ·exact h' pins s σ H x v vl vu lo hi sl Q I rx hs pl pu q
def tSl  (r:V->Option Int->Option Int->Hp->VK->Prop)(te:TE)(tl th:TO):TE:=λσ H Q=>te σ H λx H1=>tl σ H1 λl H2=>th σ H2 λu H3=>r x l u H3 Q
def jj2  {lo: Option Expr}(hr:SlR X r)(he:PE X e te)(hl:PO X lo tl)(hu:PO X hi th):PE X (.Subscript e (.Slice lo hi none p2) pos) (tSl r te tl th):=by
 intro pins s σ H Q I h;refine Subscript_ (thn (he pins s σ H _ I h) λv s1 ⟨x,H1,I1,r1,q1⟩=>?_);refine wpAny_Slice (thn (hl pins s1 σ H1 _ I1 q1) λvl s2 ⟨l,H2,I2,pl,q2⟩=>thn (hu pins s2 σ H2 _ I2 q2) λvu s3 ⟨u,H3,I3,pu,q3⟩=>?_);rw[Yfp];refine Yal ?_;have I4:Inv X pins σ H3 { s3 with heap:=s3.heap.push { cls:=.type "slice",data:=.fields #[vl,vu,.none] } }:=I3.kept (t':=s3.toks) λb ob q=>Yae _ q
 obtain⟨T,id,hT,ht,hg⟩:=hr pins { s3 with heap:=s3.heap.push { cls:=.type "slice",data:=.fields #[vl,vu,.none] } } σ H3 x v vl vu l u s3.heap.objs.size Q I4 r1 (Heap.IsSliceOf.new ..) pl pu q3;show wpAny (model X.prog X.w) X.A (YdZ e (.Slice lo hi none p2) v (.ref s3.heap.objs.size)) (EP X pins σ Q) X.xe { s3 with heap:=s3.heap.push { cls:=.type "slice",data:=.fields #[vl,vu,.none] } }
 exact tail_any (ops:=[.ref s3.heap.objs.size,v]) ht hT hg (by with_unfolding_all rfl)

def cutV  (xs:List V)(lo hi:Option Int):List V:=(xs.drop (HT.sIx xs.length 0 lo)).take (HT.sIx xs.length xs.length hi-HT.sIx xs.length 0 lo)
def jea  (xs:List V) lo hi:(cutV xs lo hi).length<=xs.length:=by
 unfold cutV;rw[Ycb,Ycc]
 lia
def rSlT  (K:Yac):V->Option Int->Option Int->Hp->VK->Prop:=λx lo hi H Q=>∃a xs,x=.ref a/\SqT K H a xs/\
 ¬(HT.sIx xs.length 0 lo=0/\HT.sIx xs.length xs.length hi=xs.length)/\∀p,H p=none->Q (.ref p) (upd H p (.tup (cutV xs lo hi)))
def jnl  : SlR X (rSlT X.K):=by
 intro pins s σ H x v vl vu lo hi sl Q I rx hs pl pu h;obtain⟨a,xs,rfl,hx,hw,q⟩:=h;cases rx;obtain⟨its,r,ht,hz⟩:=I.tuple hx;have hlen:its.toArray.size=xs.length:=by rw[Yak];exact r.length.symm
 refine⟨"tuple",_,YaT.lookup,ht.typeIs,?_⟩;refine HT.getItem_tuple_cut ht hs pl pu (by rw[hlen];exact hw) ?_ (by rw[hlen];exact hz)
 rw[hlen];refine⟨.ref s.heap.objs.size,_,I.laid (t':=s.toks) (o:=.tup (cutV xs lo hi)) (λb ob q=>Yae _ q) (Yab _) ?_,rfl,q _ (I.hok.fresh (Yab _))⟩;exact⟨Yah (jea xs lo hi) hz,_,(r.drop (HT.sIx xs.length 0 lo)).take (HT.sIx xs.length xs.length hi-HT.sIx xs.length 0 lo),TupD.new _ _⟩

def jpI  (K:Yac):R2:=λx y H Q=>∃a b xs ys,x=.ref a/\y=.ref b/\SqT K H a xs/\SqT K H b ys/\xs≠[]/\xs.length+ys.length<=Yag/\
 (ys=[]->Q (.ref a) H)/\(ys≠[]->∀p,H p=none->Q (.ref p) (upd H p (.tup (xs++ys))))
def Vals.nil_iff    (r:Vals xs us):us=[]↔xs=[]:=by
 cases r with
 |nil=>simp
 |cons _ _=>simp
def jl6  : OpR X (Yba .Add) (jpI X.K):=by
 intro pins s σ H x y v u Q I rx ry h;obtain⟨a,b,xs,ys,rfl,rfl,ha,hb,hx,hz,q1,q2⟩:=h;cases rx;cases ry;obtain⟨its,r1,p1,_⟩:=I.tuple ha;obtain⟨its2,r2,p2,_⟩:=I.tuple hb;refine HT.cat_tup p1 p2 (λz=>hx (r1.nil_iff.mp z)) (λz=>⟨.ref a,H,I,rfl,q1 (r2.nil_iff.mp z)⟩) (λz=>?_) (by rw[<- r1.length,<- r2.length];exact hz)
 refine⟨.ref s.heap.objs.size,_,I.laid (t':=s.toks) (o:=.tup (xs++ys)) (λb ob q=>Yae _ q) (Yab _) ?_,rfl,q2 (λw=>z (r2.nil_iff.mpr w)) _ (I.hok.fresh (Yab _))⟩;exact⟨by rw[Yar];exact hz,_,r1.append r2,TupD.new _ _⟩

noncomputable def ixN  (n:Nat)(i:Int):Option Nat:=if 0<=i then (if i<n then some i.toNat else none) else if -(n:Int)<=i then some (i+n).toNat else none
def atI  {α:Type}(xs:List α)(i:Int):Option α:=(ixN xs.length i).bind λj=>xs[j]?
def ji0     (h:ixN n i=some j):YfJ i n=some j/\j<n/\-(n:Int)<=i/\i<n:=by
 unfold ixN at h;by_cases h0:0<=i
 ·rw[if_pos h0]at h;by_cases h1:i<n
  ·rw[if_pos h1]at h;have e:i.toNat=j:=Yas h;exact⟨by rw[seqIndex_of h0 h1,e],by lia,by lia,h1⟩
  ·rw[if_neg h1]at h;cases h
 ·rw[if_neg h0]at h;by_cases h1:-(n:Int)<=i
  ·rw[if_pos h1]at h;have e:(i+n).toNat=j:=Yas h;exact⟨by rw[YfI (by lia) h1,e],by lia,h1,by lia⟩
  ·rw[if_neg h1]at h;cases h
def jgJ      (h:atI xs i=some v):∃j,YfJ i xs.length=some j/\xs[j]?=some v/\j<xs.length/\-(xs.length:Int)<=i/\i<xs.length:=by
 unfold atI at h;cases e:ixN xs.length i with
 |none=>rw[e]at h;cases h
 |some j=>
  rw[e]at h;obtain⟨h1,h2,h3,h4⟩:=ji0 e;exact⟨j,h1,h,h2,h3,h4⟩
def jbj    {j:Nat}{v:α}(h:xs[j]?=some v):atI xs (j:Int)=some v:=by
 have hj:j<xs.length:=(List.getElem?_eq_some_iff.mp h).1;have e:ixN xs.length (j:Int)=some j:=by
  unfold ixN;rw[if_pos (by lia),if_pos (by lia)];simp
 unfold atI;rw[e];exact h
def jgL  (b:Expr):Prop:=∀o i,subscripted b false o i=operate [o,i] (getItem o i)
def IxR  (X:Cx)(r:R2):Prop:=
 ∀(value slice:Expr) (pins:List (Addr×Obj)) (s:Shared) (σ:St) (H:Hp) (x y:V) (v u:Value) (Q:VK),Inv X pins σ H s->RelV x v->RelV y u->r x y H Q->
  subscripted slice false v u=operate [v,u] (getItem v u)->wpAny (model X.prog X.w) X.A (YdZ value slice v u) (EP X pins σ Q) X.xe s
def MtR  (X:Cx)(id:String)(r:V->List V->Hp->VK->Prop):Prop:=
 ∀(pins:List (Addr×Obj)) (s:Shared) (σ:St) (H:Hp) (x:V) (xs:List V) (v:Value) (us:List Value) (Q:VK),Inv X pins σ H s->RelV x v->Vals xs us->r x xs H Q->
  wpAny (model X.prog X.w) X.A (call (.builtin id) (v::us)) (EP X pins σ Q) X.xe s

def IxR.or   (h:IxR X r)(h':IxR X r'):IxR X (λx y H Q=>r x y H Q\/r' x y H Q):=by
 intro value slice pins s σ H x y v u Q I rx ry q hs;rcases q with q|q
 ·exact h value slice pins s σ H x y v u Q I rx ry q hs
 ·exact h' value slice pins s σ H x y v u Q I rx ry q hs
def MtR.or  {id:String}(h:MtR X id r)(h':MtR X id r'):MtR X id (λx xs H Q=>r x xs H Q\/r' x xs H Q):=by
 intro pins s σ H x xs v us Q I rx rs q;rcases q with q|q
 ·exact h pins s σ H x xs v us Q I rx rs q
 ·exact h' pins s σ H x xs v us Q I rx rs q
def jpP   (hr:IxR X r)(ha:PE X a ta)(hb:PE X b tb)(hs:jgL b):PE X (.Subscript a b pos) (tOp r ta tb):=by
 intro pins s σ H Q I h;exact Subscript_ (binT ha hb I h λv u s2 x y H2 I2 rx ry q=>hr a b pins s2 σ H2 x y v u Q I2 rx ry q (hs _ _))

def rIxL  (K:Yac):R2:=λx y H Q=>∃p xs i v,x=.ref p/\y=.int i/\SqL K H p xs/\atI xs i=some v/\Q v H
def rIxT  (K:Yac):R2:=λx y H Q=>∃p xs i v,x=.ref p/\y=.int i/\SqT K H p xs/\atI xs i=some v/\Q v H
def rIxS  : R2:=λx y H Q=>∃z i c,x=.str z/\y=.int i/\z.length<=Yag/\atI z.cps.toList i=some c/\Q (.str ⟨#[c]⟩) H
def jmw  : IxR X (rIxL X.K):=by
 intro value slice pins s σ H x y v u Q I rx ry h hs;obtain⟨p,xs,i,z,rfl,rfl,hq,he,q⟩:=h;cases rx;obtain⟨t,rfl⟩:=ry;obtain⟨its,r,pl,hz⟩:=I.list hq;obtain⟨j,h1,h2,h3,h4,h5⟩:=jgJ he;obtain⟨w,ew,rw'⟩:=r.get h2;have hl:=r.length;have hn:=jdP;have fin:EP X pins σ Q w s:=⟨z,H,I,rw',q⟩;by_cases h0:0<=i
 ·have hj:i.toNat=j:=by
   rw[seqIndex_of h0 h5]at h1;exact Yas h1
  exact item_listR pl.isList h0 (by lia) (by rw[hj];simpa using ew) fin hs
 ·have hj:(i+(its.toArray.size:Int)).toNat=j:=by
   rw[YfI (by lia) h4]at h1
   rw[Yak,<- hl];exact Yas h1
  exact YfA (x:=w) pl.isList.typeIs slot_list_getitem.lookup
   (wpAny_getItem_list_neg (Q:=λr s'=>r=w/\EP X pins σ Q r s') pl.isList (by lia) (by rw[Yak]<;>lia) (by lia) (by rw[hj];simpa using ew) ⟨rfl,fin⟩) hs
def joA  : IxR X (rIxT X.K):=by
 intro value slice pins s σ H x y v u Q I rx ry h hs;obtain⟨p,xs,i,z,rfl,rfl,hq,he,q⟩:=h;cases rx;obtain⟨t,rfl⟩:=ry;obtain⟨its,r,pl,hz⟩:=I.tuple hq;obtain⟨j,h1,h2,h3,h4,h5⟩:=jgJ he;obtain⟨w,ew,rw'⟩:=r.get h2;have hl:=r.length;have hn:=jdP;have fin:EP X pins σ Q w s:=⟨z,H,I,rw',q⟩;exact YfA (x:=w) pl.typeIs slot_tuple_getitem.lookup
  (getItem_tuple (j:=j) (Q:=λr s'=>r=w/\EP X pins σ Q r s') pl (by lia) (by lia) (by rw[Yak,<- hl];exact h1) (by simpa using ew) ⟨rfl,fin⟩) hs
def joB  : IxR X rIxS:=by
 intro value slice pins s σ H x y v u Q I rx ry h hs;obtain⟨z,i,c,rfl,rfl,hz,he,q⟩:=h;obtain⟨t,rfl⟩:=rx;obtain⟨t',rfl⟩:=ry;obtain⟨j,h1,h2,h3,h4,h5⟩:=jgJ he;have hl:z.cps.toList.length=z.length:=by simp[Str.length]
 rw[hl]at h1 h4 h5;have hn:=jdP;exact tail_any (YcK s z t) slot_str_getitem.lookup (getItem_str (c:=c) (by
  have e1:decide (i < -(2 ^ 63:Int))=false:=decide_eq_false (by lia)
  have e2:decide (i ≥ 2 ^ 63)=false:=decide_eq_false (by lia)
  rw[e1,e2,Bool.or_false]) (by rw[h1];simpa using h2) ⟨.str ⟨#[c]⟩,H,I.tok _,⟨_,rfl⟩,q⟩) hs
def rIx  (K:Yac):R2:=λx y H Q=>rIxL K x y H Q\/rIxT K x y H Q\/rIxS x y H Q
def joC  : IxR X (rIx X.K):=jmw.or (joA.or joB)

def jhO  (its:List Value)(n j:Nat) u:YdO (·.setIfInBounds j u) { cls:=.type "list",data:=.seq its.toArray n }={ cls:=.type "list",data:=.seq (its.set j u).toArray n }:=by
 simp[YdO]
def Inv.lst   {σ:St}(I:Inv X pins σ H s)(h:H p=some (.lst xs)) :
  ∃(its:List Value) (n:Nat),Vals xs its/\s.heap.get? p=some { cls:=.type "list",data:=.seq its.toArray n }/\xs.length<=Yag:=by
 obtain⟨z,its,n,r,e⟩:=I.hok p _ h;exact⟨its,n,r,e,z⟩
def Inv.lstUpd   {σ:St}{its its':List Value}(I:Inv X pins σ H s)(h:H p=some (.lst xs))
  (ho:s.heap.get? p=some { cls:=.type "list",data:=.seq its.toArray n }) (hf:f { cls:=.type "list",data:=.seq its.toArray n }={ cls:=.type "list",data:=.seq its'.toArray n' }) (r:Vals ys its') (hz:ys.length<=Yag) t :
  Inv X pins σ (upd H p (.lst ys)) { s with heap:=s.heap.update p f,toks:=t }:=by
 have e:(s.heap.update p f).get? p=some { cls:=.type "list",data:=.seq its'.toArray n' }:=by
  rw[Ycw f ho (by rw[hf]<;>rfl),hf]
 refine I.write (x:=p) (e:=p) (by rw[h];trivial) (.inl rfl) (λb u hb q=>(Yc2 _ _ (Ne.symm hb)).trans q) ⟨_,e⟩ ?_
 exact⟨hz,its',n',r,e⟩
def jnw  : V->V->V->Hp->(Hp->Prop)->Prop:=λo i v H Q=>∃p xs k j,o=.ref p/\i=.int k/\H p=some (.lst xs)/\ixN xs.length k=some j/\Q (upd H p (.lst (xs.set j v)))
def jjO  : PSet X jnw:=by
 intro pins s σ H o i v ov iv u Q I ro ri rv h;obtain⟨p,xs,k,j,rfl,rfl,hp,hj,q⟩:=h;cases ro;obtain⟨t,rfl⟩:=ri;obtain⟨its,n,r,ho,hz⟩:=I.lst hp;obtain⟨h1,h2,h3,h4⟩:=ji0 hj;have hl:=r.length;have hn:=jdP;have I':Inv X pins σ (upd H p (.lst (xs.set j v))) { s with heap:=s.heap.update p (YdO (·.setIfInBounds j u)) }:=
  I.lstUpd hp ho (jhO its n j u) (r.set rv j) (by rw[YcC];exact hz) s.toks
 by_cases h0:0<=k
 ·have hk:k.toNat=j:=by
   rw[seqIndex_of h0 h4]at h1;exact Yas h1
  exact PySem.W.ki_setAt ho h0 (by lia) (by rw[Yak,<- hl];exact h4) (by rw[hk];exact⟨_,I',q⟩)
 ·have hk:(k+(its.toArray.size:Int)).toNat=j:=by
   rw[YfI (by lia) h3]at h1
   rw[Yak,<- hl];exact Yas h1
  exact PySem.W.ki_setBack ho (by lia) (by rw[Yak,<- hl];exact h3) (by lia) (by rw[hk];exact⟨_,I',q⟩)

def jfh   lo hi n:(Ycl lo hi none n).1=((HT.sIx n 0 lo:Nat):Int)/\(Ycl lo hi none n).2.1=((HT.sIx n n hi:Nat):Int)/\(Ycl lo hi none n).2.2=1:=by
 refine⟨?_,?_,rfl⟩
 ·cases lo with
  |none=>simp[Ycl,HT.sIx]
  |some i=>
   simp only[Ycl,HT.sIx,Yfu,show(1:Int)>0 by decide,if_true]
   by_cases h:i<0
   ·simp only[h,if_true]<;>lia
   ·simp only[h,if_false]<;>lia
 ·cases hi with
  |none=>simp[Ycl,HT.sIx]
  |some i=>
   simp only[Ycl,HT.sIx,Yfu,show(1:Int)>0 by decide,if_true]
   by_cases h:i<0
   ·simp only[h,if_true]<;>lia
   ·simp only[h,if_false]<;>lia
def jeT  (its:List Value) lo hi:Yd0 its.toArray lo hi none=((its.drop (HT.sIx its.length 0 lo)).take (HT.sIx its.length its.length hi-HT.sIx its.length 0 lo)).toArray:=by
 obtain⟨h1,h2,h3⟩:=jfh lo hi its.toArray.size;unfold Yd0;rw[h1,h2,h3];simp only[sliceRange_one,pick_run,Yak]<;>rfl
def rSlL  (K:Yac):V->Option Int->Option Int->Hp->VK->Prop:=λx lo hi H Q=>∃a xs,x=.ref a/\SqL K H a xs/\∀p,H p=none->Q (.ref p) (upd H p (.lst (cutV xs lo hi)))
def jlA  : SlR X (rSlL X.K):=by
 intro pins s σ H x v vl vu lo hi sl Q I rx hs pl pu h;obtain⟨a,xs,rfl,hx,q⟩:=h;cases rx;obtain⟨its,r,ht,hz⟩:=I.list hx;have hlen:=r.length;refine⟨"list",_,slot_list_getitem.lookup,ht.isList.typeIs,?_⟩;refine Yc3 ht.isList hs pl pu .none (by simp) ?_ (by rw[Yak]<;>lia)
 rw[jeT,<- hlen];refine⟨.ref s.heap.objs.size,_,I.laid (t':=s.toks) (o:=.lst (cutV xs lo hi)) (λb ob q=>Yae _ q) (Yab _) ?_,rfl,q _ (I.hok.fresh (Yab _))⟩;exact⟨Yah (jea xs lo hi) hz,_,0,(r.drop (HT.sIx xs.length 0 lo)).take (HT.sIx xs.length xs.length hi-HT.sIx xs.length 0 lo),Yau _ rfl⟩

noncomputable def jdm  : V->Bool
 |.non=>true
 |.bl _=>true
 |.int _=>true
 |.str _=>true
 |_=>false
noncomputable def eqV  : V->V->Bool
 |.non,.non=>true
 |.bl a,.bl b=>a==b
 |.bl a,.int b=>(if a then 1 else 0)==b
 |.int a,.bl b=>a==(if b then 1 else 0)
 |.int a,.int b=>a==b
 |.str a,.str b=>a==b
 |_,_=>false
def joQ      (ry:RelV y u)(rx:RelV x v)(fy:jdm y=true)(fx:jdm x=true):Yer A s u v (eqV y x):=by
 cases y with
 |non=>
  cases ry;cases x with
  |non=>cases rx;exact Yer.same _
  |bl b=>cases rx;exact Yer.none_bool b
  |int b=>obtain⟨t,rfl⟩:=rx;exact Yer.none_int b t
  |str b=>obtain⟨t,rfl⟩:=rx;exact Yer.none_str b t
  |_=>exact absurd (show false=true from fx) Yaj
 |bl a=>
  cases ry;cases x with
  |non=>cases rx;exact Yer.bool_none a
  |bl b=>cases rx;exact Yer.bool_bool a b
  |int b=>obtain⟨t,rfl⟩:=rx;exact Yer.bool_int a b t
  |str b=>obtain⟨t,rfl⟩:=rx;exact Yer.bool_str a b t
  |_=>exact absurd (show false=true from fx) Yaj
 |int a=>
  obtain⟨t',rfl⟩:=ry;cases x with
  |non=>cases rx;exact Yer.int_none a t'
  |bl b=>cases rx;exact Yer.int_bool a t' b
  |int b=>obtain⟨t,rfl⟩:=rx;exact Yer.int_int a t' b t
  |str b=>obtain⟨t,rfl⟩:=rx;exact YeB a t' b t
  |_=>exact absurd (show false=true from fx) Yaj
 |str a=>
  obtain⟨t',rfl⟩:=ry;cases x with
  |non=>cases rx;exact Yer.str_none a t'
  |bl b=>cases rx;exact Yer.str_bool a t' b
  |int b=>obtain⟨t,rfl⟩:=rx;exact YeA a t' b t
  |str b=>obtain⟨t,rfl⟩:=rx;exact Yer.str_str a t' b t
  |_=>exact absurd (show false=true from fx) Yaj
 |_=>exact absurd (show false=true from fy) Yaj
def eqU  (x:V)(u:Value):Bool:=match u with
 |.none=>eqV .non x
 |.bool b=>eqV (.bl b) x
 |.int i _=>eqV (.int i) x
 |.str z _=>eqV (.str z) x
 |_=>false
def jk8    (r:RelV y u)(f:jdm y=true):eqU x u=eqV y x:=by
 cases y with
 |non=>cases r;rfl
 |bl b=>cases r;rfl
 |int i=>obtain⟨t,rfl⟩:=r;rfl
 |str z=>obtain⟨t,rfl⟩:=r;rfl
 |_=>exact absurd (show false=true from f) Yaj
theorem jee   : ∀{xs } {us },Vals xs us->xs.all jdm=true->us.any (eqU x)=xs.any λy=>eqV y x
 |_,_,.nil,_=>rfl
 |y::xs,u::us,.cons r t,f=>by
  rw[Ybd,Yaf]at f;rw[Ybc,Ybc,jk8 r f.1,jee t f.2]
theorem jcv      (rx:RelV x v)(fx:jdm x=true):∀{xs } {us },Vals xs us->xs.all jdm=true->∀u∈us,Yer A s u v (eqU x u)
 |_,_,.nil,_=>λu hu=>by cases hu
 |y::xs,u::us,.cons r t,f=>λu' hu=>by
  rw[Ybd,Yaf]at f;rcases YaW.mp hu with rfl|hu
  ·rw[jk8 r f.1];exact joQ r rx f.1 fx
  ·exact jcv rx fx t f.2 u' hu
def inV  (x:V)(xs:List V):Bool:=xs.any λy=>eqV y x
def rIn  (K:Yac)(neg:Bool):R2:=λx y H Q=>∃p xs,y=.ref p/\(SqL K H p xs\/SqT K H p xs)/\jdm x=true/\xs.all jdm=true/\Q (.bl (if neg then !inV x xs else inV x xs)) H
def jiF  : OpR X (YaG .In) (rIn X.K false):=by
 intro pins s σ H x y v u Q I rx ry h;obtain⟨p,xs,rfl,hq,fx,fs,q⟩:=h;cases ry;rcases hq with hq|hq
 ·obtain⟨its,r,pl,hz⟩:=I.list hq;refine YfO (eqU x) pl.isList (λw hw=>jcv rx fx r fs w (by simpa using hw)) ⟨.bl _,H,I,rfl,?_⟩
  rw[show its.toArray.any (eqU x)=its.any (eqU x) by simp,jee r fs]
  exact q
 ·obtain⟨its,r,pl,hz⟩:=I.tuple hq;refine YdL (eqU x) pl (λw hw=>jcv rx fx r fs w (by simpa using hw)) ⟨.bl _,H,I,rfl,?_⟩
  rw[show its.toArray.any (eqU x)=its.any (eqU x) by simp,jee r fs]
  exact q
def jfn  : OpR X (YaG .NotIn) (rIn X.K true):=by
 intro pins s σ H x y v u Q I rx ry h;obtain⟨p,xs,rfl,hq,fx,fs,q⟩:=h;cases ry;rcases hq with hq|hq
 ·obtain⟨its,r,pl,hz⟩:=I.list hq;refine Yfd (eqU x) pl.isList (λw hw=>jcv rx fx r fs w (by simpa using hw)) ⟨.bl _,H,I,rfl,?_⟩
  rw[show its.toArray.any (eqU x)=its.any (eqU x) by simp,jee r fs]
  exact q
 ·obtain⟨its,r,pl,hz⟩:=I.tuple hq;refine Ydf (eqU x) pl (λw hw=>jcv rx fx r fs w (by simpa using hw)) ⟨.bl _,H,I,rfl,?_⟩
  rw[show its.toArray.any (eqU x)=its.any (eqU x) by simp,jee r fs]
  exact q
def jaN.or    (h:jaN X f r)(h':jaN X f r'):jaN X f (λxs H Q=>r xs H Q\/r' xs H Q):=by
 intro pins s σ H xs us Q I rs q;rcases q with q|q
 ·exact h pins s σ H xs us Q I rs q
 ·exact h' pins s σ H xs us Q I rs q
def jfP  : jaN X (.type "list") (λxs H Q=>∃p ys,xs=[.ref p]/\(SqL X.K H p ys\/SqT X.K H p ys)/\∀l,H l=none->Q (.ref l) (upd H l (.lst ys))):=by
 intro pins s σ H xs us Q I r h;obtain⟨p,ys,rfl,hq,q⟩:=h;obtain⟨u,rfl,rx⟩:=jcJ r;cases rx;have fin:∀(its:List Value),Vals ys its->ys.length<=Yag->∀(h':Heap) (c':Nat),(∀b o',s.heap.get? b=some o'->h'.get? b=some o')->
   h'.get? s.heap.objs.size=some { cls:=.type "list",dict:=none,data:=.seq its.toArray c',slots:=#[] }->EP X pins σ Q (.ref s.heap.objs.size) { s with heap:=h' }:=λits r' hz h' c' kp e=>
  ⟨.ref s.heap.objs.size,_,I.laid (t':=s.toks) kp (Yab _) (show jaC X.prog X.w _ h' _ (.lst ys)from⟨hz,its,c',r',e⟩),rfl,q _ (I.hok.fresh (Yab _))⟩
 rcases hq with hq|hq
 ·obtain⟨its,r',pl,hz⟩:=I.list hq;have hlen:=r'.length;obtain⟨o,ho,hc,n,hd⟩:=pl.isList;exact call_list_seq p (.inl rfl) ho hc hd (λh' c' kp e=>fin its r' hz h' c' kp e) (by simp only[Yak]<;>lia)
 ·obtain⟨its,r',pl,hz⟩:=I.tuple hq;have hlen:=r'.length;obtain⟨o,ho,hc,n,hd⟩:=pl;exact call_list_seq p (.inr rfl) ho hc hd (λh' c' kp e=>fin its r' hz h' c' kp e) (by simp only[Yak]<;>lia)
def je9  : jaN X (.type "tuple") (λxs H Q=>∃p ys,xs=[.ref p]/\((SqL X.K H p ys/\∀l,H l=none->Q (.ref l) (upd H l (.tup ys)))\/(SqT X.K H p ys/\Q (.ref p) H))):=by
 intro pins s σ H xs us Q I r h;obtain⟨p,ys,rfl,h⟩:=h;obtain⟨u,rfl,rx⟩:=jcJ r;cases rx;rcases h with⟨hq,q⟩|⟨hq,q⟩
 ·obtain⟨its,r',pl,hz⟩:=I.list hq;have hlen:=r'.length;refine call_tuple_list pl.isList (λh' kp=>?_) (by simp only[Yak]<;>lia)
  have I1:Inv X pins σ H { s with heap:=h' }:=I.kept (t':=s.toks) kp
  have I2:Inv X pins σ (upd H h'.objs.size (.tup ys)) { s with heap:=h'.push { cls:=.type "tuple",data:=.seq its.toArray } }:=
   I1.laid (t':=s.toks) (λb o e=>Yae _ e) (Yab _) (show jaC X.prog X.w _ _ _ (.tup ys)from⟨hz,its,r',TupD.new _ _⟩)
  exact⟨.ref h'.objs.size,_,I2,rfl,q _ (I1.hok.fresh (Yab _))⟩
 ·obtain⟨its,r',pl,hz⟩:=I.tuple hq;exact call_tuple_same pl ⟨.ref p,H,I,rfl,q⟩

def tyV  (K:Yac)(T:String)(x:V)(H:Hp):Prop:=match x with
 |.str _=>T = "str"
 |.int _=>T = "int"
 |.ref p=>(T = "list" /\ ∃xs,SqL K H p xs)\/(T = "tuple" /\ ∃o,K.lookup p=some o/\o.cls=.type "tuple" /\ o.dict=none)\/
   (T = "dict" /\ ((∃kvs,H p=some (.dK kvs))\/∃kvs,H p=some (.dT kvs)))\/(T = "set" /\ ∃S n,H p=some (.set S n))\/(T = "tuple" /\ ∃xs,H p=some (.tup xs))
 |_=>False
def jkF   {σ:St}(I:Inv X pins σ H s)(r:RelV x v)(ty:tyV X.K T x H) :
  s.TypeIs v T/\∀a,v=.ref a->∃ob,s.heap.get? a=some ob/\ob.dict=none:=by
 cases x with
 |str z=>
  obtain⟨t,rfl⟩:=r;cases(show T = "str" from ty);exact⟨YcK s z t,λ_ e=>nomatch e⟩
 |int i=>
  obtain⟨t,rfl⟩:=r;cases(show T = "int" from ty);exact⟨Yek s i t,λ_ e=>nomatch e⟩
 |ref p=>
  cases r;rcases ty with⟨rfl,xs,hq⟩|⟨rfl,o,hk,hc,hd⟩|⟨rfl,hk⟩|⟨rfl,S,n,hk⟩|⟨rfl,xs,hk⟩
  ·obtain⟨its,_,pl,_⟩:=I.list hq;refine⟨pl.isList.typeIs,λa e=>?_⟩;cases e;obtain⟨o,n,e,c,hd,_⟩:=pl;exact⟨o,e,hd⟩
  ·refine⟨⟨o,I.kIn p o hk,hc⟩,λa e=>?_⟩;cases e;exact⟨o,I.kIn _ o hk,hd⟩
  ·have z:∃o,s.heap.get? p=some o/\o.ExactDict:=by
    rcases hk with⟨kvs,hk⟩|⟨kvs,hk⟩
    ·obtain⟨_,_,_,_,o,_,_,e,ex,_⟩:=I.hok p _ hk;exact⟨o,e,ex⟩
    ·obtain⟨_,_,_,_,o,_,_,e,ex,_⟩:=I.hok p _ hk;exact⟨o,e,ex⟩
   obtain⟨o,e,ex⟩:=z;refine⟨⟨o,e,ex.1⟩,λa e2=>?_⟩;cases e2;exact⟨o,e,ex.2.1⟩
  ·obtain⟨o,_,_,_,e,ex,_⟩:=I.hok p _ hk;refine⟨⟨o,e,ex.1⟩,λa e2=>?_⟩;cases e2;exact⟨o,e,ex.2.1⟩
  ·obtain⟨_,its,r,o,e,c,n,d,hd⟩:=(show jaC X.prog X.w H s.heap p (.tup xs)from I.hok p _ hk);refine⟨⟨o,e,c⟩,λa e2=>?_⟩;cases e2;exact⟨o,e,hd⟩
 |_=>exact YbC ty


def MtM  (X:Cx)(id:String)(r:V->List V->Hp->VK->Prop):Prop:=
 ∀(pins:List (Addr×Obj)) (s:Shared) (σ:St) (H:Hp) (x:V) (xs:List V) (v:Value) (us:List Value) (Q:VK),Inv X pins σ H s->RelV x v->Vals xs us->r x xs H Q->
  wpAny (model X.prog X.w) X.A (call (.builtin id) (v::us)) (EP X pins σ Q) X.xe s

def Vals.one  : ∀{x } {us },Vals [x] us->∃u,us=[u]/\RelV x u
 |_,_,.cons r .nil=>⟨_,rfl,r⟩
def Vals.two  : ∀{x y } {us },Vals [x,y] us->∃u v,us=[u,v]/\RelV x u/\RelV y v
 |_,_,_,.cons r (.cons q .nil)=>⟨_,_,rfl,r,q⟩
def Vals.zero  : ∀{us },Vals [] us->us=[]
 |_,.nil=>rfl
theorem Vals.dropLast    (h:Vals xs us):Vals xs.dropLast us.dropLast:=by
 induction h with
 |nil=>exact .nil
 |cons r t ih=>
  cases t with
  |nil=>exact .nil
  |cons q t'=>exact .cons r ih
theorem Vals.eraseIdx  : ∀{xs } {us } i ,Vals xs us->Vals (xs.eraseIdx i) (us.eraseIdx i)
 |_,_,_,.nil=>.nil
 |_,_,0,.cons _ t=>t
 |_,_,i+1,.cons r t=>.cons r (Vals.eraseIdx i t)
theorem Vals.rep    (h:Vals xs us):∀k ,Vals (Yaa k xs).flatten (Yaa k us).flatten
 |0=>.nil
 |k+1=>by
  rw[Ya4,Ya4,Yb3,Yb3];exact Vals.append h (Vals.rep h k)
def jhV  {α:Type}(l:List α):l.eraseIdx (l.length-1)=l.dropLast:=by
 induction l with
 |nil=>rfl
 |cons a r ih=>
  cases r with
  |nil=>rfl
  |cons b r=>
   have e:(a::b::r).length-1=((b::r).length-1)+1:=by
    have h1:(a::b::r).length=r.length+2:=rfl;have h2:(b::r).length=r.length+1:=rfl
    lia
   rw[e,List.eraseIdx_cons_succ,ih]
   all_goals rfl
theorem jfx  {α:Type}:∀(l:List α) i ,(l.eraseIdx i).length<=l.length
 |[],_=>Yab _
 |_::_,0=>Yfv _
 |_::r,i+1=>Yd9 (jfx r i)
theorem jdX  (its:List Value):∀k (acc:List Value),
  YdH (λx1 x2=>x1++x2) acc.toArray (Yaa k its.toArray)=(acc++(Yaa k its).flatten).toArray
 |0,acc=>by simp
 |k+1,acc=>by
  have e:acc.toArray++its.toArray=(acc++its).toArray:=by simp
  have e2:(acc++its)++(Yaa k its).flatten=acc++(Yaa (k+1) its).flatten:=by
   rw[Ya4,Yb3,YdJ]
  rw[<- e2,<- jdX its k (acc++its),<- e,Ya4,Yef]

section
variable {X:Cx}{pins:List (Addr×Obj)}{σ:St}{H:Hp}{s:Shared}{l b:Addr}{xs ys zs:List V}

def Inv.lset  {its its':List Value}(I:Inv X pins σ H s)(hH:H l=some (.lst xs))
  (e:s.heap.get? l=some { cls:=.type "list",data:=.seq its.toArray n }) (hf:f its.toArray=its'.toArray) (hv:Vals ys its') (hz:ys.length<=Yag) :
  Inv X pins σ (upd H l (.lst ys)) { s with heap:=s.heap.update l (YdO f),toks:=t' }:=by
 have q:=PySem.IsL.update e f;rw[hf]at q;refine I.write (x:=l) (e:=l) (by rw[hH];exact trivial) (.inl rfl) (λb' u hb hu=>(Yc2 s.heap (YdO f) (Ne.symm hb)).trans hu) ⟨_,q⟩ ?_
 exact⟨hz,its',_,hv,q⟩
def Inv.lnew    (I:Inv X pins σ H s)(hv:Vals ys its)(hz:ys.length<=Yag) :
  Inv X pins σ (upd H s.heap.objs.size (.lst ys)) { s with heap:=s.heap.push { cls:=.type "list",data:=.seq its.toArray },toks:=t' }:=
 I.laid (λ_ _ q=>Yae _ q) (Yab _) ⟨hz,its,0,hv,Yau _ rfl⟩
def Inv.fresh  (I:Inv X pins σ H s):H s.heap.objs.size=none:=I.hok.fresh (Yab _)
def Inv.lstM  (I:Inv X pins σ H s)(hH:H l=some (.lst xs)):xs.length<=Yag/\∃(its:List Value) (n:Nat),Vals xs its/\xs.length=its.length/\s.heap.get? l=some { cls:=.type "list",data:=.seq its.toArray n }:=by
 obtain⟨z,its,n,r,e⟩:=I.hok l _ hH;exact⟨z,its,n,r,r.length,e⟩

def jg6   (h:n<=Yag):Yb2 n=false:=by
 unfold Yb2;exact decide_eq_false (by lia)
end


def jlJ  : V->List V->Hp->VK->Prop:=λx vs H Q=>∃l xs y,x=.ref l/\vs=[y]/\H l=some (.lst xs)/\xs.length<Yag/\Q .non (upd H l (.lst (xs++[y])))
def jfu  : MtM X "list.append" jlJ:=by
 intro pins s σ H x vs v us Q I rx rv h;obtain⟨l,xs,y,rfl,rfl,hH,hz,q⟩:=h;cases rx;obtain⟨u,rfl,ru⟩:=rv.one;obtain⟨z,its,n,r,hl,e⟩:=I.lstM hH;refine Ybr F.slot_list_append ⟨_,e,rfl⟩ F.entry_list_append (F.args_list_append_2 _ _) (PySem.list_append l its.toArray n u (by rw[Yak];lia)) ⟨e,?_⟩
 refine⟨.non,_,I.lset (its':=its++[u]) hH e (by simp) (r.append (.cons ru .nil)) ?_,rfl,q⟩
 rw[Yar,YbZ]
 lia

def jlI  : V->List V->Hp->VK->Prop:=λx vs H Q=>∃l b xs zs,x=.ref l/\vs=[.ref b]/\H l=some (.lst xs)/\H b=some (.lst zs)/\xs.length+zs.length<=Yag/\Q .non (upd H l (.lst (xs++zs)))
def jiU  : MtM X "list.extend" jlI:=by
 intro pins s σ H x vs v us Q I rx rv h;obtain⟨l,b,xs,zs,rfl,rfl,hH,hB,hz,q⟩:=h;cases rx;obtain⟨u,rfl,ru⟩:=rv.one;cases ru;obtain⟨z,its,n,r,hl,e⟩:=I.lstM hH;obtain⟨z2,its2,n2,r2,hl2,e2⟩:=I.lstM hB;have hsz:its.toArray.size+its2.toArray.size<=Yag:=by rw[Yak,Yak];lia
 have hlong:¬(!its.toArray.isEmpty&&Yb2 (its.toArray.size+its2.toArray.size))=true:=by
  rw[jg6 hsz,Yew];exact Yaj
 refine Ybr F.slot_list_extend ⟨_,e,rfl⟩ F.entry_list_extend (F.args_list_extend_2 _ _)
  (AutoSeq1.list_extend_list_list_0 l its.toArray n b its2.toArray n2 hlong (by rw[Yak];lia) (by lia)) ⟨e,e2,?_⟩
 refine⟨.non,_,I.lset (its':=its++its2) hH e (by simp) (r.append r2) ?_,rfl,q⟩
 rw[Yar]
 lia

def rPop  : V->List V->Hp->VK->Prop:=λx vs H Q=>∃l xs y,x=.ref l/\vs=[]/\H l=some (.lst xs)/\xs[xs.length-1]?=some y/\Q y (upd H l (.lst xs.dropLast))
def mt_pop  : MtM X "list.pop" rPop:=by
 intro pins s σ H x vs v us Q I rx rv h;obtain⟨l,xs,y,rfl,rfl,hH,hy,q⟩:=h;cases rx;have hus:=rv.zero;subst hus;obtain⟨z,its,n,r,hl,e⟩:=I.lstM hH;obtain⟨u,hu,ru⟩:=r.get hy;have hy':its.toArray[its.toArray.size-1]?=some u:=by
  show its.toArray[its.length-1]?=some u;rw[<- YeV,<- hl];exact hu
 refine Ybr F.slot_list_pop ⟨_,e,rfl⟩ F.entry_list_pop (F.args_list_pop_1 _) (MeetsSeq.list_pop_last l its.toArray n u hy' (by rw[Yak];lia)) ⟨e,?_⟩
 refine⟨y,_,I.lset (its':=its.dropLast) hH e ?_ r.dropLast ?_,ru,q⟩
 ·show its.toArray.eraseIdxIfInBounds (its.toArray.size-1)=its.dropLast.toArray;rw[Yak,YdI,jhV]
 ·rw[List.length_dropLast]
  lia

def jny  : V->List V->Hp->VK->Prop:=λx vs H Q=>∃l xs i k y,x=.ref l/\vs=[.int i]/\H l=some (.lst xs)/\-(2 ^ 63)<=i/\i<2 ^ 63/\YfJ i xs.length=some k/\xs[k]?=some y/\Q y (upd H l (.lst (xs.eraseIdx k)))
def jkh  : MtM X "list.pop" jny:=by
 intro pins s σ H x vs v us Q I rx rv h;obtain⟨l,xs,i,k,y,rfl,rfl,hH,h1,h2,hk,hy,q⟩:=h;cases rx;obtain⟨u,rfl,ru⟩:=rv.one;obtain⟨t,rfl⟩:=ru;obtain⟨z,its,n,r,hl,e⟩:=I.lstM hH;obtain⟨w,hw,rw'⟩:=r.get hy;refine Ybr F.slot_list_pop ⟨_,e,rfl⟩ F.entry_list_pop (F.args_list_pop_2 _ _)
  (MeetsSeq.list_pop_at l its.toArray n i t k w (fitsIndex_both h1 h2) (by rw[Yak,<- hl];exact hk) (by rw[<- YeV];exact hw) (by rw[Yak];lia)) ⟨e,?_⟩
 refine⟨y,_,I.lset (its':=its.eraseIdx k) hH e ?_ (r.eraseIdx k) ?_,rw',q⟩
 ·show its.toArray.eraseIdxIfInBounds k=(its.eraseIdx k).toArray;rw[YdI]
 ·have:=jfx xs k
  lia

def rCat  : R2:=λx y H Q=>∃l b xs zs,x=.ref l/\y=.ref b/\H l=some (.lst xs)/\H b=some (.lst zs)/\xs.length+zs.length<=Yag/\∀p,H p=none->Q (.ref p) (upd H p (.lst (xs++zs)))
def joa  : OpR X (Yba .Add) rCat:=by
 intro pins s σ H x y v u Q I rx ry h;obtain⟨l,b,xs,zs,rfl,rfl,hH,hB,hz,q⟩:=h;cases rx;cases ry;obtain⟨z,its,n,r,hl,e⟩:=I.lstM hH;obtain⟨z2,its2,n2,r2,hl2,e2⟩:=I.lstM hB;refine PySem.P.add_list e e2 ?_ (by rw[Yak,Yak];lia)
 have ea:its.toArray++its2.toArray=(its++its2).toArray:=by simp
 rw[ea];exact⟨.ref _,_,I.lnew (t':=s.toks) (r.append r2) (by rw[Yar];lia),rfl,q _ I.fresh⟩
def rRep  : R2:=λx y H Q=>∃l k xs,x=.ref l/\y=.int k/\H l=some (.lst xs)/\-(2 ^ 63)<=k/\k<2 ^ 63/\xs.length*k.toNat<=Yag/\
 ∀p,H p=none->Q (.ref p) (upd H p (.lst (Yaa k.toNat xs).flatten))
def jgl  {α:Type}(xs:List α) k:(Yaa k xs).flatten.length=k*xs.length:=by
 induction k with
 |zero=>simp
 |succ k ih=>rw[Ya4,Yb3,Yar,ih,Nat.succ_mul,Nat.add_comm]
def jn0  : OpR X (Yba .Mult) rRep:=by
 intro pins s σ H x y v u Q I rx ry h;obtain⟨l,k,xs,rfl,rfl,hH,h1,h2,hz,q⟩:=h;cases rx;obtain⟨t,rfl⟩:=ry;obtain⟨z,its,n,r,hl,e⟩:=I.lstM hH;have hlen:its.toArray.size*k.toNat<=Yag:=by rw[Yak,<- hl];exact hz
 have hcap:¬its.toArray.size*k.toNat>(2 ^ 63-1)/8:=by
  have:(Yag:Nat)<=(2 ^ 63-1)/8:=by decide
  lia
 have hfit:¬(!Builtin.List.listFitsIndex k)=true:=by
  rw[fitsIndex_both h1 h2];exact Yaj
 have hlong:¬Yb2 (its.toArray.size*k.toNat)=true:=by
  rw[jg6 hlen];exact Yaj
 have hnew:YdH (λx1 x2=>x1++x2) #[] (Yaa (if its.toArray.isEmpty=true then 0 else k.toNat) its.toArray)=(Yaa k.toNat its).flatten.toArray:=by
  have f0:∀m:Nat,YdH (λx1 x2=>x1++x2) #[] (Yaa m its.toArray)=(Yaa m its).flatten.toArray:=λm=>by
   have:=jdX its m [];rw[Ybn]at this;exact this
  rw[f0];cases its with
  |nil=>simp
  |cons a r'=>rw[if_neg (by simp)]
 refine Ye2 (T := "list") (U := "int") (by decide) ⟨_,e,rfl⟩ (λs'=>Yek s' k t) noFill_list_mul F.fills_int_mul Ydk repeat_list F.slot_int_index.lookup
  (Ybr Ydk (Yek s k t) F.entry_int_rmul (F.args_int_rmul_2 _ _) (int___rmul___int_list k t l its.toArray n)
   ⟨e,rfl,⟨_,e,rfl⟩,Ybr F.slot_list_mul ⟨_,e,rfl⟩ F.entry_list_mul (F.args_list_mul_2 _ _) (AutoListH.list___mul___list_int_3 l its.toArray n k t hfit hcap hlong) ⟨e,?_⟩⟩)
 rw[hnew];exact⟨.ref _,_,I.lnew (t':=s.toks) (r.rep k.toNat) (by rw[jgl,YdU];exact hz),rfl,q _ I.fresh⟩






section
variable {κ:Type}[DecidableEq κ]
noncomputable def valV (kvs:List (κ×V))(k:κ):Option V:=(kvs.find? λkv=>decide (kv.1=k)).map (·.2)
noncomputable def putK (kvs:List (κ×V))(k:κ)(v:V):List (κ×V):=
 if (kvs.any λkv=>decide (kv.1=k))=true then kvs.map (λkv=>if kv.1=k then (kv.1,v) else kv) else kvs++[(k,v)]
def jdn    {k:κ}(e:p.1=k):valV (p::r) k=some p.2:=by simp[valV,Ybo,e]
def jdo    {k:κ}(e:¬p.1=k):valV (p::r) k=valV r k:=by simp[valV,Ybo,e]
theorem jgN  (k:κ):∀kvs ,(kvs.any λkv=>decide (kv.1=k))=(valV kvs k).isSome
 |[]=>rfl
 |p::r=>by
  rw[Ybc];by_cases e:p.1=k
  ·simp only[jdn e,decide_eq_true e,Bool.true_or,Option.isSome_some]
  ·rw[jdo e,decide_eq_false e,YeN];exact jgN k r
def jcc  (kvs:List (κ×V)) k v:(putK kvs k v).length<=kvs.length+1:=by
 unfold putK;split
 ·rw[Yai];lia
 ·rw[Yar,YaJ,Yb0];lia
def RelO.isSome_eq    (r:RelO o u):o.isSome=u.isSome:=by
 cases o with
 |none=>cases u with
  |none=>rfl
  |some _=>exact(show False from r).elim
 |some _=>cases u with
  |none=>exact(show False from r).elim
  |some _=>rfl
theorem RelO.getD      (r:RelO o u)(rd:RelV d d'):RelV (o.getD d) (u.getD d'):=by
 cases o with
 |none=>cases u with
  |none=>exact rd
  |some _=>exact(show False from r).elim
 |some _=>cases u with
  |none=>exact(show False from r).elim
  |some _=>exact r

def KV.val    (r:KV kvs vs)(k:κ):RelO (valV kvs k) (valueAt vs k):=by
 unfold KV at r
 induction r with
 |nil=>exact YbP
 |@cons p q ps qs h t ih=>
  obtain⟨h1,h2⟩:=h;by_cases e:p.1=k
  ·have e':q.1=k:=h1.symm.trans e;have b:valueAt (q::qs) k=some q.2:=by simp[valueAt,Ybo,e']
   rw[jdn e,b];exact h2
  ·have e':¬q.1=k:=λz=>e (h1.trans z);have b:valueAt (q::qs) k=valueAt qs k:=by simp[valueAt,Ybo,e']
   rw[jdo e,b];exact ih
theorem KV.any    (r:KV kvs vs)(k:κ):(kvs.any λkv=>decide (kv.1=k))=vs.any λkv=>decide (kv.1=k):=by
 unfold KV at r
 induction r with
 |nil=>rfl
 |cons h t ih=>rw[Ybc,Ybc,ih,h.1]
def KV.repl    (r:KV kvs vs)(k:κ)(ry:RelV y u) :
  KV (kvs.map λkv=>if kv.1=k then (kv.1,y) else kv) (vs.map λkv=>if kv.1=k then (kv.1,u) else kv):=by
 unfold KV at r ⊢
 induction r with
 |nil=>exact .nil
 |@cons p q ps qs h t ih=>
  rw[YaK,YaK];refine .cons ?_ ih;obtain⟨h1,h2⟩:=h;by_cases e:p.1=k
  ·rw[if_pos e,if_pos (h1.symm.trans e)];exact⟨h1,ry⟩
  ·rw[if_neg e,if_neg (λz=>e (h1.trans z))];exact⟨h1,h2⟩
def KV.put    (r:KV kvs vs)(k:κ)(ry:RelV y u):KV (putK kvs k y) (stored vs k u):=by
 unfold putK stored;rw[r.any k];by_cases e:(vs.any λkv=>decide (kv.1=k))=true
 ·rw[if_pos e,if_pos e];exact r.repl k ry
 ·rw[if_neg e,if_neg e];exact Paired.snoc r ⟨rfl,ry⟩
def KV.length {kvs:List (κ×V)}{vs:List (κ×Value)}(r:KV kvs vs):kvs.length=vs.length:=Ydn r
end

def jgp      (r:RelV (kV k) u):(jas P w).is k u=true:=by
 cases k with
 |inl i=>obtain⟨t,e⟩:=(show ∃t,u=Ydu i t from r);subst e;exact jgk P w i t
 |inr x=>obtain⟨t,e⟩:=(show ∃t,u=YeR x t from r);subst e;exact jgj P w x t
theorem jfz    : ∀{ks } {us },Vals (ks.map kV) us->ItemsAre (jas P w) ks us
 |[],_,r=>by rw[YdP]at r;cases r;exact .nil
 |k::ks,_,r=>by
  rw[YaK]at r;cases r with
  |cons h t=>exact .cons (jgp h) (jfz t)

abbrev KT  (H:Hp):List (List Key×V)->List (List Key×Addr×Value)->Prop:=Paired λp q=>p.1=q.1/\H q.2.1=some (.tup (p.1.map kV))/\RelV p.2 q.2.2
def KT.val     (r:KT H kvs xs) k:RelO (valV kvs k) ((atKey xs k).map (·.2)):=by
 induction r with
 |nil=>exact YbP
 |@cons p q ps qs h t ih=>
  obtain⟨h1,_,h2⟩:=h;by_cases e:p.1=k
  ·have e':q.1=k:=h1.symm.trans e;have b:atKey (q::qs) k=some q.2:=by simp[atKey,Ybo,e']
   rw[jdn e,b];exact h2
  ·have e':¬q.1=k:=λz=>e (h1.trans z);have b:atKey (q::qs) k=atKey qs k:=by simp[atKey,Ybo,e']
   rw[jdo e,b];exact ih
def KT.repl     (r:KT H kvs xs) k (ry:RelV y u) :
  KT H (kvs.map λkv=>if kv.1=k then (kv.1,y) else kv) (xs.map (putAt k u)):=by
 induction r with
 |nil=>exact .nil
 |@cons p q ps qs h t ih=>
  rw[YaK,YaK];refine .cons ?_ ih;obtain⟨h1,h2,h3⟩:=h;unfold putAt;by_cases e:p.1=k
  ·rw[if_pos e,if_pos (h1.symm.trans e)];exact⟨h1,h2,ry⟩
  ·rw[if_neg e,if_neg (λz=>e (h1.trans z))];exact⟨h1,h2,h3⟩
def KT.put     (r:KT H kvs xs)(k:List Key)(hb:H b=some (.tup (k.map kV)))(ry:RelV y u) :
  KT H (putK kvs k y) (storedH xs k b u):=by
 have e:(kvs.any λkv=>decide (kv.1=k))=(atKey xs k).isSome:=by
  rw[jgN,(r.val k).isSome_eq,YdA]
 unfold putK storedH;rw[e];by_cases q:(atKey xs k).isSome=true
 ·rw[if_pos q,if_pos q];exact r.repl k ry
 ·rw[if_neg q,if_neg q];exact Paired.snoc r ⟨rfl,hb,ry⟩
def KT.keeps     (r:KT H kvs xs)(ht:∀b ys,H b=some (.tup ys)->H' b=some (.tup ys)):KT H' kvs xs:=
 Paired.mapP r λ_ _ z=>⟨z.1,ht _ _ z.2.1,z.2.2⟩


def jnv   (ok:HOk P w H h)(e:Rd H a u):jaC P w H h a u:=e.ok ok
def jgC   (ok:HOk P w H h)(e:Rd H a (.dK kvs)):kvs.length<=Yag/\(a==Ya3)=false/\∃vs,KV kvs vs/\h.DictOf (jas P w) a vs:=
 show jaC P w H h a (.dK kvs)from jnv ok e
def joT   (ok:HOk P w H h)(e:H a=some (.dK kvs)):kvs.length<=Yag/\(a==Ya3)=false/\∃vs,KV kvs vs/\h.DictOf (jas P w) a vs:=jgC ok (.inl e)
def jez   (ok:HOk P w H h)(e:H a=some (.tup (ks.map kV))):(YdY (jas P w)).is h ks a:=by
 obtain⟨_,its,r,o,h1,h2,n,h3,_⟩:=(show jaC P w H h a (.tup (ks.map kV))from ok a _ e);exact⟨o,its.toArray,n,h1,h2,h3,by simpa using jfz r⟩
def jhZ   (ok:HOk P w H h)(e:Rd H a (.dT kvs)):kvs.length<=Yag/\(a==Ya3)=false/\
  ∃xs,KT H kvs xs/\h.DictOfH (YdY (jas P w)) a xs:=by
 obtain⟨z,y,xs,r,o,es,ep,h1,h2,h3,h4,h5⟩:=(show jaC P w H h a (.dT kvs)from jnv ok e);refine⟨z,y,xs,r,o,es,ep,h1,h2,h3,h4,λx hx=>?_,h5⟩;have all:∀{l:List (List Key×V)} {m:List (List Key×Addr×Value)},KT H l m->∀x∈m,(YdY (jas P w)).is h x.1 x.2.1:=by
  intro l m q
  induction q with
  |nil=>intro x hx;exact nomatch hx
  |@cons p q ps qs hq t ih=>
   intro x hx;rcases YaW.mp hx with e|hx
   ·subst e;exact jez ok (by rw[<- hq.1];exact hq.2.1)
   ·exact ih x hx
 exact all r x hx
def jqh   (ok:HOk P w H h)(e:H a=some (.dT kvs)):kvs.length<=Yag/\(a==Ya3)=false/\
  ∃xs,KT H kvs xs/\h.DictOfH (YdY (jas P w)) a xs:=jhZ ok (.inl e)

def DGet  (H:Hp)(a:Addr)(y:V)(r:Option V):Prop:=
 (∃kvs k,Rd H a (.dK kvs)/\y=kV k/\r=valV kvs k)\/∃kvs k b,Rd H a (.dT kvs)/\y=.ref b/\H b=some (.tup (k.map kV))/\r=valV kvs k
def DPut  (H:Hp)(a:Addr)(y v:V)(H':Hp):Prop:=
 (∃kvs k,H a=some (.dK kvs)/\y=kV k/\kvs.length<Yag/\H'=upd H a (.dK (putK kvs k v)))\/
 ∃kvs k b,H a=some (.dT kvs)/\y=.ref b/\H b=some (.tup (k.map kV))/\kvs.length<Yag/\H'=upd H a (.dT (putK kvs k v))
def DGet.k     {k:Key}(e:H a=some (.dK kvs)):DGet H a (kV k) (valV kvs k):=.inl ⟨kvs,k,.inl e,rfl,rfl⟩
def DGet.t     {k:List Key}(e:H a=some (.dT kvs))(eb:H b=some (.tup (k.map kV))):DGet H a (.ref b) (valV kvs k):=.inr ⟨kvs,k,b,.inl e,rfl,eb,rfl⟩
def DPut.k     {k:Key}(e:H a=some (.dK kvs))(hl:kvs.length<Yag):DPut H a (kV k) v (upd H a (.dK (putK kvs k v))):=.inl ⟨kvs,k,e,rfl,hl,rfl⟩
def DPut.t     {k:List Key}(e:H a=some (.dT kvs))(eb:H b=some (.tup (k.map kV)))(hl:kvs.length<Yag) :
  DPut H a (.ref b) v (upd H a (.dT (putK kvs k v))):=.inr ⟨kvs,k,b,e,rfl,eb,hl,rfl⟩


def Inv.big  {σ: St}(I:Inv X pins σ H s):Ya3<s.heap.objs.size:=by
 have h:Yax<s.heap.objs.size:=(I.mod.glob.keeps I.bk).lt;exact YdV (by decide) h

def jjo  {σ: St}(hu:A.units+1<cLine)(I:Inv X pins σ H s)(g:DGet H a y (some v))(ry:RelV y u)(h:∀w' s',Inv X pins σ H s'->RelV v w'->Q w' s') :
  wpAny (model X.prog X.w) A (getItem (.ref a) u) Q E s:=by
 rcases g with⟨kvs,k,e,ey,l⟩|⟨kvs,k,b,e,ey,eb,l⟩
 ·subst ey;obtain⟨z,hd,vs,rel,dd⟩:=jgC I.hok e;obtain⟨w',hw,rw'⟩:=RelO.some_of (v:=v) (o:=valueAt vs k) (by rw[l];exact rel.val k)
  exact wpAny_getItem_of (jgp ry) dd.mapOf hw (h w' _ (I.tok _) rw')
 ·subst ey;cases(show u=YaP b from ry);obtain⟨z,hd,xs,rel,dd⟩:=jhZ I.hok e;obtain⟨w',hw,rw'⟩:=RelO.some_of (v:=v) (o:=(atKey xs k).map (·.2)) (by rw[l];exact rel.val k)
  obtain⟨p,hp,hp2⟩:=Option.map_eq_some_iff.mp hw;refine wpAny_getItem_heap (Yct hu) (jez I.hok eb) dd hp ?_;rw[hp2];exact h w' _ (I.tok _) rw'
def d_in  {σ: St}(hu:A.units+1<cLine)(I:Inv X pins σ H s)(g:DGet H a y o)(ry:RelV y u)(h:∀s',Inv X pins σ H s'->Q (.bool o.isSome) s') :
  wpAny (model X.prog X.w) A (YaG .In u (.ref a)) Q E s:=by
 rcases g with⟨kvs,k,e,ey,l⟩|⟨kvs,k,b,e,ey,eb,l⟩
 ·subst ey;obtain⟨z,hd,vs,rel,dd⟩:=jgC I.hok e;refine wpAny_in_of (jgp ry) hd dd.mapOf ?_;rw[<- (rel.val k).isSome_eq,<- l];exact h _ (I.tok _)
 ·subst ey;cases(show u=YaP b from ry);obtain⟨z,hd,xs,rel,dd⟩:=jhZ I.hok e;refine wpAny_in_heap (Yct hu) (jez I.hok eb) hd dd ?_;have q:=(rel.val k).isSome_eq;rw[YdA]at q;rw[<- q,<- l];exact h _ (I.tok _)
def jmN  {σ: St}(hu:A.units+1<cLine)(I:Inv X pins σ H s)(g:DGet H a y o)(ry:RelV y u)(h:∀s',Inv X pins σ H s'->Q (.bool (!o.isSome)) s') :
  wpAny (model X.prog X.w) A (YaG .NotIn u (.ref a)) Q E s:=by
 rcases g with⟨kvs,k,e,ey,l⟩|⟨kvs,k,b,e,ey,eb,l⟩
 ·subst ey;obtain⟨z,hd,vs,rel,dd⟩:=jgC I.hok e;refine wpAny_notIn_of (jgp ry) hd dd.mapOf ?_;rw[<- (rel.val k).isSome_eq,<- l];exact h _ (I.tok _)
 ·subst ey;cases(show u=YaP b from ry);obtain⟨z,hd,xs,rel,dd⟩:=jhZ I.hok e;refine wpAny_notIn_heap (Yct hu) (jez I.hok eb) hd dd ?_;have q:=(rel.val k).isSome_eq;rw[YdA]at q;rw[<- q,<- l];exact h _ (I.tok _)
def jgE  {σ: St}(I:Inv X pins σ H s)(mu:Mut (H a))(hs:YdQ a s.heap h')(he:∃q,h'.get? a=some q)(new:jaC X.prog X.w (upd H a ob) h' a ob) :
  Inv X pins σ (upd H a ob) { s with heap:=h',toks:=t' }:=
 I.write (x:=a) (e:=a) mu (.inl rfl) (λb q hb z=>(hs.2 b hb).trans z) he new
def jla        (z:kvs.length<=Yag)(hd:(a==Ya3)=false)(rel:KV kvs vs)(dd:h'.DictOf (jas P w) a vs) :
  jaC P w H' h' a (.dK kvs):=⟨z,hd,vs,rel,dd⟩
def jjn  {σ: St}(hu:A.units+1<cLine)(I:Inv X pins σ H s)(g:DPut H a y v H')(ry:RelV y u)(rv:RelV v r)(h:∀s',Inv X pins σ H' s'->Q () s') :
  wpAny (model X.prog X.w) A (setItem (.ref a) u r) Q E s:=by
 rcases g with⟨kvs,k,e,ey,l,eH⟩|⟨kvs,k,b,e,ey,eb,l,eH⟩
 ·subst ey eH;obtain⟨z,hd,vs,rel,dd⟩:=joT I.hok e;have hz:vs.length<=Yag:=by rw[<- rel.length];exact z
  have hl:(putK kvs k v).length<=Yag:=by have:=jcc kvs k v;lia
  refine wpAny_setItem_pairs (hsz:=hz) (jgp ry) dd λh' dd' hs=>h _ ?_;have he:∃q,h'.get? a=some q:=let ⟨q,_,_,hq,_⟩:=dd';⟨q,hq⟩
  exact jgE I (by rw[e];exact YbP) hs he (jla hl hd (rel.put k rv) dd')
 ·subst ey eH;cases(show u=YaP b from ry);obtain⟨z,hd,xs,rel,dd⟩:=jqh I.hok e;have hz:xs.length<=Yag:=by rw[<- Ydn rel];exact z
  have hl:(putK kvs k v).length<=Yag:=by have:=jcc kvs k v;lia
  refine wpAny_setItem_heap (hsz:=hz) (Yct hu) (jez I.hok eb) dd λh' dd' hs=>h _ ?_;obtain⟨q,es,ep,hq,h2,h3,h4,_,h5⟩:=dd';refine jgE I (by rw[e];exact YbP) hs ⟨q,hq⟩ ⟨hl,hd,_,(rel.put k eb rv).keeps λc ys ec=>?_,q,es,ep,hq,h2,h3,h4,h5⟩
  rw[jae (jpX ec e (λz=>nomatch z))];exact ec


def jqi  {σ: St}(I:Inv X pins σ H s)(e:Rd H a (.dK kvs))(h:∀t s',Inv X pins σ H s'->Q (.int kvs.length t) s'):wpAny (model X.prog X.w) A (call (.builtin "len") [.ref a]) Q E s:=by
 obtain⟨z,hd,vs,rel,dd⟩:=jgC I.hok e;refine call_len_dict hd dd (by rw[<- rel.length];rw[YbU]at z;lia) ?_
 rw[<- rel.length];exact h _ _ (I.tok _)

def jgD    {σ:St}(I:Inv X pins σ H s)(g:DGet H a y o):s.TypeIs (.ref a) "dict" := by
 rcases g with⟨kvs,k,e,_,_⟩|⟨kvs,k,b,e,_,_,_⟩
 ·obtain⟨_,_,vs,_,dd⟩:=jgC I.hok e;exact dd.typeIs
 ·obtain⟨_,_,xs,_,dd⟩:=jhZ I.hok e;exact dd.typeIs


def jhk     (h:Heap)(hb:Ya3<h.objs.size):jaC P w H (h.push { cls:=.type "dict",data:=.dict #[] }) h.objs.size (.dK []):=
 ⟨Ya8 _,beq_eq_false_iff_ne.mpr (Ne.symm (YaM hb)),[],.nil,Heap.DictOf.new h⟩
def jne  : TE:=λ_ H Q=>∀p,H p=none->Q (.ref p) (upd H p (.dK []))

def jj4  : PE X (.Dict [] [] pos) jne:=λpins s σ H Q I h=>
 wpAny_Dict_empty ⟨.ref s.heap.objs.size,_,I.laid (a:=s.heap.objs.size) (o:=.dK []) (t':=s.toks) (λ_ _ q=>Yae _ q) (Yab _) (jhk s.heap I.big),rfl,h _ (I.hok.fresh (Yab _))⟩

def jgT  : List (TE×TE)->St->Hp->(List (V×V)->Hp->Prop)->Prop
 |[],_,H,Q=>Q [] H
 |(tk,tv)::r,σ,H,Q=>tk σ H λx H1=>tv σ H1 λy H2=>jgT r σ H2 λps H3=>Q ((x,y)::ps) H3
abbrev VV  : List (V×V)->List (Value×Value)->Prop:=Paired λp q=>RelV p.1 q.1/\RelV p.2 q.2
def PPs  (X:Cx)(pos:Pos)(keys:List (Option Expr))(values:List Expr)(trs:List (TE×TE)):Prop:=
 ∀(pins:List (Addr×Obj)) (s:Shared) (σ:St) (H:Hp) (Q:List (V×V)->Hp->Prop),Inv X pins σ H s->jgT trs σ H Q->
  wpAny (model X.prog X.w) X.A (evalPairs (pairTrees keys values X.env pos)) (λvs s'=>∃ps H',Inv X pins σ H' s'/\VV ps vs/\Q ps H') X.xe s
def jlP    : PPs X pos [] [] []:=λpins s σ H Q I h=>pairTrees_nil_walk ⟨[],H,I,.nil,h⟩
def jjX         (hk:PE X k tk)(hv:PE X v tv)(hr:PPs X pos ks vs trs) :
  PPs X pos (some k::ks) (v::vs) ((tk,tv)::trs):=λpins s σ H Q I h=>
 pairTrees_cons_walk (thn (hk pins s σ H _ I h) λu s1 ⟨x,H1,I1,rx,q1⟩=>thn (hv pins s1 σ H1 _ I1 q1) λw2 s2 ⟨y,H2,I2,ry,q2⟩=>
  thn (hr pins s2 σ H2 _ I2 q2) λws s3 ⟨ps,H3,I3,rel,q3⟩=>⟨(x,y)::ps,H3,I3,.cons ⟨rx,ry⟩ rel,q3⟩)

def jdN  (kvs more:List (Key×V)):List (Key×V):=more.foldl (λacc kv=>putK acc kv.1 kv.2) kvs
def KV.merge  : ∀{more } {rs } {kvs } {vs },KV more rs->KV kvs vs->KV (jdN kvs more) (merged vs rs):=by
 intro more rs kvs vs r;unfold KV at r
 induction r generalizing kvs vs with
 |nil=>intro q;exact q
 |@cons p q ps qs h t ih=>
  intro r0;have e:KV (putK kvs p.1 p.2) (stored vs q.1 q.2):=by
   have:=r0.put p.1 h.2;rw[<- h.1];exact this
  exact ih e
theorem jcx  : ∀(more kvs:List (Key×V)),(jdN kvs more).length<=kvs.length+more.length
 |[],kvs=>by show kvs.length<=kvs.length+0;lia
 |p::r,kvs=>by
  have h1:=jcx r (putK kvs p.1 p.2);have h2:=jcc kvs p.1 p.2;show(jdN (putK kvs p.1 p.2) r).length<=_;rw[YaJ];lia
theorem jeN    : ∀{kvs } {ws },VV (kvs.map λkv=>(kV kv.1,kv.2)) ws->∃rs,Carries (jas P w) ws rs/\KV kvs rs
 |[],_,r=>by rw[YdP]at r;cases r;exact⟨[],YbP,.nil⟩
 |p::kvs,_,r=>by
  rw[YaK]at r;cases r with
  |@cons a b as bs h t=>
   obtain⟨rs,c,q⟩:=jeN (P:=P) (w:=w) t;obtain⟨b1,b2⟩:=b;exact⟨(p.1,b2)::rs,⟨jgp h.1,rfl,c⟩,.cons ⟨rfl,h.2⟩ q⟩
def jpv  (trs:List (TE×TE)):TE:=λσ H Q=>∀p,H p=none->jgT trs σ (upd H p (.dK [])) λps H2=>H2 p=some (.dK [])/\∃kvs:List (Key×V),ps=kvs.map (λkv=>(kV kv.1,kv.2))/\kvs.length<=15/\Q (.ref p) (upd H2 p (.dK (jdN [] kvs)))
def jlX       (h:PPs X pos keys values trs)(hall:keys.all (·.isSome)=true)(hl:keys.length=values.length)(h0:keys≠[])
  (h15:keys.length<=15):PE X (.Dict keys values pos) (jpv trs):=by
 intro pins s σ H Q I q;have hn:=I.hok.fresh (Yab s.heap.objs.size);have I1:=I.laid (a:=s.heap.objs.size) (o:=.dK []) (h':=s.heap.push { cls:=.type "dict",data:=.dict #[] }) (t':=s.toks) (λ_ _ q=>Yae _ q) (Yab _) (jhk s.heap I.big);refine wpAny_Dict_walk (knd:=jas X.prog X.w) hall hl h0 h15 (thn (h pins _ σ _ _ I1 (q _ hn)) λws s2 ⟨ps,H2,I2,rel,e,kvs,ep,lk,q2⟩=>?_);subst ep;obtain⟨rs,c,rk⟩:=jeN (P:=X.prog) (w:=X.w) rel;obtain⟨z,hd,vs0,r0,dd⟩:=joT I2.hok e;cases r0;refine⟨rs,c,dd,λh' dd' hs=>⟨.ref s.heap.objs.size,_,?_,rfl,q2⟩⟩;have hz:(jdN [] kvs).length<=Yag:=by
  have h1:=jcx kvs [];rw[Yb0]at h1;rw[YbU];lia
 have he:∃q,h'.get? s.heap.objs.size=some q:=let ⟨q,_,_,hq,_⟩:=dd';⟨q,hq⟩
 exact jgE I2 (by rw[e];exact YbP) hs he (jla hz hd (rk.merge .nil) dd')


def joV  {σ: St}(hu:A.units+1<cLine)(I:Inv X pins σ H s)(g:DGet H a y o)(ry:RelV y u)(rd:RelV d r)(h:∀w' s',Inv X pins σ H s'->RelV (o.getD d) w'->Q w' s') :
  wpAny (model X.prog X.w) A (call (.builtin "dict.get") [.ref a,u,r]) Q E s:=by
 rcases g with⟨kvs,k,e,ey,l⟩|⟨kvs,k,b,e,ey,eb,l⟩
 ·subst ey;obtain⟨z,hd,vs,rel,dd⟩:=jgC I.hok e;refine call_meetsIn Yco dd.typeIs Yes (Yem _ _ _) (meets_dict_get_default (jas X.prog X.w) a (jgp ry) hd r) ⟨_,dd.mapOf,h _ _ (I.tok _) ?_⟩;rw[l];exact(rel.val k).getD rd
 ·subst ey;cases(show u=YaP b from ry);obtain⟨z,hd,xs,rel,dd⟩:=jhZ I.hok e;refine call_meetsIn Yco dd.typeIs Yes (Yem _ _ _) (meetsH_dict_get_default (YdY (jas X.prog X.w)) a b hd r) ⟨Yct hu,k,xs,jez I.hok eb,dd,h _ _ (I.tok _) ?_⟩;rw[l];exact(rel.val k).getD rd






end L2

namespace Att
open PySem PySem.W PySem.Calls PyProof.Rows

def jdU    : ∀(ns:List Int) vs ,WellAll P h vs (ns.map WData.int)->IntsAre vs ns:=by
 intro ns
 induction ns with
 |nil=>
  intro vs w;rw[YdP]at w;cases w;exact .nil
 |cons n ns ih=>
  intro vs w;rw[YaK]at w;cases w with
  |cons a b=>
   cases a;exact .cons _ _ (ih _ b)

def jil  {l:OpenLaw}(hn:l.most=some n) 
  (hpre:l.row.toRowW.claim.pre args=true) (hwl:WellAll P h vals args) :
  ∃a vs ns,vals=[YaP a]/\args=[WData.list (ns.map WData.int)]/\h.get? a=some { cls:=.type "list",data:=.seq vs.toArray }/\IntsAre vs ns/\ns.length<=n:=by
 have hsh:WShape.hasAll [] args [.list .int]=true:=(pre_splitW hpre).1;have hc:l.pre.holds [] { args:=args }=true:=(pre_splitW hpre).2;obtain⟨d,r,rfl,h1,h2⟩:=hasAllW_cons hsh;obtain rfl:=hasAllW_nil h2;obtain⟨xs,rfl,h3⟩:=hasW_list h1;obtain⟨ns,rfl⟩:=items_int h3;have hlen:ns.length<=n:=by
  unfold OpenLaw.pre at hc;have h4:(WTm.not (.lt (.lit (.int (n:Int))) (.len (.arg 0)))).holds [] { args:=[.list (ns.map .int)] }=true:=by
   have h4:=(holds_andW hc).1;rw[hn]at h4;exact h4
  have h5:=condW_of h4 (w_not (w_lt w_lit (w_len_list (w_arg rfl))));rw[Yai]at h5;refine Nat.le_of_not_lt λq=>?_;have q':(n:Int)<((ns.length:Nat):Int):=by lia
  first
   |(rw[decide_eq_true q']at h5;exact absurd h5 (by decide))
   |(simp at h5;lia)
 cases hwl with
 |cons w1 w2=>
  cases w2;cases w1 with
  |list ho hall=>exact⟨_,_,ns,rfl,rfl,ho,jdU ns _ hall,hlen⟩

def jit  (l:OpenLaw) args:l.row.toRowW.claim.post args (.bool true) args=true:=
 postW_of (r:=l.row.toRowW) (X:=(true==true))
  (show WShape.has [] (.bool true) .bool=true by first|rfl|decide|simp[WShape.has,WShape.arms,WShape.armsAll])
  (show(WTm.eq .res (.lit (.bool true))).value [] { args:=args,res:=some (.bool true),after:=args }=some (.bool (true==true))from w_eq_bool (w_res rfl) w_lit) rfl

def attach_call  {l:OpenLaw} 
  (hn:l.most=some n) (hdf:d.params.defaults=[])
  (call:∀(w:World) (s₀ s₁:Shared) mg mb fa (o:Obj) pm cd doc a (vs:List Value) (ns:List Int),
   Ground q loose [] XP w s₀ mg mb s₁.heap->YP w s₁.heap->
   s₁.heap.get? fa=some o->o.data=.func (docDef d.name d.params d.body d.scope pm cd doc)->s₁.heap.CodeRec cd d.name->mg d.name=some (.ref fa)->
   s₁.heap.get? a=some { cls:=.type "list",data:=.seq vs.toArray }->IntsAre vs ns->ns.length<=n->s₁.gens=#[]->
   codeAny (model l.prog w) callerA (.call (.ref fa) ⟨[.ref a],[]⟩) (λr s'=>r=.ok (.ret (.bool true))/\OldK s₁.heap s'.heap/\s'.os=s₁.os/\AllBare s'.gens) s₁) :
  WalkO q loose XP YP l.row.toRowW d [] (λf vs=>Yfs f vs):=by
 intro w s₀ s₁ mg mb G Y fa o pm cd doc dV kV ho hd hcd hD hmg hg args vals as hpre hlay hrd hwl hlo;obtain rfl:dV=.none:=Dflts.none hD hdf;obtain rfl:kV=.none:=Dflts.noKw hD;obtain⟨a,vs,ns,rfl,rfl,hobj,hints,hlen⟩:=jil hn hpre hwl;refine enter_call (YcY (call w s₀ s₁ mg mb fa o pm cd doc a vs ns G Y ho (fd_plain hd) hcd hmg hobj hints hlen hg) λr s' hq=>?_);obtain⟨rfl,h2,h3,h4⟩:=hq;exact⟨.inl ⟨.bool true,.bool true,[],rfl,λ_=>rfl,.bool true,jit l _,λ_=>⟨Yeo,λ_ hm=>(nomatch hm)⟩⟩,h2,h3,h4⟩


end Att

namespace L2
open PySem PySem.Spec PyProof.Rows

theorem jfc  : ∀{vs } {ns },IntsAre vs ns->Vals (ns.map V.int) vs
 |_,_,.nil=>.nil
 |_,_,.cons n t h=>.cons ⟨t,rfl⟩ (jfc h)



noncomputable def jaF  (s:Stmt)(j:Nat):Stmt:=match s with
 |.ClassDef _ _ _ body _ _ _ _ _ _ _=>body.getD j (.Pass ⟨0,0,0,0⟩)
 |_=>.Pass ⟨0,0,0,0⟩
def jax  (s:Stmt):YfW:=match s with
 |.FunctionDef _ a _ _ _ _ _ _ _ _=>a
 |_=>{ posonlyargs:=[],args:=[],vararg:=none,kwonlyargs:=[],kw_defaults:=[],kwarg:=none,defaults:=[] }
def jaf  (s:Stmt):List Stmt:=match s with
 |.FunctionDef _ _ b _ _ _ _ _ _ _=>b
 |_=>[]
def jaa  (s:Stmt):Scope:=match s with
 |.FunctionDef _ _ _ _ _ _ sc _ _ _=>sc
 |_=>{ kind:=.function,names:=[],isGenerator:=false,isCoroutine:=false }

abbrev E0  : XK:=λ_ _ _=>False
structure Fun (K:Yac)(x qual:Str)(st:Stmt)(f:Addr)(fd:YeL):Prop where
 ex:∃(oc:Value) (od:Option Addr) (kV doc pm:Value) (an:Option Addr) (cdv ct:Value) (osl:Array (Option Value)),
  fd=Ya2 x qual (jax st) (jaf st) (jaa st) .none kV doc pm an cdv ct/\K.lookup f=some ⟨oc,od,.func fd,osl⟩/\Ybu K cdv qual=true
 kp:Ybk K (.ref f)=true

def Fun.binds  {K: Yac}{st:Stmt}(F:Fun K x qual st f fd)
  (h:∀kV doc pm an cdv ct (us:List Value),us.length=ps.length->Yfq (Ya2 x qual (jax st) (jaf st) (jaa st) .none kV doc pm an cdv ct) ⟨us,[]⟩=pure (ps.zip us)):Binds K fd ps []:=by
 obtain⟨oc,od,kV,doc,pm,an,cdv,ct,osl,rfl,lk,hcd⟩:=F.ex;exact .all (h kV doc pm an cdv ct)
def jjd  {K: Yac}{st:Stmt}{kV doc pm cdv ct:Value}(l:K.lookup f=some ⟨oc,od,.func (Ya2 x qual (jax st) (jaf st) (jaa st) .none kV doc pm an cdv ct),osl⟩)
  (c:Ybu K cdv qual=true) (k:Ybk K (.ref f)=true):Fun K x qual st f (Ya2 x qual (jax st) (jaf st) (jaa st) .none kV doc pm an cdv ct):=⟨⟨oc,od,kV,doc,pm,an,cdv,ct,osl,rfl,l,c⟩,k⟩
def jqc    (hr:Room k A):A.units+1<cLine:=YaS (Yfw (by decide:1<=64) _) hr.units


def iteF  {A B:Prop}(h:B):if false=true then A else B:=by
 rw[if_neg Yaj];exact h
def iteT  {A B:Prop}(h:A):if true=true then A else B:=by
 rw[if_pos rfl];exact h

def jjy  : jaN X (.builtin "len") (λxs H Q=>∃a kvs,xs=[V.ref a]/\H a=some (.dK kvs)/\Q (.int kvs.length) H):=by
 intro pins s σ H xs us Q I r h;obtain⟨a,kvs,rfl,ha,q⟩:=h;obtain⟨u,rfl,ru⟩:=jcJ r;cases ru;exact jqi I (.inl ha) λt s' I'=>⟨.int kvs.length,H,I',⟨t,rfl⟩,q⟩
section
variable {κ:Type}[DecidableEq κ]
end
end L2

namespace L2
open PySem PySem.Spec PyProof.Rows


noncomputable def jgb  (env:Env)(ifs:List Expr):Sem Bool:=forIn ifs true λc r=>ite (r=true) (isTrue c env (eval c env) >>= λb=>pure (.yield b)) (pure (.yield r))
def jdD  (ip:Pos)(tg:Expr)(ifs:List Expr)(it:Value)(env:Env)(em:Sem Unit)(next:Code):Sem Fin:=
 standAt ip >>= λ_=>pyNext it >>= λr=>match r with
  |none=>pure (.done .next)
  |some v=>YcQ tg it v >>= λ_=>assign tg env v >>= λ_=>jgb env ifs >>= λok=>ite (ok=true) (em >>= λ_=>again next) (again next)
def jls  (M:Model)(A:Around)(tg:Expr)(ifs:List Expr)(it:Value)(env:Env)(em:Sem Unit)(fin:Shared->Prop)(less:Shared->Prop):Option Value->Shared->Prop
 |none,s=>fin s
 |some v,s=>wpAny M A (YcQ tg it v) (λ_ s=>wpAny M A (assign tg env v) (λ_ s=>wpAny M A (jgb env ifs) (λok s=>if ok=true then wpAny M A em (λ_ s=>less s) (λ_ _=>False) s else less s) (λ_ _=>False) s) (λ_ _=>False) s) (λ_ _=>False) s
def jfK             (I : Nat -> Shared -> Prop)
    (hct : YeE (.ListComp elt gens scope pos) dp it acc env = jdD ip target ifs it env em (.compLoop (.ListComp elt gens scope pos) dp it acc env))
    (turn : ∀ k t, I k t -> wpAny (model prog w) A (pyNext it) (jls (model prog w) A target ifs it env em (R (.ok .next)) λt => ∃ m, m < k /\ I m t) (λ_ _ => False) t)
     n (h : I n s) : codeAny (model prog w) A (.compLoop (.ListComp elt gens scope pos) dp it acc env) R s := by
  have no : ∀ {Z : Value -> Shared -> Prop} (e : Value) (t : Shared), False -> Z e t := λ_ _ f => f.elim
  refine codeAny_loop rfl I (λk t hk => wpAny_noted (m := YeE (.ListComp elt gens scope pos) dp it acc env) (hct ▸ ?_)) n h
  refine Yad (Yb7 (Yad (YaL (turn k t hk) (λr t1 p => ?_) no)))
  match r, p with
  | none, p => exact Yal p
  | some v, p =>
    refine Yad (YaL p (λ_ t2 p => Yad (YaL p (λ_ t3 p => Yad (YaL p (λok t4 p => ?_) no)) no)) no)
    match ok, p with
    | false, p => exact Yal ⟨rfl, p⟩
    | true, p => exact Yad (YaL p (λ_ t5 p => Yal ⟨rfl, p⟩) no)

theorem jbL  (env:Env):∀(names:List (Str×Ybv)) acc ,(∀y∈names,y.2=.free->∃c,env.cells.lookup y.1=some c)->
  ∃cl ,(forIn names acc (λ(y:Str×Ybv) cs=>(if (y.2==Yaw)=true then (do let c <- cellOf env y.1;pure (ForInStep.yield ((y.1,c)::cs))) else pure (ForInStep.yield cs):Sem (ForInStep (List (Str×Addr))))):Sem (List (Str×Addr)))=pure cl/\
   (∀x c,(x,c)∈cl->(x,c)∈acc\/(env.cells.lookup x=some c/\(x,Yaw)∈names))/\(∀p∈acc,p∈cl)/\(∀y∈names,y.2=.free->∃c,(y.1,c)∈cl)
 |[],acc,_=>⟨acc,rfl,λ_ _ h=>.inl h,λ_ h=>h,λ_ h=>nomatch h⟩
 |(n,k)::r,acc,h=>by
  by_cases hk:k=.free
  ·subst hk;obtain⟨c,hc⟩:=h (n,.free) YaC rfl;obtain⟨cl,e,h1,h2,h3⟩:=jbL env r ((n,c)::acc) λy hy=>h y (Yao _ hy);refine⟨cl,?_,λx d hd=>?_,λp hp=>h2 p (Yao _ hp),λy hy hf=>?_⟩
   ·rw[Yee];have:(cellOf env n:Sem Addr)=pure c:=by unfold cellOf;rw[hc]
    simp_all
   ·grind
   grind
  ·obtain⟨cl,e,h1,h2,h3⟩:=jbL env r acc λy hy=>h y (Yao _ hy);have hb:(k==Yaw)=false:=by simpa using hk
   refine⟨cl,?_,λx d hd=>?_,h2,λy hy hf=>?_⟩
   ·rw[Yee];simp only[hb,YbV,if_false,pure_bind];exact e
   ·rcases h1 x d hd with z|⟨z,z'⟩
    ·exact .inl z
    ·exact .inr ⟨z,Yao _ z'⟩
   ·rcases YaW.mp hy with z|z
    ·subst z;exact absurd hf hk
    ·exact h3 y z hf
theorem jcw  {β:Type}:∀{l:List (Str×β)} {x } {c },(x,c)∈l->∃d,l.lookup x=some d/\(x,d)∈l
 |(n,k)::r,x,c,h=>by
  cases hx:x==n with
  |true=>
   simp_all
  |false=>
   rcases YaW.mp h with z|z
   ·lia
   ·obtain⟨d,e,m⟩:=jcw z
    grind
def jeM    (h:∀y∈scope.names,y.2=.free->∃c,env.cells.lookup y.1=some c) :
  ∃cl ,Yfc scope env=pure cl/\(∀x c,cl.lookup x=some c->env.cells.lookup x=some c)/\(∀y∈scope.names,y.2=.free->∃c,cl.lookup y.1=some c):=by
 obtain⟨cl,e,h1,_,h3⟩:=jbL env scope.names [] h;refine⟨cl,?_,λx c hx=>?_,λy hy hf=>?_⟩
 ·unfold Yfc
  simp_all
 ·rcases h1 x c (Yat hx)with z|⟨z,_⟩
  ·simp_all
  lia
 ·obtain⟨c,hc⟩:=h3 y hy hf;obtain⟨d,e,_⟩:=jcw hc
  simp_all

noncomputable def jaq  (X:Cx)(N:List Str)(scope:Scope)(cl:List (Str×Addr))(C:Addr)(s₀:Shared)(H₀:Hp)(fp:List Addr):Cx where
 prog:=X.prog
 w:=X.w
 K:=X.K
 mg:=X.mg
 base:=X.base
 A:=X.A
 N:=N
 s₀:=s₀
 H₀:=H₀
 env:=compEnvC scope cl C X.env
 outer:=X.stack
 stack:=X.stack
 ex:=fp
 fn:=λx=>scope.names.lookup x==some .cell
 calm:=X.calm
 pn:=[]
 xe:=λ_ _=>False

noncomputable def cOk  (oN:List Str)(on:List (Str×Ybv))(N:List Str)(pick:List (Option Nat))(scope:Scope):Bool:=
 decide (scope.kind=.function)&&scope.names.all (λy=>y.2 != .cell||scope.names.lookup y.1==some .cell)&&scope.names.all (λy=>y.2 != .local||scope.names.lookup y.1==some .local)
  && scope.names.all (λy=>y.2 != .free||(scope.names.lookup y.1==some .free&&(on.lookup y.1==some .cell||on.lookup y.1==some .free)))
  && pick.length==N.length&&(N.zip pick).all (λp=>match p.2 with|none=>true|some j=>oN[j]?==some p.1&&scope.names.lookup p.1==some .free)

structure CScope (X:Cx)(N:List Str)(pick:List (Option Nat))(scope:Scope):Prop where
 kind:scope.kind=.function
 cells:∀y∈scope.names,y.2=.cell->scope.names.lookup y.1=some .cell
 names:∀y∈scope.names,y.2=.local->scope.names.lookup y.1=some .local
 fre:∀y∈scope.names,y.2=.free->scope.names.lookup y.1=some .free/\(X.env.kindOf y.1=some .cell\/X.env.kindOf y.1=some .free)
 len:pick.length=N.length
 caps:∀(i j:Nat) (x:Str),N[i]?=some x->pick[i]?=some (some j)->X.N[j]?=some x/\scope.names.lookup x=some .free
theorem jde  (f:Str->Ybv->Ybv):∀(names:List (Str×Ybv)) x ,(names.map λy=>(y.1,f y.1 y.2)).lookup x=(names.lookup x).map (f x)
 |[],_=>rfl
 |(n,k)::r,x=>by
  rw[YaK,YaU,YaU,jde f r x];by_cases e:x=n
  ·subst e;rw[beq_self_eq_true];rfl
  ·rw[beq_false_of_ne e]
noncomputable def jkX  (env:Env)(n:Str)(k:Ybv):Ybv:=if (k==Yaw&&env.scope.kind == .function&&env.kindOf n==some .cell) then .cell else k
def jcm (env:Env)(names:List (Str×Ybv))(x:Str) :
  (names.map λ(n,k)=>if (k==Yaw&&env.scope.kind == .function&&env.kindOf n==some .cell) then (n,YaH) else (n,k)).lookup x=(names.lookup x).map (jkX env x):=by
 rw[<- jde (jkX env)];congr 2;funext y;show ite _ _ _=(y.1,ite _ _ _)
 lia
def ja6 {env:Env}{names:List (Str×Ybv)}{x:Str}(h:names.lookup x=some .free) :
  (names.map λ(n,k)=>if (k==Yaw&&env.scope.kind == .function&&env.kindOf n==some .cell) then (n,YaH) else (n,k)).lookup x=some .cell\/
  (names.map λ(n,k)=>if (k==Yaw&&env.scope.kind == .function&&env.kindOf n==some .cell) then (n,YaH) else (n,k)).lookup x=some .free:=by
 rw[jcm,h];show some (ite _ _ _)=_\/some (ite _ _ _)=_
 lia
def jaA {env:Env}{q:Ybv}(hq:q≠.free){names:List (Str×Ybv)}{x:Str}(h:names.lookup x=some q) :
  (names.map λ(n,k)=>if (k==Yaw&&env.scope.kind == .function&&env.kindOf n==some .cell) then (n,YaH) else (n,k)).lookup x=some q:=by
 rw[jcm,h];show some (ite _ _ _)=_
 lia
theorem jbB {env:Env}:∀{names:List (Str×Ybv)} {x:Str},
  ((names.map λ(n,k)=>if (k==Yaw&&env.scope.kind == .function&&env.kindOf n==some .cell) then (n,YaH) else (n,k)).lookup x=some .cell\/
  (names.map λ(n,k)=>if (k==Yaw&&env.scope.kind == .function&&env.kindOf n==some .cell) then (n,YaH) else (n,k)).lookup x=some .free)->(x,Yaw)∈names\/(x,YaH)∈names
 |[],_,h=>by simp at h
 |(n,k)::r,x,h=>by
  have ih:_->_:=@jbB env r x;have h':Ybx x ((if (k==Yaw&&env.scope.kind == .function&&env.kindOf n==some .cell)=true then (n,YaH) else (n,k))::r.map λ(n,k)=>if (k==Yaw&&env.scope.kind == .function&&env.kindOf n==some .cell) then (n,YaH) else (n,k))=some .cell\/Ybx x ((if (k==Yaw&&env.scope.kind == .function&&env.kindOf n==some .cell)=true then (n,YaH) else (n,k))::r.map λ(n,k)=>if (k==Yaw&&env.scope.kind == .function&&env.kindOf n==some .cell) then (n,YaH) else (n,k))=some .free:=h
  by_cases hk:k=.free
  ·cases hx:x==n with
   |true=>simp_all
   |false=>
    refine(ih ?_).imp (Yao _) (Yao _);by_cases hcc:(k==Yaw&&env.scope.kind == .function&&env.kindOf n==some .cell)=true
    ·rw[if_pos hcc]at h';simpa only[YaU,hx]using h'
    ·rw[if_neg hcc]at h';simpa only[YaU,hx]using h'
  ·have hb:(k==Yaw)=false:=by simpa using hk
   rw[if_neg (by simp[hb])]at h'
   cases hx:x==n with
   |true=>
    simp only[YaU,hx]at h';rcases h' with z|z
    ·rw[eq_of_beq hx,Yas z];exact .inr YaC
    ·exact absurd (Yas z) hk
   |false=>exact(ih (by simpa only[YaU,hx]using h')).imp (Yao _) (Yao _)

theorem jaG  : ∀names n acc ,Ya9 n names acc=Ya9 n names []++acc
 |[],_,_=>rfl
 |(x,k)::r,n,acc=>by
  unfold Ya9;split
  ·rw[jaG r (n+1) ((x,n)::acc),jaG r (n+1) [(x,n)],YdJ];rfl
  ·exact jaG r n acc
theorem jaY  : ∀names n {x } {c },(x,c)∈Ya9 n names []->(x,YaH)∈names
 |[],_,_,_,h=>nomatch h
 |(y,k)::r,n,x,c,h=>by
  unfold Ya9 at h;split at h
  ·rename_i hk;rw[jaG]at h;rcases List.mem_append.mp h with h|h
   ·exact Yao _ (jaY r _ h)
   simp_all
  ·exact Yao _ (jaY r _ h)
def jhR  {β:Type}:∀(l m:List (Str×β)) x ,(l++m).lookup x=(l.lookup x).or (m.lookup x)
 |[],_,_=>by simp
 |(n,k)::r,m,x=>by
  grind
structure BCells (scope:Scope)(cl cs:List (Str×Addr))(lo:Nat)(h:Heap):Prop where
 lk:∀x c,cs.lookup x=some c->((x,YaH)∈scope.names/\lo<c/\h.IsCell c none)\/((x,YaH)∉scope.names/\cl.lookup x=some c)
 own:∀x,scope.names.lookup x=some .cell->∃c,cs.lookup x=some c/\lo<c
 old:∀x c,(x,YaH)∉scope.names->cl.lookup x=some c->cs.lookup x=some c
 inj:∀x y c,cs.lookup x=some c->cs.lookup y=some c->lo<c->x=y
def jjD   {cl:List (Str×Addr)}{lo:Nat}(hl:h.objs.size=lo+1)(S:∀y∈scope.names,y.2=.cell->scope.names.lookup y.1=some .cell)(hcl:∀x c,cl.lookup x=some c->c<=lo):BCells scope cl (Ya9 (lo+1) scope.names cl) lo (YeQ h scope.names):=by
 have ok:=cellsFrom_ok scope.names h (lo+1) [] ⟨λ_ _ hm=>(nomatch hm),Yeo⟩ (by lia)
 rw[hl]at ok;have look:∀x,(Ya9 (lo+1) scope.names cl).lookup x=((Ya9 (lo+1) scope.names []).lookup x).or (cl.lookup x):=λx=>by rw[jaG,jhR]
 have own:∀x,(x,YaH)∈scope.names->∃c,(Ya9 (lo+1) scope.names []).lookup x=some c:=λx hx=>je8 (S _ hx rfl);refine⟨λx c e=>?_,λx hx=>?_,λx c hx hc=>?_,λx y c e1 e2 hc=>?_⟩
 ·rw[look]at e;by_cases hx:(x,YaH)∈scope.names
  ·obtain⟨c',e'⟩:=own x hx;rw[e',Option.some_or]at e;have e:c'=c:=Yas e;subst e;obtain⟨z1,z2⟩:=ok.empty x c' (Yat e')
   lia
  ·cases q:(Ya9 (lo+1) scope.names []).lookup x with
   |some c'=>exact absurd (jaY _ _ (Yat q)) hx
   |none=>simp_all
 ·obtain⟨c,e⟩:=own x (Yat hx);exact⟨c,by simp_all,(ok.empty x c (Yat e)).2⟩
 ·rw[look];cases q:(Ya9 (lo+1) scope.names []).lookup x with
  |some c'=>exact absurd (jaY _ _ (Yat q)) hx
  |none=>simp_all
 ·rw[look]at e1 e2;have new:∀x,((Ya9 (lo+1) scope.names []).lookup x).or (cl.lookup x)=some c->(Ya9 (lo+1) scope.names []).lookup x=some c:=λx e=>by
   cases q:(Ya9 (lo+1) scope.names []).lookup x with
   |some c'=>simp_all
   |none=>
    grind
  exact name_of_addr ok.apart (Yat (new x e1)) (Yat (new y e2))
def jcg           
  (hQ:Q (newEnv scope s.heap.objs.size globals (Ya9 (s.heap.objs.size+1) scope.names cl) qual none .none (some env) Ydz) { s with heap:=YeQ (s.heap.push { cls:=.type "dict",data:=.dict #[] }) scope.names }) :
  wpAny M A (Ye4 scope globals cl [] qual none .none (some env)) Q E s:=by
 have sz:(s.heap.push { cls:=.type "dict",data:=.dict #[] }).objs.size=s.heap.objs.size+1:=Yeu ..;unfold Ye4;rw[if_pos (by rfl)]
 refine Yad (wpAny_alloc (Yad (wpAny_layCells _ (λx k c=>by lia) _ _ _ _ ?_)))
 rw[show Heap.objs (Shared.heap _)=(s.heap.push { cls:=.type "dict",data:=.dict #[] }).objs from rfl,sz];exact Yad (Yal (Yal hQ))


def glc   (h:scope.names.lookup x=some .globalImplicit):Gl (jaq X N scope cl C s₀ H₀ fp) x:=jaA (by decide) h

def PIfs  (X:Cx)(ifs:List Expr)(t:TT):Prop:=
 ∀(pins:List (Addr×Obj)) (s:Shared) (σ:St) (H:Hp) (Q:Bool->Hp->Prop),Inv X pins σ H s->t σ H Q->
  wpAny (model X.prog X.w) X.A (jgb X.env ifs) (TP X pins σ Q) X.xe s
def jps  : TT:=λ_ H Q=>Q true H
def jlT   : PIfs X [] jps:=λ_ _ _ H _ I h=>wpAny_tests_nil ⟨H,I,h⟩
def jlS     (h:PT X c t):PIfs X [c] t:=λpins s σ H Q I q=>wpAny_tests_one (h pins s σ H Q I q)

abbrev TEm:=St->List V->Hp->(St->List V->Hp->Prop)->Prop
def jhr  (J:It)(g:TG)(tt:TT)(tem:TEm)(QQ:St->List V->Hp->Prop)(τ0:St)(ys0:List V)(H1:Hp):Prop:=∃W:Nat->Nat->St->List V->Hp->Prop,
 (∃m,W 0 m τ0 ys0 H1)/\∀i m τ ys H,W i m τ ys H->
  (J.stop i H/\QQ τ ys H)\/(J.go i H/\∀x H',J.yld i H x H'->g x τ H' λτ2 H2=>tt τ2 H2 λb H3=>if b=true then tem τ2 ys H3 λτ3 ys' H4=>∃m',m'<m/\W (i+1) m' τ3 ys' H4
   else ∃m',m'<m/\W (i+1) m' τ2 ys H3)
def emA  (te:TE)(D:Addr):TEm:=λτ ys H Q=>te τ H λv H4=>H4 D=some (.lst ys)/\ys.length<Yag/\Q τ (ys++[v]) (upd H4 D (.lst (ys++[v])))
def em2  (wi:TI)(g:TG)(tt:TT)(te:TE)(D:Addr):TEm:=λτ ys H Q=>wi τ H λJ H1=>jhr J g tt (emA te D) Q τ ys H1
def LcGG  (J:It)(g:TG)(tt:TT)(tem:Addr->TEm)(D:Addr)(τ0:St)(Q:VK)(H1:Hp):Prop:=jhr J g tt (tem D) (λ_ _ H=>Q (.ref D) H) τ0 [] (upd H1 D (.lst []))
def PEm  (Y:Cx)(em:Sem Unit)(tem:TEm):Prop:=∀(pins:List (Addr×Obj)) (s:Shared) (τ:St) (ys:List V) (H:Hp) (Q:St->List V->Hp->Prop),Inv Y pins τ H s->tem τ ys H Q->
 wpAny (model Y.prog Y.w) Y.A em (λ_ s'=>∃τ' ys' H',Inv Y pins τ' H' s'/\Q τ' ys' H') Y.xe s
def tLcG  (pick:List (Option Nat))(wi:TI)(g:TG)(tt:TT)(tem:Addr->TEm):TE:=λσ H Q=>wi σ H λJ H1=>∀D,H1 D=none->LcGG J g tt tem D (pick.map λo=>o.bind λj=>(σ[j]?).join) Q H1
abbrev tLc  (pick:List (Option Nat))(wi:TI)(g:TG)(tt:TT)(te:TE):TE:=tLcG pick wi g tt (emA te)
section
variable {X:Cx}{N:List Str}{pick:List (Option Nat)}{scope:Scope}{pins:List (Addr×Obj)}{σ:St}{s s3:Shared}{H H3:Hp}

def jh0  {cl cs:List (Str×Addr)}{fp:List Addr}(S:CScope X N pick scope)(I3:Inv X pins σ H3 s3)(hf:∀b∈fp,FpOk X pins H3 b)(hlt:∀b∈fp,b<s3.heap.objs.size)
  (c1:∀x c,cl.lookup x=some c->X.env.cells.lookup x=some c) (c2:∀y∈scope.names,y.2=.free->∃c,cl.lookup y.1=some c) (B:BCells scope cl cs s3.heap.objs.size h₁)
  (hns:h₁.Ns s3.heap.objs.size mB) (hk:∀b o,s3.heap.get? b=some o->h₁.get? b=some o) :
  Inv (jaq X N scope cs s3.heap.objs.size s3 H3 fp) [] (pick.map λo=>o.bind λj=>(σ[j]?).join) H3 { s3 with heap:=h₁,toks:=tk }:=by
 have fsub:∀b∈frs X.stack,b∈X.env.locals::X.fs:=I3.stkSub;have oc:∀x c,cs.lookup x=some c->X.env.cells.lookup x=some c\/s3.heap.objs.size<c:=λx c e=>by
  rcases B.lk x c e with⟨_,z,_⟩|⟨_,z⟩
  ·lia
  simp_all
 have has:∀x,((x,Yaw)∈scope.names\/(x,YaH)∈scope.names)->∃c,cs.lookup x=some c:=λx hx=>by
  by_cases hc:(x,YaH)∈scope.names
  ·obtain⟨c,e,_⟩:=B.own x (S.cells _ hc rfl)
   simp_all
  ·rcases hx with hx|hx
   ·obtain⟨c,e⟩:=c2 _ hx rfl;exact⟨c,B.old x c hc e⟩
   lia
 refine⟨⟨I3.ok.mod,S.kind,I3.ok.glob,I3.ok.blt,Yab _,λx y c e1 e2=>?_,λx hx=>has x (jbB hx),λx c z e=>?_,I3.ok.hd,I3.ok.frames,.inl rfl,λb hb=>⟨YaM (hlt b hb),λx c e=>?_⟩,
   I3.bs,Yah I3.ok.bsz I3.sz,λb o e hb=>?_,λb hb hm=>?_,I3.stack,I3.stkFree⟩,
  rfl,I3.bare,Un.kept hk,⟨_,hns,λi x v e1 e2 e3=>?_⟩,λx c e=>?_,I3.hok.fresh (Yab _),λx c e=>?_,λp hp=>absurd (show p∈([]:List (Addr×Obj))from hp) (by simp),I3.hok.kept hk,?_⟩
 ·by_cases hc:s3.heap.objs.size<c
  ·exact B.inj x y c e1 e2 hc
  ·exact I3.ok.inj x y c ((oc x c e1).resolve_right hc) ((oc y c e2).resolve_right hc)
 ·have z':scope.names.lookup x=some .cell:=eq_of_beq z;rcases B.lk x c e with⟨_,y,_⟩|⟨y,_⟩
  ·exact Yb1 y
  ·exact absurd (Yat z') y
 ·rcases oc x c e with z|z
  ·exact(hf b hb).2.2.2.2.1 x c z
  ·intro q;rw[q]at z;exact absurd (YdV z (hlt b hb)) (Ybe _)
 ·rcases(hf b hb).2.2.2.1 with z|z
  ·exact I3.ok.noex b o e z
  ·exact absurd (Yan (Yam e) (Yah I3.ok.bsz z)) (Ybe _)
 ·rcases YaW.mp (fsub b hm)with z|z
  ·exact(hf b hb).2.1 z
  ·exact(hf b hb).2.2.1 z
 ·-- a captured name
  have e2':∃j,pick[i]?=some (some j)/\σ[j]?=some (some v):=by
   rw[YaD]at e2;cases q:pick[i]? with
   |none=>simp_all
   |some o=>
    rw[q]at e2;cases o with
    |none=>simp at e2
    |some j=>
     grind
  obtain⟨j,ej,ev⟩:=e2';obtain⟨hN,hfr⟩:=S.caps i j x e1 ej;have hmem:(x,Yaw)∈scope.names:=Yat hfr;have hnc:(x,YaH)∉scope.names:=λz=>by
   have:=S.cells _ z rfl
   lia
  obtain⟨_,hkind⟩:=S.fre _ hmem rfl;obtain⟨m,hn,hl⟩:=I3.loc;obtain⟨u,r,l⟩:=hl j x v hN ev (hkind.elim (λz=>.inr (.inl z)) λz=>.inr (.inr z));refine⟨u,r,.inr ⟨?_,?_⟩⟩
  ·exact ja6 (env:=X.env) hfr
  ·obtain⟨c,hc⟩:=c2 _ hmem rfl;have hc':=c1 _ _ hc;rcases l with⟨z,_⟩|⟨_,c',e,o,ho,hd⟩
   ·lia
   ·have:c'=c:=by lia
    subst this;exact⟨c',B.old x c' hnc hc,o,hk _ _ ho,hd⟩
 ·rcases B.lk x c e with⟨_,_,z⟩|⟨_,z⟩
  ·grind
  ·obtain⟨v,o,ho,hd⟩:=I3.cell x c (c1 x c z);exact⟨v,o,hk _ _ ho,hd⟩
 ·rcases oc x c e with z|z
  ·exact I3.freeC x c z
  ·exact I3.hok.fresh (Yb1 z)
 ·rw[Yai];exact S.len

def jkr     {τ:St}(I3:Inv X pins σ H3 s3)(hf:∀b∈fp,FpOk X pins H3 b)(J:Inv (jaq X N scope cl C s3 H3 fp) pins' τ H' s') :
  Inv X pins σ H' s':=I3.call' J.os J.base J.hok J.bare λb hb=>⟨(hf b hb).2.2.2.1,(hf b hb).2.1,(hf b hb).2.2.2.2.1,(hf b hb).2.2.2.2.2⟩

def jmr                  {τ0:St} 
  (yc:Y.calm=true) (yxe:Y.xe=λ_ _=>False)
  (hct:YeE (.ListComp elt gens scope pos) dp (.ref it) acc Y.env=jdD ip tg ifs (.ref it) Y.env em (.compLoop (.ListComp elt gens scope pos) dp (.ref it) acc Y.env))
  (yg:PG Y tg g) (yi:PIfs Y ifs tt) (ym:PEm Y em tem) (J0:Inv Y pins τ0 H s) (T:Turn Y.prog Y.w Y.K tg J fp it tn) (t0:tn 0 s.heap) (f0:∀b∈fp,FpOk Y pins H b) (hW:jhr J g tt tem QQ τ0 ys0 H) :
  codeAny (model Y.prog Y.w) Y.A (.compLoop (.ListComp elt gens scope pos) dp (.ref it) acc Y.env) (λr s'=>r=.ok .next/\∃τ' ys' H',Inv Y pins τ' H' s'/\QQ τ' ys' H') s:=by
 obtain⟨W,⟨m0,w0⟩,turn⟩:=hW;have stat:∀{H':Hp},(∀b∈fp,H' b=none)->∀b∈fp,FpOk Y pins H' b:=λhn b hb=>⟨hn b hb,(f0 b hb).2⟩;refine jfK (λn s'=>∃i τ ys H',Inv Y pins τ H' s'/\tn i s'.heap/\(∀b∈fp,H' b=none)/\W i n τ ys H') hct ?_ m0 ⟨0,_,ys0,_,J0,t0,λb hb=>(f0 b hb).1,w0⟩;rintro n s4 ⟨i,τ,ys,H4,J4,t4,fr4,w4⟩;rcases turn i n τ ys H4 w4 with⟨stop,q⟩|⟨go,step⟩
 ·refine YaL (T.done Y rfl rfl rfl yc i pins s4 τ H4 (λ_ _=>False) J4 (stat fr4) t4 stop) (λr s5 ⟨hr,J5⟩=>?_) λ_ _ f=>f;subst hr;exact⟨rfl,τ,ys,H4,J5,q⟩
 ·refine YaL (T.item Y rfl rfl rfl yc i pins s4 τ H4 (λ_ _=>False) J4 (stat fr4) t4 go) (λr s5 ⟨u,hr,h5⟩=>?_) λ_ _ f=>f;subst hr;refine YaL h5 (λ_ s6 ⟨x,H6,J6,r6,y6,t6,fr6⟩=>?_) λ_ _ f=>f;have J6':=J6.pinned (stat fr6) (T.obj _ _ t6);have ag:=yg _ s6 τ H6 x u _ J6' r6 (step x H6 y6);rw[yxe]at ag;refine YaL ag (λ_ s7 ⟨τ7,H7,J7,q7⟩=>?_) λ_ _ f=>f;have ai:=yi _ s7 τ7 H7 _ J7 q7;rw[yxe]at ai;refine YaL ai (λok s8 ⟨H8,J8,q8⟩=>?_) λ_ _ f=>f;have again:∀{τ9:St} {H9:Hp} {s9:Shared} {zs:List V},Inv Y (pins++jfk fp s6.heap) τ9 H9 s9->(∃m',m'<n/\W (i+1) m' τ9 zs H9)->∃m,m<n/\∃i τ ys H',Inv Y pins τ H' s9/\tn i s9.heap/\(∀b∈fp,H' b=none)/\W i m τ ys H':=λ{τ9 H9 s9 zs} J9 ⟨m',hm,w9⟩=>by
   refine⟨m',hm,i+1,τ9,zs,H9,J9.unpinned,T.keep _ _ _ t6 λb hb o e=>(J9.pin (b,o) (YaA _ (YaA _ (jbS hb e)))).1,λb hb=>?_,w9⟩;obtain⟨o,e,d⟩:=T.obj _ _ t6 b hb;exact(J9.pin (b,o) (YaA _ (YaA _ (jbS hb e)))).2.1
  cases ok with
  |false=>exact again J8 q8
  |true=>
   have am:=ym _ s8 τ7 ys H8 _ J8 q8;rw[yxe]at am;exact YaL am (λ_ s9 ⟨τ9,zs,H9,J9,q9⟩=>again J9 q9) λ_ _ f=>f
def jk9      (yxe:Y.xe=λ_ _=>False)(he:PE Y elt te):PEm Y (do let _ <- call (.builtin "list.append") [.ref D,<- eval elt Y.env]) (emA te D):=by
 intro pins s τ ys H Q J q;have ae:=he _ s τ H _ J q;refine Yad (YaL ae (λv s9 ⟨z,H9,J9,r9,hD9,hz9,q9⟩=>?_) λ_ _ f=>f);have aa:=jfu (X:=Y) _ s9 τ H9 (.ref D) [z] (.ref D) [v] (λx H'=>H'=upd H9 D (.lst (ys++[z]))) J9 rfl (.cons r9 .nil) ⟨_,ys,z,rfl,rfl,hD9,hz9,rfl⟩;refine Yad (YaL aa (λ_ s10 ⟨_,H10,J10,_,e10⟩=>?_) λ_ _ f=>f);subst e10;exact Yal ⟨τ,_,_,J10,q9⟩
section
variable {tg iter elt:Expr}{ifs:List Expr}
def jg8 {rest:List Yeb}{pos:Pos}{g:TG}{tt:TT}{tem:Addr->TEm}{em:Addr->Env->Sem Unit}{J:It}{fp:List Addr}{it:Addr}{tn:Nat->Heap->Prop}{cl:List (Str×Addr)}{Q:VK}{E:Value->Shared->Prop}{RR:Value->Addr->Result->Shared->Prop}
  (hc:X.calm=true) (S:CScope X N pick scope) (c1:∀x c,cl.lookup x=some c->X.env.cells.lookup x=some c) (c2:∀y∈scope.names,y.2=.free->∃c,cl.lookup y.1=some c)
  (hg:∀cl C s₀ H₀ fp,PG (jaq X N scope cl C s₀ H₀ fp) tg g) (hi:∀cl C s₀ H₀ fp,PIfs (jaq X N scope cl C s₀ H₀ fp) ifs tt) (he:∀D cl C s₀ H₀ fp,PEm (jaq X N scope cl C s₀ H₀ fp) (em D (jaq X N scope cl C s₀ H₀ fp).env) (tem D))
  (hct:∀(it:Value) (D:Addr) (env:Env),YeE (.ListComp elt (⟨tg,iter,ifs,0⟩::rest) scope pos) 0 it (.ref D) env=jdD iter.pos tg ifs it env (em D env) (.compLoop (.ListComp elt (⟨tg,iter,ifs,0⟩::rest) scope pos) 0 it (.ref D) env))
  (I2:Inv X pins σ H s) (T:Turn X.prog X.w X.K tg J fp it tn) (st:tn 0 s.heap) (hf:∀b∈fp,FpOk X pins H b)
  (hW:∀D,H D=none->LcGG J g tt tem D (pick.map λo=>o.bind λj=>(σ[j]?).join) Q H)
  (hRR:∀D C H' s',Inv X pins σ H' s'->(∃m,s'.heap.Ns C m)->FpOk X pins H' C->Q (.ref D) H'->RR (.ref D) C (.ok .next) s') :
  wpAny (model X.prog X.w) X.A (newList []) (λacc s₃=>wpAny (model X.prog X.w) X.A (Ye4 scope X.env.globals cl [] X.env.qual none .none (some X.env)) (λcenv s₄=>
   codeAny (model X.prog X.w) X.A (.compStart (.ListComp elt (⟨tg,iter,ifs,0⟩::rest) scope pos) 0 (.ref it) acc { cenv with scope:=relabel scope X.env }) (RR acc cenv.locals) s₄) E s₃) E s:=by
 have hD:H s.heap.objs.size=none:=I2.hok.fresh (Yab _);have hlt:∀b∈fp,b<s.heap.objs.size:=λb hb=>let ⟨o,e,_⟩:=T.obj _ _ st b hb;Yam e
 refine YaZ (jcg ?_);have I3:Inv X pins σ (upd H s.heap.objs.size (.lst [])) { s with heap:=s.heap.push { cls:=.type "list",dict:=none,data:=.seq ([]:List Value).toArray } }:=
  I2.laid (t':=s.toks) (λb u e=>Yae _ e) (Yab _) ⟨Ya8 _,[],0,.nil,Yau _ rfl⟩
 generalize hs3:({ s with heap:=s.heap.push { cls:=.type "list",dict:=none,data:=.seq ([]:List Value).toArray } }:Shared)=s3 at I3 ⊢
 have hsz:s3.heap.objs.size=s.heap.objs.size+1:=by rw[<- hs3];simp_all
 have hf3:∀b∈fp,FpOk X pins (upd H s.heap.objs.size (.lst [])) b:=λb hb=>⟨by rw[jae (YaM (hlt b hb))];exact(hf b hb).1,(hf b hb).2⟩
 have hsz':(s3.heap.push { cls:=.type "dict",data:=.dict #[] }).objs.size=s3.heap.objs.size+1:=Yeu ..;have hk:∀b o,s3.heap.get? b=some o->(YeQ (s3.heap.push { cls:=.type "dict",data:=.dict #[] }) scope.names).get? b=some o:=λb o e=>pushCells_keeps _ _ b o (Yae _ e);have hns₁:(YeQ (s3.heap.push { cls:=.type "dict",data:=.dict #[] }) scope.names).Ns s3.heap.objs.size λ_=>none:=(Heap.Ns.new s3.heap (.type "dict")).keeps (pushCells_keeps _ _);have B:=jjD (cl:=cl) hsz' S.cells λx c e=>by
  obtain⟨v,z⟩:=I3.cell x c (c1 x c e);exact Yb1 z.lt
 generalize YeQ (s3.heap.push { cls:=.type "dict",data:=.dict #[] }) scope.names=h₁ at hk hns₁ B ⊢;generalize Ya9 (s3.heap.objs.size+1) scope.names cl=cs at B ⊢;have c1':∀x c,cs.lookup x=some c->X.env.cells.lookup x=some c\/s3.heap.objs.size<c:=λx c e=>by
  rcases B.lk x c e with⟨_,z,_⟩|⟨_,z⟩
  ·lia
  simp_all
 have st1:tn 0 h₁:=T.keep _ _ _ st λb _ o e=>hk b o (by rw[<- hs3];exact Yae _ e)
 have IY:Inv (jaq X N scope cs s3.heap.objs.size s3 (upd H s.heap.objs.size (.lst [])) fp) [] (pick.map λo=>o.bind λj=>(σ[j]?).join) (upd H s.heap.objs.size (.lst [])) { s3 with heap:=h₁ }:=
  jh0 (tk:=s3.toks) S I3 hf3 (λb hb=>Yan (hlt b hb) (by lia)) c1 c2 B hns₁ hk
 generalize hY:jaq X N scope cs s3.heap.objs.size s3 (upd H s.heap.objs.size (.lst [])) fp=Y at IY;have yg:PG Y tg g:=hY ▸ hg _ _ _ _ _;have yi:PIfs Y ifs tt:=hY ▸ hi _ _ _ _ _;have ye:PEm Y (em s.heap.objs.size Y.env) (tem s.heap.objs.size):=hY ▸ he _ _ _ _ _ _;have yprog:Y.prog=X.prog:=by rw[<- hY];rfl
 have yw:Y.w=X.w:=by rw[<- hY];rfl
 have yK:Y.K=X.K:=by rw[<- hY];rfl
 have yA:Y.A=X.A:=by rw[<- hY];rfl
 have yc:Y.calm=true:=by rw[<- hY];exact hc
 have yenv:Y.env=compEnvC scope cs s3.heap.objs.size X.env:=by rw[<- hY];rfl
 have yex:∀b,b∈Y.ex↔b∈fp:=λb=>by rw[<- hY];rfl
 have yxe:Y.xe=λ_ _=>False:=by rw[<- hY];rfl
 have ypn:Y.pn=[]:=by rw[<- hY];rfl
 have yfs:∀b,b∈Y.fs->b∈X.env.locals::X.fs:=λb hb=>I3.stkSub b (by rw[<- hY]at hb;exact hb)
 have stat:∀{H':Hp},(∀b∈fp,H' b=none)->∀b∈fp,FpOk Y [] H' b:=λhn b hb=>by
  refine⟨hn b hb,?_,λhm=>?_,.inl ((yex b).mpr hb),λx c e=>?_,λp hp=>?_⟩
  ·rw[yenv];show b≠s3.heap.objs.size
   grind
  ·rcases YaW.mp (yfs b hm)with z|z
   ·exact(hf b hb).2.1 z
   ·exact(hf b hb).2.2.1 z
  ·rw[yenv]at e;rcases c1' x c e with z|z
   ·exact(hf b hb).2.2.2.2.1 x c z
   grind
  simp_all
 have fin:∀{τ:St} {H':Hp} {s':Shared},Inv Y [] τ H' s'->Q (.ref s.heap.objs.size) H'->RR (.ref s.heap.objs.size) s3.heap.objs.size (.ok .next) s':=λ{τ H' s'} J q=>by
  have fr:H' s3.heap.objs.size=none:=by have:=J.free;rw[yenv]at this;exact this
  obtain⟨m,hn,_⟩:=J.loc;rw[yenv]at hn;exact hRR _ _ H' s' (jkr I3 hf3 (hY ▸ J)) ⟨m,hn⟩ (I3.fpOk (Yab _) fr) q
 have hn:∀b∈fp,upd H s.heap.objs.size (.lst []) b=none:=λb hb=>(hf3 b hb).1;have lp:=jmr (pins:=[]) (s:={ s3 with heap:=h₁ }) (acc:=.ref s.heap.objs.size) (ifs:=ifs) (em:=em s.heap.objs.size Y.env) yc yxe (hct (.ref it) s.heap.objs.size Y.env) yg yi ye IY (by lia) st1 (stat hn) (hW _ hD)
 rw[yprog,yw,yA,yenv]at lp;have lp:=YcY lp (R':=RR (.ref s.heap.objs.size) s3.heap.objs.size) λr s' ⟨hr,τ',ys',H',I',q'⟩=>by grind
 show codeAny (model X.prog X.w) X.A (.compStart (.ListComp elt (⟨tg,iter,ifs,0⟩::rest) scope pos) 0 (.ref it) (.ref s.heap.objs.size) (compEnvC scope cs s3.heap.objs.size X.env)) (RR (.ref s.heap.objs.size) s3.heap.objs.size) _;exact codeAny_compStart_list lp (T.self _ 0 _ _ _ st1 lp)

def jnN {pos:Pos}{wi:TI}{g:TG}{tt:TT}{rest:List Yeb}{tem:Addr->TEm}{em:Addr->Env->Sem Unit}(hc:X.calm=true)(S:CScope X N pick scope)(hw:PI X tg iter wi)
  (hg:∀cl C s₀ H₀ fp,PG (jaq X N scope cl C s₀ H₀ fp) tg g) (hi:∀cl C s₀ H₀ fp,PIfs (jaq X N scope cl C s₀ H₀ fp) ifs tt) (he:∀D cl C s₀ H₀ fp,PEm (jaq X N scope cl C s₀ H₀ fp) (em D (jaq X N scope cl C s₀ H₀ fp).env) (tem D))
  (hct:∀(it:Value) (D:Addr) (env:Env),YeE (.ListComp elt (⟨tg,iter,ifs,0⟩::rest) scope pos) 0 it (.ref D) env=jdD iter.pos tg ifs it env (em D env) (.compLoop (.ListComp elt (⟨tg,iter,ifs,0⟩::rest) scope pos) 0 it (.ref D) env))
  (hs:∀x,Ya0 iter X.env x=pure x:=by intro _;rfl):PE X (.ListComp elt (⟨tg,iter,ifs,0⟩::rest) scope pos) (tLcG pick wi g tt tem):=by
 intro pins s σ H Q I h;obtain⟨cl,hclos,c1,c2⟩:=jeM (scope:=scope) (env:=X.env) λy hy hf=>I.ok.has _ (S.fre y hy hf).2;rw[eval_ListComp];refine Yfa (use:=none) rfl hs hclos S.kind S.names (thn (hw pins s σ H _ I h) λv s1 h1=>thn h1 λitv s2 h2=>?_);obtain⟨it,fp,tn,J,H2,e,I2,T,st2,f2,hW⟩:=h2;subst e;refine jg8 (RR:=λacc C=>compPost (model X.prog X.w) X.A X.xe none (EP X pins σ Q) acc C) hc S c1 c2 hg hi he hct I2 T st2 f2 hW λD C H' s' J' ⟨m,hn⟩ fC q=>?_;refine⟨m,hn,λh' hs'=>⟨.ref D,H',?_,rfl,q⟩⟩;exact J'.turned (t':=s'.toks) (it:=C) (λb o hb e=>hs'.extBut b o hb e) fC.1 fC.2.1 fC.2.2.2.1 fC.2.2.2.2.1 fC.2.2.2.2.2

def jnD {pos py spos:Pos}{wi:TI}{g:TG}{tt:TT}{rest:List Yeb}{tem:Addr->TEm}{em:Addr->Env->Sem Unit}{i:Nat}{y:Str}(hN:X.N.Nodup)(hi':X.N[i]?=some y)(hy:X.env.scope.names.lookup y=some .local)(hc:X.calm=true)(S:CScope X N pick scope)(hw:PI X tg iter wi)
  (hg:∀cl C s₀ H₀ fp,PG (jaq X N scope cl C s₀ H₀ fp) tg g) (hi:∀cl C s₀ H₀ fp,PIfs (jaq X N scope cl C s₀ H₀ fp) ifs tt) (he:∀D cl C s₀ H₀ fp,PEm (jaq X N scope cl C s₀ H₀ fp) (em D (jaq X N scope cl C s₀ H₀ fp).env) (tem D))
  (hct:∀(it:Value) (D:Addr) (env:Env),YeE (.ListComp elt (⟨tg,iter,ifs,0⟩::rest) scope pos) 0 it (.ref D) env=jdD iter.pos tg ifs it env (em D env) (.compLoop (.ListComp elt (⟨tg,iter,ifs,0⟩::rest) scope pos) 0 it (.ref D) env))
  (hsw:Ycg (.ListComp elt (⟨tg,iter,ifs,0⟩::rest) scope pos) (some (.Name y py)) spos.line X.env=pure true) (hs:∀x,Ya0 iter X.env x=pure x:=by intro _;rfl) :
  PS X (.Assign [.Name y py] (.ListComp elt (⟨tg,iter,ifs,0⟩::rest) scope pos) spos) (tAsg (tLcG pick wi g tt tem) (jjc i)):=by
 intro pins s σ H D0 I h;obtain⟨cl,hclos,c1,c2⟩:=jeM (scope:=scope) (env:=X.env) λy hy hf=>I.ok.has _ (S.fre y hy hf).2;rw[exec_Assign_Name_used _ _ _ _ hsw];refine Yad (Yb7 (Yad ?_));show wpAny _ _ (do let _ <- comprehension (.ListComp elt (⟨tg,iter,ifs,0⟩::rest) scope pos) scope X.env _ (newList []) false (eval iter X.env) (some (assign (.Name y py) X.env))) _ _ s
 refine Yad (thn (Yfa (use:=some (assign (.Name y py) X.env)) (Q:=λ_ s'=>SP X pins D0 .next s') rfl hs hclos S.kind S.names
  (thn (hw pins s σ H _ I h) λv s1 h1=>thn h1 λitv s2 h2=>?_)) λ_ s' hq=>Yal (Yal hq))
 obtain⟨it,fp,tn,J,H2,e,I2,T,st2,f2,hW⟩:=h2;subst e;refine jg8 (Q:=λx H1=>jjc i x σ H1 D0.nx) (RR:=λacc C=>compPost (model X.prog X.w) X.A X.xe (some (assign (.Name y py) X.env)) (λ_ s'=>SP X pins D0 .next s') acc C) hc S c1 c2 hg hi he hct I2 T st2 f2 hW λD C H' s' J' ⟨m,hn⟩ fC q=>?_
 show wpAny _ _ (assign (.Name y py) X.env (.ref D)) _ _ _;refine wpAny_assign_Name (jfg (v:=.ref D) J' hN hi' (.inl hy) rfl (λs'' J'' ⟨a,sb,ha⟩=>?_) (.inr hy));have hne:C≠a:=by
  rcases ha with z|z
  ·rw[z];exact fC.2.1
  ·exact λe=>fC.2.2.2.2.1 y a z e.symm
 refine⟨m,hn.sameBut sb hne,λh' hs'=>?_⟩;refine⟨_,H',J''.turned (t':=s''.toks) (it:=C) (λb o hb e=>hs'.extBut b o hb e) fC.1 fC.2.1 fC.2.2.2.1 fC.2.2.2.2.1 fC.2.2.2.2.2,q⟩
def jpO {pos:Pos}{wi:TI}{g:TG}{tt:TT}{te:TE}(hc:X.calm=true)(S:CScope X N pick scope)(hw:PI X tg iter wi)
  (hg:∀cl C s₀ H₀ fp,PG (jaq X N scope cl C s₀ H₀ fp) tg g) (hi:∀cl C s₀ H₀ fp,PIfs (jaq X N scope cl C s₀ H₀ fp) ifs tt) (he:∀cl C s₀ H₀ fp,PE (jaq X N scope cl C s₀ H₀ fp) elt te)
  (hs:∀x,Ya0 iter X.env x=pure x:=by intro _;rfl):PE X (.ListComp elt [⟨tg,iter,ifs,0⟩] scope pos) (tLc pick wi g tt te):=
 jnN (em:=λD env=>do let _ <- call (.builtin "list.append") [.ref D,<- eval elt env]) (rest:=[]) hc S hw hg hi (λD cl C s₀ H₀ fp=>jk9 rfl (he cl C s₀ H₀ fp)) (λ_ _ _=>rfl) hs
def jpK {pos:Pos}{wi:TI}{g:TG}{tt:TT}{te:TE}{py spos:Pos}{i:Nat}{y:Str}(hN:X.N.Nodup)(hi':X.N[i]?=some y)(hy:X.env.scope.names.lookup y=some .local)(hc:X.calm=true)(S:CScope X N pick scope)(hw:PI X tg iter wi)
  (hg:∀cl C s₀ H₀ fp,PG (jaq X N scope cl C s₀ H₀ fp) tg g) (hi:∀cl C s₀ H₀ fp,PIfs (jaq X N scope cl C s₀ H₀ fp) ifs tt) (he:∀cl C s₀ H₀ fp,PE (jaq X N scope cl C s₀ H₀ fp) elt te)
  (hsw:Ycg (.ListComp elt [⟨tg,iter,ifs,0⟩] scope pos) (some (.Name y py)) spos.line X.env=pure true) (hs:∀x,Ya0 iter X.env x=pure x:=by intro _;rfl):PS X (.Assign [.Name y py] (.ListComp elt [⟨tg,iter,ifs,0⟩] scope pos) spos) (tAsg (tLc pick wi g tt te) (jjc i)):=
 jnD (em:=λD env=>do let _ <- call (.builtin "list.append") [.ref D,<- eval elt env]) (rest:=[]) hN hi' hy hc S hw hg hi (λD cl C s₀ H₀ fp=>jk9 rfl (he cl C s₀ H₀ fp)) (λ_ _ _=>rfl) hsw hs
end
end

mutual
inductive DV (K:Yac)(H:Hp):V->PyData->Prop
 |non:DV K H .non .none
 |bl (b:Bool):DV K H (.bl b) (.bool b)
 |int (i:Int):DV K H (.int i) (.int i)
 |str (x:Str):DV K H (.str x) (.str x)
 |tup {a:Addr} {xs:List V} {ds:List PyData}:SqT K H a xs->DVs K H xs ds->DV K H (.ref a) (.tuple ds)
 |lst {a:Addr} {xs:List V} {ds:List PyData}:Rd H a (.lst xs)->DVs K H xs ds->DV K H (.ref a) (.list ds)
 |dic {a:Addr}:H a=some (.dK [])->DV K H (.ref a) (.dict [])
inductive DVs (K:Yac)(H:Hp):List V->List PyData->Prop
 |nil:DVs K H [] []
 |cons {x:V} {d:PyData} {xs:List V} {ds:List PyData}:DV K H x d->DVs K H xs ds->DVs K H (x::xs) (d::ds)
end

mutual
noncomputable def noL:PyData->Bool
 |.list _=>false
 |.tuple xs=>noLs xs
 |.dict _=>false
 |.none|.bool _|.int _|.str _=>true
noncomputable def noLs:List PyData->Bool
 |[]=>true
 |x::r=>noL x&&noLs r
end


def Inv.noSys    {σ:St}(I:Inv X pins σ H s)(h:s.heap.get? a=some o)(c:o.cls=.type "list"):Ya3≠a:=λe=>by
 obtain⟨o',l,c'⟩:=I.mod.sys;have:=I.kIn _ _ l
 lia
mutual
theorem DV.reads2 {X:Cx}{pins:List (Addr×Obj)}{σ:St}{H:Hp}{s:Shared}(I:Inv X pins σ H s):∀{x:V} {d:PyData} {u:Value},DV X.K H x d->RelV x u->∃as,Reads s.heap u d as/\Ya3∉as
 |_,_,_,.non,r=>by cases r;exact⟨_,.none,by simp⟩
 |_,_,_,.bl b,r=>by cases r;exact⟨_,.bool b,by simp⟩
 |_,_,_,.int i,r=>by obtain⟨t,rfl⟩:=r;exact⟨_,.int i t,by simp⟩
 |_,_,_,.str x,r=>by obtain⟨t,rfl⟩:=r;exact⟨_,.str x t,by simp⟩
 |_,_,_,.tup e h,r=>by
  cases r
  obtain⟨its,rv,⟨o,ho,hc,n,hd⟩,_⟩:=I.tuple e
  obtain⟨as,q,z⟩:=DVs.reads2 I h rv
  exact⟨_,.tuple ho hc hd q,z⟩
 |_,_,_,@DV.lst _ _ a _ _ e h,r=>by
  cases r
  obtain⟨its,rv,⟨o,n,ho,hc,_,hd⟩,_⟩:=I.list (.inl e)
  obtain⟨as,q,z⟩:=DVs.reads2 I h rv
  refine⟨_,.list ho hc hd q,λhm=>?_⟩
  rcases YaW.mp hm with hm|hm
  ·exact I.noSys ho hc hm
  lia
 |_,_,_,@DV.dic _ _ a e,r=>by
  cases r
  obtain⟨_,hS,vs,kv,o,es,ep,ho,hx,hd,_,hp,_⟩:([]:List (Key×V)).length<=Yag/\(a==Ya3)=false/\∃vs,KV [] vs/\s.heap.DictOf (jas X.prog X.w) a vs:=I.hok a _ e
  have e0:es.toList=[]:=by
   cases kv
   revert hp
   cases es.toList with
   |nil=>lia
   |cons x r=>exact λhp=>(nomatch hp)
  refine⟨_,.dict (kvs:=[]) (as:=[]) (bs:=[]) ho hx.1 hd (by rw[e0];exact .nil) (by rw[e0];exact .nil),λhm=>?_⟩
  simp_all
theorem DVs.reads2 {X:Cx}{pins:List (Addr×Obj)}{σ:St}{H:Hp}{s:Shared}(I:Inv X pins σ H s):∀{xs:List V} {ds:List PyData} {us:List Value},DVs X.K H xs ds->Vals xs us->∃as,ReadsAll s.heap us ds as/\Ya3∉as
 |_,_,_,.nil,r=>by cases r;exact⟨_,.nil,by simp⟩
 |_,_,_,.cons a b,r=>by
  cases r with
  |cons r rr=>
   obtain⟨as,q,z⟩:=DV.reads2 I a r
   obtain⟨bs,q',z'⟩:=DVs.reads2 I b rr
   exact⟨_,.cons q q',by simp_all⟩
end
def DV.reads {X:Cx}{pins:List (Addr×Obj)}{σ:St}{H:Hp}{s:Shared}(I:Inv X pins σ H s){x:V}{d:PyData}{u:Value}(h:DV X.K H x d)(r:RelV x u):∃as,Reads s.heap u d as:=let ⟨as,q,_⟩:=DV.reads2 I h r;⟨as,q⟩
def DVs.reads    {σ:St}(I:Inv X pins σ H s)(h:DVs X.K H xs ds)(r:Vals xs us):∃as,ReadsAll s.heap us ds as:=let ⟨as,q,_⟩:=DVs.reads2 I h r;⟨as,q⟩

structure Fits (n k:Nat)(d:PyData):Prop where
 sh:d.showable=true
 ln:d.shown.length<=n
 dp:d.depth<=k
def jmv   ts:(Str.join ", " ts).length<=piled ts:=by
 rcases Classical.em (ts=[])with rfl|hz
 ·exact Ya8 _
 ·exact Nat.le_of_add_right_le (YdW (join_length_add ts hz))
theorem jdu  : ∀ts k (acc:Str),(textFrom k acc ts).length<=acc.length+piled ts
 |[],_,_=>Yab _
 |t::r,k,acc=>by
  have two:(((if k>0 then ", " else "" : String):Str)).length<=2:=by split<;>decide
  have ih:=jdu r (k+1) (acc++(if k>0 then ", " else "" : String)++t)
  simp only[Yfm]at ih;rw[piled_cons];exact Yah ih (by lia)
def jpF  (K:Yac):List V->Hp->VK->Prop:=λxs H Q=>∃x d,xs=[x]/\DV K H x d/\Fits 16000000 60 d/\Q (.str d.shown) H
def jh1    (hr:Room k X.A):jaN X (.builtin "repr") (jpF X.K):=by
 intro pins s σ H xs us Q I r h;obtain⟨x,d,rfl,dv,ft,q⟩:=h;obtain⟨u,rfl,ru⟩:=jcJ r;have hu:=hr.un;have done:∀(h':Heap) (u':Tok) (tk:Nat),(∀b o,s.heap.get? b=some o->h'.get? b=some o)->EP X pins σ Q (.str d.shown u') { s with heap:=h',toks:=tk }:=λh' u' tk hk=>
  ⟨.str d.shown,H,I.kept (t':=tk) hk,⟨u',rfl⟩,q⟩
 have hz:d.shown.length<=Yag:=Yah ft.ln (by decide)
 cases dv with
 |non=>cases ru;exact P.repr_of_none (done _ _ _ λ_ _ e=>e)
 |bl b=>cases ru;exact P.repr_of_bool (by have:=done s.heap s.toks (s.toks+1) λ_ _ e=>e;simp only[Yb9]at this;lia)
 |int i=>
  obtain⟨t,rfl⟩:=ru;refine P.repr_of_int (by simpa[YcB]using ft.sh) ?_
  have:=done s.heap s.toks (s.toks+1) λ_ _ e=>e;simp only[Yb9]at this
  lia
 |str x=>
  obtain⟨t,rfl⟩:=ru;simp only[Yb9]at hz;refine P.repr_of_str ?_ hz;have:=done s.heap s.toks (s.toks+1) λ_ _ e=>e;simp only[Yb9]at this
  lia
 |@tup a xs ds e hd=>
  obtain⟨as,rd,hsy⟩:=DV.reads2 I (DV.tup e hd) ru;cases ru;exact Ye3 rd ft.sh (λ_=>hsy) hr.gd (by have:=ft.dp;lia) (λ_ _ e=>e) (λh' u' tk hk=>done h' u' tk hk) hz
 |@lst a xs ds e hd=>
  obtain⟨as,rd,hsy⟩:=DV.reads2 I (DV.lst e hd) ru;cases ru;exact Ye3 rd ft.sh (λ_=>hsy) hr.gd (by have:=ft.dp;lia) (λ_ _ e=>e) (λh' u' tk hk=>done h' u' tk hk) hz
 |@dic a e=>
  obtain⟨as,rd,hsy⟩:=DV.reads2 I (DV.dic e) ru;cases ru;exact Ye3 rd ft.sh (λ_=>hsy) hr.gd (by have:=ft.dp;lia) (λ_ _ e=>e) (λh' u' tk hk=>done h' u' tk hk) hz

def Sm  (f:Addr)(H H':Hp):Prop:=∀b o,b≠f->H b=some o->H' b=some o


def jlH  : V->List V->Hp->VK->Prop:=λx vs H Q=>∃l xs i y,x=.ref l/\vs=[.int i,y]/\H l=some (.lst xs)/\0<=i/\i<=xs.length/\xs.length<Yag/\Q .non (upd H l (.lst (xs.take i.toNat++y::xs.drop i.toNat)))
def Vals.ins      (r:Vals xs us)(ry:RelV y u) k:Vals (xs.take k++y::xs.drop k) (us.take k++u::us.drop k):=(Vals.take k r).append (.cons ry (Vals.drop k r))
def jiT  : MtM X "list.insert" jlH:=by
 intro pins s σ H x vs v us Q I rx rv h;obtain⟨l,xs,i,y,rfl,rfl,hH,h1,h2,h3,q⟩:=h;cases rx;obtain⟨u,u',rfl,ru,ru'⟩:=rv.two;obtain⟨t,rfl⟩:=ru;obtain⟨z,its,n,r,hl,e⟩:=I.lstM hH;have hz63:i<2 ^ 63:=by have:=jdP;lia
 refine Ybr F.slot_list_insert ⟨_,e,rfl⟩ F.entry_list_insert (F.args_list_insert_3 _ _ _)
  (AutoSeq1.list_insert_list_int_val_1 l its.toArray n i t u' (by simp[Builtin.List.listFitsIndex];lia) (by simp_all)) ⟨e,?_⟩
 refine⟨.non,_,I.lset (its':=its.take i.toNat++u'::its.drop i.toNat) hH e ?_ (Vals.ins r ru' _) ?_,rfl,q⟩
 ·have hk:(if i<0 then (i+(its.toArray.size:Int)).toNat else min i.toNat its.toArray.size)=i.toNat:=by
   grind
  grind
 ·rw[Yar,YaJ,Ycb,Ycc]
  lia


theorem jch  : ∀{ns } {us },Vals (ns.map V.int) us->∃ys:List (Int×Tok),us=(ys.map λp=>Ydu p.1 p.2)/\ys.map (·.1)=ns
 |[],us,r=>by cases r;simp_all
 |n::ns,us,r=>by
  cases r with
  |cons h r=>
   obtain⟨t,rfl⟩:=h;obtain⟨ys,rfl,e⟩:=jch r;exact⟨(n,t)::ys,rfl,by simp[e]⟩

def jkt  (hc:X.calm=true):jaN X (.builtin "sum") (λxs H Q=>∃(p:Addr) (ns:List Int),xs=[.ref p]/\SqL X.K H p (ns.map V.int)/\Q (.int ns.sum) H):=by
 intro pins s σ H xs us Q I r h;obtain⟨p,ns,rfl,hq,q⟩:=h;obtain⟨u,rfl,rx⟩:=jcJ r;cases rx;obtain⟨its,r',pl,hz⟩:=I.list hq;obtain⟨ys,rfl,e⟩:=jch r';have hl:s.heap.IsList p (intItems ys.toArray):=by
  have:=pl.isList;simpa[intItems]using this
 refine sum_intListG (I.ok.hd hc) hl λh' tk t' k=>⟨.int ns.sum,H,I.kept k,⟨t',?_⟩,q⟩;rw[preSum_eq,YeT (by simp),<- e]

theorem fm_rev  (xs:List Value):∀n,n<=xs.length->(YaO n).filterMap (λk=>xs[xs.length-1-k]?)=(xs.drop (xs.length-n)).reverse
 |0,_=>by simp
 |n+1,h=>by
  rw[Yed,List.filterMap_append,fm_rev xs n (by lia)]
  have hk:xs.length-1-n<xs.length:=by lia
  have:xs.drop (xs.length-(n+1))=xs[xs.length-1-n]::xs.drop (xs.length-n):=by
   rw[show xs.length-(n+1)=xs.length-1-n by lia,YcN hk,show xs.length-1-n+1=xs.length-n by lia]
  simp_all
def jjR  (xs:List Value):Yd0 xs.toArray none none (some (-1))=xs.reverse.toArray:=by
 have e:sliceRange ((xs.length:Int)-1) (-1) (-1)=(YaO xs.length).map λk=>xs.length-1-k:=by
  unfold sliceRange;have hc:(if (-1:Int)>0 then (if (xs.length:Int)-1 < -1 then (-1-((xs.length:Int)-1) + -1-1) / -1 else 0) else (if (xs.length:Int)-1 > -1 then ((xs.length:Int)-1 - -1 - -1-1)/(- -1) else 0)).toNat=xs.length:=by
   rw[if_neg (by lia),show(- -1:Int)=1 from rfl,Ye9]
   split<;>lia
  simp only[hc];refine Ycd λk hk=>?_;have:=List.mem_range.mp hk
  lia
 have b:Ycl none none (some (-1)) xs.toArray.size=((xs.length:Int)-1,-1,-1):=by
  simp[Ycl]
 unfold Yd0;rw[b];simp only;rw[e,Yfy];have:=fm_rev xs xs.length (Yab _);rw[Nat.sub_self,Yet]at this;rw[<- this];congr 1;refine congrArg (λf=>List.filterMap f (YaO xs.length)) (funext λk=>?_);simp
def jkz  (xs:List Value):Yd0 xs.toArray none none (some 1)=xs.toArray:=by
 have:=slicePick_all xs.toArray;unfold Yd0 at this ⊢;exact this
def Vals.rev    (r:Vals xs us):Vals xs.reverse us.reverse:=by
 induction r with
 |nil=>exact .nil
 |cons h r ih=>rw[Ycp,Ycp];exact ih.append (.cons h .nil)

end L2
namespace HT
open PySem PySem.Spec PyProof.Rows

def getItem_tuple_all     {lo hi:Option Int}(ht:IsTup s.heap t items)(hs:s.heap.IsSliceOf sl vl vu .none)(pl:IsPart vl lo)(pu:IsPart vu hi)
  (hw:sIx items.size 0 lo=0/\sIx items.size items.size hi=items.size) (h:Q (.ref t) s):wpAny (model prog w) A (getItem (.ref t) (.ref sl)) Q E s:=by
 obtain⟨os,hos,hcs,hds⟩:=id hs;have hTs:s.TypeIs (.ref sl) "slice" := ⟨os,hos,hcs⟩;unfold getItem
 try with_reducible refine Yb8 ?_
 first|refine Yad (Yal ?_)|skip
 refine Yad (Yeh ht.typeIs (by decide) ?_)
 refine Yad (Yc9 (name:=YbN "__getitem__") ht.typeIs YaT
  (Yex YaT ht.typeIs YdK ?_ (Yd5 _ _)))
 show wpAny _ _ (Ycu (.ref t) >>= _) _ _ s;refine Yad (Yfl ht ?_);refine Yad (Ydr hTs ?_);rw[if_pos (by decide)]
 refine Yad (jbp hs pl pu ?_);have hyes:((((sIx items.size 0 lo:Nat):Int)==0&&(1:Int)==1&&(sIx items.size items.size hi-sIx items.size 0 lo)==items.size)=true):=by
  simp_all
 show wpAny _ _ (if (((sIx items.size 0 lo:Nat):Int)==0&&(1:Int)==1&&(sIx items.size items.size hi-sIx items.size 0 lo)==items.size)=true then _ else _) _ _ s
 rw[if_pos hyes];refine Yad (m:=Ydq (.ref t)) ?_;unfold Ydq;refine Yad (Ydr ht.typeIs (Yal ?_));rw[if_pos (by decide)]
 exact Yad (wpAny_rule (Yal ⟨_,rfl,Yal h⟩))
end HT
namespace L2
open PySem PySem.Spec PyProof.Rows

def rSlW  (K:Yac):V->Option Int->Option Int->Hp->VK->Prop:=λx lo hi H Q=>∃a xs,x=.ref a/\SqT K H a xs/\
 (HT.sIx xs.length 0 lo=0/\HT.sIx xs.length xs.length hi=xs.length)/\Q (.ref a) H
def jly  : SlR X (rSlW X.K):=by
 intro pins s σ H x v vl vu lo hi sl Q I rx hs pl pu h;obtain⟨a,xs,rfl,hx,hw,q⟩:=h;cases rx;obtain⟨its,r,ht,hz⟩:=I.tuple hx;have hlen:its.toArray.size=xs.length:=by rw[Yak];exact r.length.symm
 refine⟨"tuple",_,YaT.lookup,ht.typeIs,?_⟩;exact HT.getItem_tuple_all ht hs pl pu (by lia) ⟨.ref a,H,I,rfl,q⟩
def jlz  : SlR X (λx lo hi H Q=>rSlT X.K x lo hi H Q\/rSlW X.K x lo hi H Q):=SlR.or jnl jly
theorem jdt  : ∀(xs:List V) (us:List Value),xs.length=us.length->(∀(i:Nat) x u ,xs[i]?=some x->us[i]?=some u->RelV x u)->Vals xs us
 |[],[],_,_=>.nil
 |x::xs,u::us,h,g=>.cons (g 0 x u rfl rfl) (jdt xs us (by simpa using h) λi y z hy hz=>g (i+1) y z (by simp_all) (by simp_all))
 |[],_::_,h,_=>by simp at h
 |_::_,[],h,_=>by simp at h
def jjI  (ta:TA):TE:=λσ H Q=>ta σ H λvs H1=>∃j:Int,vs=[.int j]/\0<=j/\j<=1000000/\∀l,H1 l=none->Q (.ref l) (upd H1 l (.lst ((YaO j.toNat).map λk:Nat=>V.int (k:Int))))
section
variable {X:Cx}
def jfl {a:Expr}{ta:TA}{p p2 pos pos2:Pos}(hc:X.calm=true)(hgl:Gl X "list")(hml:X.mg "list" = none)(hgr:Gl X "range")(hmr:X.mg "range" = none)(ha:PA X [a] ta)(hs:Yap [a] X.env=[(false,eval a X.env)]:=by rfl)
  (hs2:Yap [.Call (.Name "range" p2) [a] [] pos2] X.env=[(false,eval (.Call (.Name "range" p2) [a] [] pos2) X.env)]:=by rfl):PE X (.Call (.Name "list" p) [.Call (.Name "range" p2) [a] [] pos2] [] pos) (jjI ta):=by
 intro pins s σ H Q I h;refine Ybl (jdQ I hgl hml boot_list ?_ (by decide) (by decide))
 refine Ybj ?_ hs2 rfl;rw[hs2];refine Yfi (rest:=[]) ?_;refine Call_ (jdQ I hgr hmr boot_range (Ybj (thn (ha pos2 pins s σ H _ I h) λus s1 ⟨vs,H1,I1,r1,q1⟩=>?_) hs rfl));obtain⟨j,e,h0,h1,q⟩:=q1;subst e;cases r1 with
 |cons r rr=>
  cases rr;obtain⟨t,rfl⟩:=r;refine call_range_1 ?_;refine Yal ?_;have I2:Inv X pins σ H1 { s1 with heap:=s1.heap.push { cls:=.type "range",data:=.fields #[.int 0 s1.toks,.int j t,.int 1 (s1.toks+1)] },toks:=s1.toks+1+1 }:=I1.kept λb o e=>Yae _ e
  have hn:YdF 0 j 1=(j.toNat:Nat):=by rw[rangeSize_one];lia
  refine call_list_range (I2.ok.hd hc) (IsRange.new ..) (small_one (by lia) (by lia) (by lia) (by lia)) hn (by lia) λh' tk acc' c' hk hS' hacc=>?_
  have hv:Vals ((YaO j.toNat).map λk:Nat=>V.int (k:Int)) acc'.toList:=jdt _ _ (by simp[hacc.1]) λi x u hx hu=>by
   have hi:i<j.toNat:=by
    grind
   rw[YaD,Ydo hi]at hx;obtain⟨tk',e⟩:=hacc.2 i u (by simp_all)
   cases hx;exact⟨tk',by lia⟩
  have hz:((YaO j.toNat).map λk:Nat=>V.int (k:Int)).length<=Yag:=by
   rw[Yai,List.length_range];exact Yah (show j.toNat<=1000000 by lia) (by decide)
  refine⟨.ref _,_,I2.laid (t':=tk) (o:=.lst ((YaO j.toNat).map λk:Nat=>V.int (k:Int))) hk (Yab _) ?_,rfl,q _ (I2.hok.fresh (Yab _))⟩;exact⟨hz,_,c',hv,hS'⟩
end
end L2
namespace HT
open PySem PySem.Spec PyProof.Rows

def jdk    {n:Nat}(hs:s.heap.IsSliceOf sl .none .none (.int (-1) t))(h:Q ((n:Int)-1,-1,n) s):wpAny (model prog w) A (YbO (.ref sl) (pure (n:Int))) Q E s:=by
 obtain⟨os,hos,hcs,hds⟩:=id hs;unfold YbO Ydx;refine Yad (Yad (YbT hos hds (x:=.none) rfl (Yad (YbT hos hds (x:=.none) rfl (Yad (YbT hos hds (x:=.int (-1) t) rfl (Yal ?_)))))));refine Yad (jbe (.int (-1) t) ?_);show wpAny _ _ (if ((-1:Int)==0)=true then _ else _) _ _ s
 rw[if_neg (by decide)]
 refine Yad (jbe .none (Yad (jbe .none (Yad (Yal ?_)))));have e1:Ybm none none (-1) (n:Int)=((n:Int)-1,-1):=rfl;have e2:YaN ((n:Int)-1) (-1) (-1)=n:=by
  unfold YaN;rw[if_neg (by lia),show(- -1:Int)=1 from rfl,Ye9]
  split<;>lia
 show wpAny _ _ (match Ybm none none (-1) (n:Int)with|(lo,hi)=>pure (lo,(-1:Int),YaN lo hi (-1))) _ _ s
 rw[e1];show wpAny _ _ (pure ((n:Int)-1,(-1:Int),YaN ((n:Int)-1) (-1) (-1))) _ _ s;rw[e2];exact Yal h
def jjZ  (xs:List Value):((YaO xs.length).filterMap λ(k:Nat)=>xs.toArray[((xs.length:Int)-1+(k:Int)*(-1)).toNat]?).toArray=xs.reverse.toArray:=by
 have:=L2.fm_rev xs xs.length (Yab _);rw[Nat.sub_self,Yet]at this;rw[<- this];congr 1;refine congrArg (λf=>List.filterMap f (YaO xs.length)) (funext λk=>?_);rw[show((xs.length:Int)-1+(k:Int)*(-1)).toNat=xs.length-1-k by lia]
 simp
def getItem_tuple_rev   {its:List Value}(ht:IsTup s.heap t its.toArray)(hs:s.heap.IsSliceOf sl .none .none (.int (-1) tk))
  (h:Q (.ref s.heap.objs.size) { s with heap:=s.heap.push { cls:=.type "tuple",data:=.seq its.reverse.toArray } }) (hsz:its.length<=Yag):wpAny (model prog w) A (getItem (.ref t) (.ref sl)) Q E s:=by
 have htake:sizeOk (.seq its.reverse.toArray):=by
  show its.reverse.toArray.size<=Yag
  simp_all
 obtain⟨os,hos,hcs,hds⟩:=id hs;have hTs:s.TypeIs (.ref sl) "slice" := ⟨os,hos,hcs⟩;unfold getItem
 try with_reducible refine Yb8 ?_
 first|refine Yad (Yal ?_)|skip
 refine Yad (Yeh ht.typeIs (by decide) ?_)
 refine Yad (Yc9 (name:=YbN "__getitem__") ht.typeIs YaT
  (Yex YaT ht.typeIs YdK ?_ (Yd5 _ _)))
 show wpAny _ _ (Ycu (.ref t) >>= _) _ _ s;refine Yad (Yfl ht ?_);refine Yad (Ydr hTs ?_);rw[if_pos (by decide)]
 refine Yad (jdk (n:=its.length) hs ?_);have hno:¬((((its.length:Int)-1)==0&&(-1:Int)==1&&its.length==its.toArray.size)=true):=by simp
 show wpAny _ _ (if (((its.length:Int)-1)==0&&(-1:Int)==1&&its.length==its.toArray.size)=true then _ else _) _ _ s
 rw[if_neg hno,jjZ]
 first
  |exact Yad (m:=YaQ _) (YaZ (Yal ⟨_,rfl,Yal h⟩) htake)
  |exact Yad (m:=YaQ _) (YaZ (Yad (Yal (Yal ⟨_,rfl,Yal h⟩))) htake)
  |exact Yad (Yad (m:=YaQ _) (YaZ (Yal (Yal ⟨_,rfl,Yal h⟩)) htake))
  |exact Yad (Yad (m:=YaQ _) (YaZ (Yal ⟨_,rfl,Yal h⟩) htake))
end HT
namespace L2
open PySem PySem.Spec PyProof.Rows


end L2

namespace L2
open PySem PySem.Spec PyProof.Rows

def jpJ  (K:Yac):R2:=λx y H Q=>∃a b xs ys,x=.ref a/\y=.ref b/\SqT K H a xs/\SqT K H b ys/\xs.length+ys.length<=Yag/\
 (xs=[]->Q (.ref b) H)/\(xs≠[]->ys=[]->Q (.ref a) H)/\(xs≠[]->ys≠[]->∀p,H p=none->Q (.ref p) (upd H p (.tup (xs++ys))))
def jl7  : OpR X (Yba .Add) (jpJ X.K):=by
 intro pins s σ H x y v u Q I rx ry h;obtain⟨a,b,xs,ys,rfl,rfl,ha,hb,hz,q0,q1,q2⟩:=h;by_cases hx:xs=[]
 ·cases rx;cases ry;obtain⟨its,r1,p1,_⟩:=I.tuple ha;obtain⟨its2,r2,p2,_⟩:=I.tuple hb;have hv:its=[]:=r1.nil_iff.mpr hx;subst hv;obtain⟨⟨cls,dd,data,sl⟩,ho,hc,n,hd⟩:=id p1;obtain⟨⟨cls2,dd2,data2,sl2⟩,ho2,hc2,n2,hd2⟩:=id p2;simp only at hc hd hc2 hd2;subst hc hd hc2 hd2;exact YfM ⟨_,ho,rfl⟩ ⟨_,ho2,rfl⟩ Yey Yfn YcX YcT (YcJ _ _)
   (tuple_addW0 a b _ its2.toArray n n2 dd dd2 sl sl2 rfl) ⟨ho,ho2,⟨.ref b,H,I,rfl,q0 hx⟩⟩
 ·exact jl6 pins s σ H _ _ _ _ Q I rx ry ⟨a,b,xs,ys,rfl,rfl,ha,hb,hx,hz,q1 hx,q2 hx⟩
def jhD   (hr:Room k X.A):OpR X (YaG .Eq) (λx y H Q=>∃a b xs,x=.ref a/\y=.ref b/\SqT X.K H a xs/\SqT X.K H b []/\Q (.bl xs.isEmpty) H):=by
 intro pins s σ H x y v u Q I rx ry h;obtain⟨a,b,xs,rfl,rfl,ha,hb,q⟩:=h;cases rx;cases ry;obtain⟨its,rv,pa,_⟩:=I.tuple ha;obtain⟨its2,rv2,pb,_⟩:=I.tuple hb;cases rv2;have hu:X.A.units<cLine:=hr.units0;have e:((YaO (min its.toArray.size ([]:List Value).toArray.size)).all (λ_=>true)&&its.toArray.size==([]:List Value).toArray.size)=xs.isEmpty:=by
  cases rv<;>simp
 refine EqBoolInt.of_rc (SeqAt.RcAt.tuples (e:=λ_=>true) (show s.heap.IsTuple a its.toArray from pa) (show s.heap.IsTuple b ([]:List Value).toArray from pb) hu λj _ h2=>?_) ?_
 ·simp at h2
 ·rw[e];exact⟨.bl xs.isEmpty,H,I,rfl,q⟩
def jhB   (hr:Room k X.A):OpR X (YaG .NotEq) (λx y H Q=>∃a b xs,x=.ref a/\y=.ref b/\SqT X.K H a xs/\SqT X.K H b []/\Q (.bl (!xs.isEmpty)) H):=by
 intro pins s σ H x y v u Q I rx ry h;obtain⟨a,b,xs,rfl,rfl,ha,hb,q⟩:=h;cases rx;cases ry;obtain⟨its,rv,pa,_⟩:=I.tuple ha;obtain⟨its2,rv2,pb,_⟩:=I.tuple hb;cases rv2;have hu:X.A.units<cLine:=hr.units0;have pa':s.heap.IsTuple a its.toArray:=pa;have pb':s.heap.IsTuple b ([]:List Value).toArray:=pb;cases rv with
 |nil=>
  refine YcF (Yec (e:=λ_=>true) pa' pb' hu λj h1 _=>?_) ⟨.bl false,H,I,rfl,q⟩;simp at h1
 |cons r rr=>
  refine YcF (Yec (e:=λ_=>true) pa' pb' hu λj _ h2=>?_) ⟨.bl true,H,I,rfl,q⟩;simp at h2




def jnz  (K:Yac)(neg:Bool):R2:=λx y H Q=>∃d e,DV K H x d/\DV K H y e/\d.canLay0=true/\e.canLay0=true/\d.depth<=100/\Q (.bl (if neg then !PyData.eqv d e else YaR d e)) H
def jn2   (hr:Room k X.A):OpR X (YaG .NotEq) (jnz X.K true):=by
 intro pins s σ H x y v u Q I rx ry h;obtain⟨d,e,hd,he,c1,c2,hk,q⟩:=h;obtain⟨as,ra⟩:=hd.reads I rx;obtain⟨bs,rb⟩:=he.reads I ry;exact SeqAt.compareNe_reads ra rb c1 c2 (by have:=hr.un;lia) ⟨.bl _,H,I,rfl,q⟩
def jn8   (hr:Room k X.A):OpR X (YaG .Eq) (jnz X.K false):=by
 intro pins s σ H x y v u Q I rx ry h;obtain⟨d,e,hd,he,c1,c2,hk,q⟩:=h;obtain⟨as,ra⟩:=hd.reads I rx;obtain⟨bs,rb⟩:=he.reads I ry;exact SeqAt.compareEq_reads ra rb c1 c2 (by have:=hr.un;lia) ⟨.bl _,H,I,rfl,q⟩



def jhW  (ds:List PyData):Ydm ds []=ds.isEmpty:=by
 cases ds<;>rfl
def jdl  : fillsNumberSlot (.type "tuple") "mul" = pure false:=
 PySem.fillsNumberSlot_seq (id := "tuple.__mul__") (r:=some (.builtin "tuple.__rmul__")) Yep.lookup (by decide +kernel) F.slot_tuple_rmul.lookup (by decide +kernel)
def jfi  : seqRepeat? (.type "tuple")=pure (some (.builtin "tuple.__mul__")):=by
 unfold seqRepeat?;rw[YfB (T := "tuple") (name := "__mul__") (id := "tuple.__mul__") Yep.lookup (by decide +kernel),YfB (T := "tuple") (name := "__rmul__") (id := "tuple.__rmul__") F.slot_tuple_rmul.lookup (by decide +kernel)]
 rfl
def jeg   a (t:Tok) l items (n:Nat) dd sl :
  Meets (Builtin.«int.__rmul__» ⟨[.int a t,.ref l],[]⟩) (λ_ R s=>s.heap.get? l=some { cls:=.type "tuple",dict:=dd,data:=.seq items n,slots:=sl }/\R (.ok (.ret Value.notImplemented)) s):=
 .of_wp λprog w A R s h=>by obtain⟨hp,g,d,tk,os⟩:=s;obtain⟨hl,h⟩:=h;wp_walk;exact⟨_,rfl,h⟩
def jhu   l (items:Array Value)(n:Nat) dd sl (x:Int)(t:Tok)(hx:2<=x)(hx2:x<2 ^ 62)(h0:items.isEmpty=false)(hsz:items.size*x.toNat<=Yag) :
  Meets (Builtin.«tuple.__mul__» ⟨[.ref l,.int x t],[]⟩)
   (λA R s=>s.heap.get? l=some { cls:=.type "tuple",dict:=dd,data:=.seq items n,slots:=sl }/\R (.ok (.ret (.ref s.heap.objs.size))) { s with heap:=s.heap.push { cls:=.type "tuple",data:=.seq ((Yaa x.toNat items).foldl (·++·) #[]) } }):=
 .of_wp λprog w A R s h=>by
  obtain⟨hp,g,d,tk,os⟩:=s;obtain⟨hl,h⟩:=h;have c1:(decide (x < -2 ^ 63)||decide (x ≥ 2 ^ 63))=false:=by simp;lia
  have c2:(items.isEmpty||x==1)=false:=by rw[h0];simp;lia
  have c3:(decide (x<=0)||items.isEmpty)=false:=by rw[h0];simp;lia
  have hz:(items.size:Int)*x=((items.size*x.toNat:Nat):Int):=by rw[Int.natCast_mul,Int.toNat_of_nonneg (by lia)]
  have h63:(Yag:Nat)<=(2 ^ 63-1)/8:=by decide
  wp_walk using wpAny_loadPart' hl
  simp only[c1,YbV,if_false]
  wp_walk using wpAny_loadPart' hl
  simp only[c2,c3,YbV,if_false];rw[if_neg (by rw[hz];lia)]
  have c4:Ydp ((items.size:Int)*x)=false:=by
   rw[hz];unfold Ydp;exact decide_eq_false (by lia)
  simp only[c4,YbV,if_false];have hs:(YdH (λx1 x2=>x1++x2) #[] (Yaa x.toNat items)).size<=Yag:=by
   rw[AutoListH.size_joined];simp only[Yak,Yb0,YdT];rw[YdU];exact hsz
  revert hs h;generalize YdH (λx1 x2=>x1++x2) #[] (Yaa x.toNat items)=G;intro h hs
  wp_walk
  exact⟨_,rfl,h⟩
def jhw   l (items:Array Value)(n:Nat) dd sl t (h0:items.isEmpty=false) :
  Meets (Builtin.«tuple.__mul__» ⟨[.ref l,.int 0 t],[]⟩)
   (λA R s=>s.heap.get? l=some { cls:=.type "tuple",dict:=dd,data:=.seq items n,slots:=sl }/\R (.ok (.ret (.ref s.heap.objs.size))) { s with heap:=s.heap.push { cls:=.type "tuple",data:=.seq #[] } }):=
 .of_wp λprog w A R s h=>by
  obtain⟨hp,g,d,tk,os⟩:=s;obtain⟨hl,h⟩:=h;have c2:(items.isEmpty||(0:Int)==1)=false:=by rw[h0];rfl
  wp_walk using wpAny_loadPart' hl
  exact⟨_,rfl,h⟩
def jhv   l items (n:Nat) dd sl t :
  Meets (Builtin.«tuple.__mul__» ⟨[.ref l,.int 1 t],[]⟩)
   (λA R s=>s.heap.get? l=some { cls:=.type "tuple",dict:=dd,data:=.seq items n,slots:=sl }/\R (.ok (.ret (.ref l))) s):=
 .of_wp λprog w A R s h=>by
  obtain⟨hp,g,d,tk,os⟩:=s;obtain⟨hl,h⟩:=h;have c1:(decide ((1:Int) < -2 ^ 63)||decide ((1:Int) ≥ 2 ^ 63))=false:=by decide
  have c2:(items.isEmpty||(1:Int)==1)=true:=by simp
  wp_walk using wpAny_loadPart' hl
  exact⟨_,rfl,h⟩

def jpG  (K:Yac):R2:=λx y H Q=>∃l k xs,x=.ref l/\y=.int k/\SqT K H l xs/\xs≠[]/\0<=k/\k<2 ^ 62/\xs.length*k.toNat<=Yag/\(k=1->Q (.ref l) H)/\(k≠1->∀p,H p=none->Q (.ref p) (upd H p (.tup (Yaa k.toNat xs).flatten)))
def jl3  : OpR X (Yba .Mult) (jpG X.K):=by
 intro pins s σ H x y v u Q I rx ry h;obtain⟨l,k,xs,rfl,rfl,hH,h0,h1,h2,hz,q1,q2⟩:=h;cases rx;obtain⟨t,rfl⟩:=ry;obtain⟨its,r,pl,_⟩:=I.tuple hH;have hl:=r.length;obtain⟨⟨cls,dd,data,sl⟩,e,hc,n,hd⟩:=id pl;simp only at hc hd;subst hc hd;have hne:its≠[]:=λz=>h0 (r.nil_iff.mp z);refine Ye2 (T := "tuple") (U := "int") (by decide) ⟨_,e,rfl⟩ (λs'=>Yek s' k t) jdl F.fills_int_mul Ydk jfi F.slot_int_index.lookup
  (Ybr Ydk (Yek s k t) F.entry_int_rmul (F.args_int_rmul_2 _ _) (jeg k t l its.toArray n dd sl) ⟨e,rfl,⟨_,e,rfl⟩,?_⟩)
 by_cases hk:k=1
 ·subst hk;exact Ybr Yep ⟨_,e,rfl⟩ Yea (YdR _ _) (jhv l its.toArray n dd sl t) ⟨e,⟨.ref l,H,I,rfl,q1 rfl⟩⟩
 ·by_cases hk0:k=0
  ·subst hk0;refine Ybr Yep ⟨_,e,rfl⟩ Yea (YdR _ _) (jhw l its.toArray n dd sl t (by simpa using hne)) ⟨e,?_⟩
   refine⟨.ref s.heap.objs.size,_,I.laid (t':=s.toks) (o:=.tup []) (λb ob q=>Yae _ q) (Yab _) ?_,rfl,q2 hk _ (I.hok.fresh (Yab _))⟩;exact⟨Ya8 _,[],.nil,TupD.new _ _⟩
  refine Ybr Yep ⟨_,e,rfl⟩ Yea (YdR _ _) (jhu l its.toArray n dd sl k t (by lia) h2 (by simpa using hne) (by rw[Yak,<- hl];exact hz)) ⟨e,?_⟩
  have f0:=jdX its k.toNat [];rw[Ybn]at f0;rw[f0];refine⟨.ref s.heap.objs.size,_,I.laid (t':=s.toks) (o:=.tup (Yaa k.toNat xs).flatten) (λb ob q=>Yae _ q) (Yab _) ?_,rfl,q2 hk _ (I.hok.fresh (Yab _))⟩;exact⟨by rw[jgl,YdU];exact hz,_,r.rep k.toNat,TupD.new _ _⟩
noncomputable def repS  (x:Str)(k:Nat):Str:=⟨(Yaa k x.cps.toList).flatten.toArray⟩
def jpH  : R2:=λx y H Q=>∃z k,x=.str z/\y=.int k/\0<=k/\k<1000/\z.length<=1000/\Q (.str (repS z k.toNat)) H
theorem jhg  (x:Array Nat):∀k (a:List Nat),((Yaa k x).foldl (·++·) a.toArray)=(a++(Yaa k x.toList).flatten).toArray
 |0,a=>by simp
 |k+1,a=>by
  rw[Ya4,Yef,show a.toArray++x=(a++x.toList).toArray by simp,jhg x k]
  simp[Ya4]
def jl4  : OpR X (Yba .Mult) jpH:=by
 intro pins s σ H x y v u Q I rx ry h;obtain⟨z,k,rfl,rfl,h0,h1,hz,q⟩:=h;obtain⟨t,rfl⟩:=rx;obtain⟨t',rfl⟩:=ry;have hl:z.length*k.toNat<=1000000:=Yah (Nat.mul_le_mul hz (show k.toNat<=1000 by lia)) (by decide)
 refine P.mul_str (by simp;lia) (λh2 _=>?_) (λh2 _=>?_) ?_
 ·have:((2:Int) ^ 63-1)/k ≥ 1000:=by
   refine(Int.le_ediv_iff_mul_le (by lia)).mpr ?_
   lia
  lia
 ·exact decide_eq_false (by
   have:(1000000:Nat)<=Yag:=by decide
   lia)
 ·split
  ·have e:repS z k.toNat=Str.empty:=by rw[show k.toNat=0 by lia];rfl
   rw[e]at q;exact⟨by decide,.str _,H,I.tok _,⟨_,rfl⟩,q⟩
  ·split
   ·rename_i h2 h3;have e:repS z k.toNat=z:=by
     rw[YbD,beq_iff_eq,beq_iff_eq]at h3;unfold repS;rcases h3 with h3|h3
     ·subst h3;simp
     ·have:z.cps.toList=[]:=by
       have:z.cps.size=0:=h3;simpa using this
      obtain⟨c⟩:=z;simp only at this ⊢;have hc:c=#[]:=by simpa using this
      subst hc;simp
    rw[e]at q;exact⟨.str _,H,I,⟨_,rfl⟩,q⟩
   ·have e:(Yaa k.toNat z.cps).foldl (·++·) #[]=(Yaa k.toNat z.cps.toList).flatten.toArray:=by
     have:=jhg z.cps k.toNat [];simpa using this
    refine⟨?_,.str _,H,I.tok _,⟨_,rfl⟩,?_⟩
    ·rw[e];show(Yaa k.toNat z.cps.toList).flatten.toArray.size<=Yag;rw[Yak,jgl,YdU];exact Yah hl (by decide)
    ·rw[e];exact q
theorem jej  : ∀{bs:List Bool} {us } {i:Nat} {v },Vals (bs.map V.bl) us->us[i]?=some v->∃b,bs[i]?=some b/\v=.bool b
 |b::r,_,0,v,.cons e q,h=>by
  cases e;exact⟨b,rfl,(Yas h).symm⟩
 |b::r,_,i+1,v,.cons e q,h=>jej (bs:=r) (i:=i) q (by simpa using h)
 |[],_,i,v,.nil,h=>by simp at h
def jh2    {σ:St}{bs:List Bool}(hc:X.calm=true)(I:Inv X pins σ H s)(hq:SqL X.K H p (bs.map V.bl)) d :
  ∃its fp wr P S,s.heap.IsList p its/\Walks X.prog X.w X.A.in1 s.heap.objs.size fp wr bs.length P S/\S 0 (s.heap.push ⟨.type "list_iterator",none,.fields #[.ref p,.int 0 0],#[]⟩)/\TruthOf X.prog X.w X.A.in1 P (λi=>(bs[i]?).getD d)/\
   ∀h':Heap,(∀b o,b∉wr->(s.heap.push ⟨.type "list_iterator",none,.fields #[.ref p,.int 0 0],#[]⟩).get? b=some o->h'.get? b=some o)->∀b o,s.heap.get? b=some o->h'.get? b=some o:=by
 obtain⟨its,r',pl,-⟩:=I.list hq;have n:its.toArray.size=bs.length:=by simpa using r'.length.symm
 obtain⟨o,ho,-⟩:=id pl.isList;have W:=Walks.list (prog:=X.prog) (w:=X.w) (A:=X.A.in1) (I.ok.hd hc) s.heap.objs.size p (YaM (Yam ho)) its.toArray;rw[n]at W;refine⟨its.toArray,_,_,_,_,pl.isList,W,⟨⟨_,Yau _ rfl,rfl,rfl⟩,pl.isList.push _⟩,λi v t Q E hP hQ=>?_,λh' hk b o e=>hk b o (λm=>?_) (Yae _ e)⟩
 ·obtain⟨b,e,rfl⟩:=jej (i:=i) (v:=v) r' (by simpa using hP)
  exact YaY (by simpa only[e,Option.getD]using hQ)
 ·exact absurd (Yam e) (by rw[List.mem_singleton.mp m];exact Ybe _)

end L2

namespace L2
open PySem PySem.Spec PyProof.Rows
open Sem (wp)
open AutoSeq1 (wpAny_loadPart')



end L2

namespace L2
open PySem PySem.Spec PyProof.Rows

def jgF  : jaN X (.builtin "isinstance") (λxs H Q=>∃(x:V) (c:String) (t:Value) (b:Bool),xs=[x,.ty c]/\TyOf X.K H x t/\Yc6 X.K t (.type c)=some b/\Q (.bl b) H):=by
 intro pins s σ H xs us Q I r h;obtain⟨x,c,t,b,rfl,ty,e,q⟩:=h;obtain⟨u,v,rfl,ru,rv⟩:=Vals.two r;cases rv;exact ji1 I ru ty e λtk=>⟨.bl b,H,I.tok tk,rfl,q⟩




def jgM    (r:Vals vs us){i:Nat}(h:us[i]?=some u):∃v,vs[i]?=some v/\RelV v u:=by
 induction r generalizing i with
 |nil=>cases h
 |cons a r ih=>
  cases i with
  |zero=>exact⟨_,rfl,by cases h;exact a⟩
  |succ i=>exact ih h
end L2

namespace L2
open PySem PySem.Spec PyProof.Rows PySem.W

end L2

namespace L2
open PySem PySem.Spec PyProof.Rows PySem.W
open PySem.AutoSeq1 (wpAny_loadPart')
open PySem.MeetsSeq PySem.MeetsSeq2 PySem.MeetsSeq3
end L2

namespace L2
open PySem PySem.Spec PyProof.Rows PySem.W



section
variable {X:Cx}
def rInD  (X:Cx)(neg:Bool):R2:=λx y H Q=>∃(p:Addr) (vs:List V) (d:PyData) (ds:List PyData),y=.ref p/\(SqL X.K H p vs\/SqT X.K H p vs)/\DV X.K H x d/\DVs X.K H vs ds/\d.canLay0=true/\d.depth<=100/\(∀e∈ds,e.canLay0=true)/\Q (.bl (if neg then !(ds.any λe=>YaR e d) else ds.any λe=>YaR e d)) H
open Classical in
noncomputable def eD (h:Heap)(d:PyData)(w:Value):Bool:=decide (∃e as,e.canLay0=true/\Reads h w e as/\YaR e d=true)
open Classical in
def joR {h:Heap}{d e:PyData}{w:Value}{as:List Addr}(r:Reads h w e as)(c:e.canLay0=true):eD h d w=YaR e d:=by
 unfold eD;cases q:YaR e d with
 |true=>grind
 |false=>
  refine decide_eq_false λ⟨e',as',c',r',q'⟩=>?_;rw[SeqAt.Reads.unique e' e w as' as c' r' r,q]at q';cases q'
theorem ji5 {h:Heap}{d:PyData}:∀{us:List Value} {ds:List PyData} {as:List Addr},ReadsAll h us ds as->(∀e∈ds,e.canLay0=true)->us.any (eD h d)=(ds.any λe=>YaR e d)/\∀w∈us,∃e as,e.canLay0=true/\Reads h w e as
 |_,_,_,.nil,_=>⟨rfl,λw hw=>by simp at hw⟩
 |_,_,_,.cons r rs,c=>by
  obtain⟨h1,h2⟩:=ji5 (d:=d) rs λe he=>c e (Yao _ he);refine⟨by rw[Ybc,Ybc,h1,joR r (c _ YaC)],λw hw=>?_⟩
  rcases YaW.mp hw with rfl|hw
  ·exact⟨_,_,c _ YaC,r⟩
  ·exact h2 w hw
def jhe   {σ:St}(hu:A.units+100<cLine)(I:Inv X pins σ H s)(rx:RelV x u)(hd:DV X.K H x d)(c:d.canLay0=true)(hp:d.depth<=100)(r:Vals vs its)(hv:DVs X.K H vs ds)(cs:∀e∈ds,e.canLay0=true) :
  (∀w,w∈its->Yer A s w u (eD s.heap d w))/\its.any (eD s.heap d)=ds.any λe=>YaR e d:=by
 obtain⟨as,ra⟩:=DVs.reads I hv r;obtain⟨bs,rb⟩:=DV.reads I hd rx;obtain⟨h1,h2⟩:=ji5 (d:=d) ra cs;refine⟨λw hw=>?_,h1⟩;obtain⟨e,as',ce,re⟩:=h2 w hw;rw[joR re ce];exact SeqAt.eqAt_reads _ _ A s _ _ _ _ re rb ce c (YaS (Yfw (Yah (Nat.min_le_right _ _) hp) _) hu)
def jn7   (hr:Room k X.A):OpR X (YaG .In) (rInD X false):=by
 intro pins s σ H x y v u Q I rx ry h;obtain⟨p,vs,d,ds,rfl,hq,hd,hv,c,hp,cs,q⟩:=h;cases ry;rcases hq with hq|hq
 ·obtain⟨its,r,pl,hz⟩:=I.list hq;obtain⟨h1,h2⟩:=jhe (A:=X.A.in1) (by have:=hr.un;lia) I rx hd c hp r hv cs
  refine YfO (eD s.heap d) pl.isList (λw hw=>h1 w (by simp_all)) ⟨.bl _,H,I,rfl,?_⟩
  rw[show its.toArray.any (eD s.heap d)=its.any (eD s.heap d) by simp,h2]
  exact q
 ·obtain⟨its,r,pl,hz⟩:=I.tuple hq;obtain⟨h1,h2⟩:=jhe (A:=X.A.in1) (by have:=hr.un;lia) I rx hd c hp r hv cs
  refine YdL (eD s.heap d) pl (λw hw=>h1 w (by simp_all)) ⟨.bl _,H,I,rfl,?_⟩
  rw[show its.toArray.any (eD s.heap d)=its.any (eD s.heap d) by simp,h2]
  exact q
def jiB   (hr:Room k X.A):OpR X (YaG .NotIn) (rInD X true):=by
 intro pins s σ H x y v u Q I rx ry h;obtain⟨p,vs,d,ds,rfl,hq,hd,hv,c,hp,cs,q⟩:=h;cases ry;rcases hq with hq|hq
 ·obtain⟨its,r,pl,hz⟩:=I.list hq;obtain⟨h1,h2⟩:=jhe (A:=X.A.in1) (by have:=hr.un;lia) I rx hd c hp r hv cs
  refine Yfd (eD s.heap d) pl.isList (λw hw=>h1 w (by simp_all)) ⟨.bl _,H,I,rfl,?_⟩
  rw[show its.toArray.any (eD s.heap d)=its.any (eD s.heap d) by simp,h2]
  exact q
 ·obtain⟨its,r,pl,hz⟩:=I.tuple hq;obtain⟨h1,h2⟩:=jhe (A:=X.A.in1) (by have:=hr.un;lia) I rx hd c hp r hv cs
  refine Ydf (eD s.heap d) pl (λw hw=>h1 w (by simp_all)) ⟨.bl _,H,I,rfl,?_⟩
  rw[show its.toArray.any (eD s.heap d)=its.any (eD s.heap d) by simp,h2]
  exact q
end

theorem jk6   bt:∀k,argBest bt k<=k
 |0=>Yab _
 |k+1=>by
  have:=jk6 bt k;show(if bt (k+1) (argBest bt k) then k+1 else argBest bt k)<=k+1
  lia
theorem jgy  (val:Nat->Int):∀k j,j<=k->val j<=val (argBest (λi j=>decide (val j<val i)) k)
 |0,j,h=>by rw[show j=0 by lia];exact Int.le_refl _
 |k+1,j,h=>by
  show val j<=val (if decide (val (argBest (λi j=>decide (val j<val i)) k)<val (k+1))=true then k+1 else argBest (λi j=>decide (val j<val i)) k)
  by_cases c:val (argBest (λi j=>decide (val j<val i)) k)<val (k+1)
  ·rw[if_pos (by lia)]
   by_cases e:j=k+1
   ·lia
   ·have:=jgy val k j (by lia);lia
  ·rw[if_neg (by lia)]
   by_cases e:j=k+1
   ·lia
   ·exact jgy val k j (by lia)
def jjx  (hc:X.calm=true):jaN X (.builtin "max") (λxs H Q=>∃(p:Addr) (ns:List Int),xs=[.ref p]/\(SqL X.K H p (ns.map V.int)\/SqT X.K H p (ns.map V.int))/\ns≠[]/\∀z∈ns,(∀y∈ns,y<=z)->Q (.int z) H):=by
 intro pins s σ H xs us Q I r h;obtain⟨p,ns,rfl,hq,hn,q⟩:=h;obtain⟨u,rfl,rx⟩:=jcJ r;cases rx;have hn0:0<ns.length:=List.length_pos_iff.mpr hn;have fin:∀{its:List Value} {h':Heap} {tk:Nat},Vals (ns.map V.int) its->∀v,its[argBest (λi j=>decide (ns.getD j 0<ns.getD i 0)) (its.toArray.size-1)]?=some v->(∀b o,s.heap.get? b=some o->h'.get? b=some o)->EP X pins σ Q v { s with heap:=h',toks:=tk }:=λ{its h' tk} r v hv k=>by
  have il:=r.length;rw[Yai]at il;obtain⟨x,ex,rx⟩:=jgM r hv;rw[Yak,<- il]at ex;have hb:=jk6 (λi j=>decide (ns.getD j 0<ns.getD i 0)) (ns.length-1);obtain⟨m,hm⟩:∃m,m=argBest (λi j=>decide (ns.getD j 0<ns.getD i 0)) (ns.length-1):=⟨_,rfl⟩;rw[<- hm]at ex hb;have hml:m<ns.length:=by lia
  rw[YaD,YaB hml]at ex;have ex:=Yas ex;subst ex;refine⟨_,H,I.kept k,rx,q _ (YdX hml) λy hy=>?_⟩;obtain⟨j,hj,rfl⟩:=List.getElem_of_mem hy;have:=jgy (λi=>ns.getD i 0) (ns.length-1) j (by lia)
  rw[<- hm]at this;simpa[Yck,hj,hml]using this
 have val:∀{its:List Value},Vals (ns.map V.int) its->∀i v,its[i]?=some v->∃t,v=Ydu (ns.getD i 0) t:=λ{its} r i v e=>by
  obtain⟨x,ex,rx⟩:=jgM r e;rw[YaD]at ex;cases en:ns[i]? with
  |none=>simp_all
  |some n=>
   rw[en]at ex;cases ex;obtain⟨t,rfl⟩:=rx
   simp_all
 have kp:∀{h':Heap} {o0:Obj},(∀b o,b∉[s.heap.objs.size]->(s.heap.push o0).get? b=some o->h'.get? b=some o)->∀b o,s.heap.get? b=some o->h'.get? b=some o:=λhk b x e=>hk b x (λhm=>by rw[List.mem_singleton.mp hm]at e;exact Ybe _ (Yam e)) (Yae _ e)
 have bd:∀{o0:Obj},p<s.heap.objs.size->∀b∈[s.heap.objs.size,p],b<(s.heap.push o0).objs.size:=λ{o0} hlt b hb=>by
  rw[Yeu]
  grind
 rcases hq with hq|hq
 ·obtain⟨its,r,pl,hz⟩:=I.list hq;have il:=r.length;rw[Yai]at il;have hL:=pl.isList;have hlt:p<s.heap.objs.size:=by obtain⟨_,e,_⟩:=hL;exact Yam e
  refine call_max_walk (Yei hL ?_);exact⟨s.heap.objs.size,[s.heap.objs.size,p],[s.heap.objs.size],its.toArray.size,_,_,_,rfl,Walks.list (A:=X.A.in1) (I.ok.hd hc) _ p (YaM hlt) its.toArray,⟨⟨_,Yau _ rfl,rfl,rfl⟩,hL.push _⟩,bd hlt,by grind,
   CmpOf.ints_gt (λi=>ns.getD i 0) (λi v e=>val r i v (by grind)),λv h' tk hv hk=>fin r v (by grind) (kp hk)⟩
 ·obtain⟨its,r,pl,hz⟩:=I.tuple hq;have il:=r.length;rw[Yai]at il;have hlt:p<s.heap.objs.size:=by obtain⟨_,e,_⟩:=pl;exact Yam e
  refine call_max_walk (wpAny_pyIter_tuple pl ?_);exact⟨s.heap.objs.size,[s.heap.objs.size,p],[s.heap.objs.size],its.toArray.size,_,_,_,rfl,Walks.tuple (A:=X.A.in1) (I.ok.hd hc) _ p (YaM hlt) its.toArray,⟨⟨_,Yau _ rfl,rfl,rfl⟩,pl.push _⟩,bd hlt,by grind,
   CmpOf.ints_gt (λi=>ns.getD i 0) (λi v e=>val r i v (by grind)),λv h' tk hv hk=>fin r v (by grind) (kp hk)⟩
end L2

namespace L2
open PySem PySem.Spec PyProof.Rows




end L2

namespace L2
open PySem PySem.Spec PyProof.Rows PySem.SeqAt PySem.MeetsSeq
def jaU   l es (n:Nat) dd sl b u :
  Meets (Builtin.«dict.__eq__» ⟨[.ref l,.str b u],[]⟩) (λ_ R s=>s.heap.get? l=some { cls:=.type "dict",dict:=dd,data:=.dict es n,slots:=sl }/\R (.ok (.ret .notImplemented)) s):=
 .of_wp λprog w A R s h=>by obtain⟨hp,g,d,tk,os⟩:=s;obtain⟨hl,h⟩:=h;have f1:=F.sub_str_dict;wp_walk using wpAny_loadPart' hl;exact⟨_,rfl,h⟩
def jaT   b u l es (n:Nat) dd sl :
  Meets (Builtin.«str.__eq__» ⟨[.str b u,.ref l],[]⟩) (λ_ R s=>s.heap.get? l=some { cls:=.type "dict",dict:=dd,data:=.dict es n,slots:=sl }/\R (.ok (.ret .notImplemented)) s):=
 .of_wp λprog w A R s h=>by obtain⟨hp,g,d,tk,os⟩:=s;obtain⟨hl,h⟩:=h;wp_walk using wpAny_loadPart' hl,wpAny_load hl;exact⟨_,rfl,h⟩

def jf6         b u (ho:s.heap.get? l=some o)(hc:o.cls=.type "dict")(hd:o.data=.dict es n)(hu:A.units<cLine):RcAt A s (.ref l) (.str b u) false:=λprog w E Q h=>by
 obtain⟨cls,dd,data,sl⟩:=o;simp only at hc hd;subst hc hd;exact rc_eq_decline_or (k:=false) ⟨_,ho,rfl⟩ (YcK s b u) (by decide) F.sub_str_dict F.slot_dict_eq F.slot_str_eq_refl
  (λ_ hq=>Ybr F.slot_dict_eq ⟨_,ho,rfl⟩ F.entry_dict_eq (F.args_dict_eq_2 _ _) (jaU l es n dd sl b u) ⟨ho,hq⟩)
  (λ_ hq=>Ybr F.slot_str_eq_refl (YcK s b u) F.entry_str_eq (F.args_str_eq_2 _ _) (jaT b u l es n dd sl) ⟨ho,hq⟩)
  (λ_ hq=>wpAny_of_eq (rfl:isSame (.ref l) (.str b u)=pure false) hq) (.inr hu) h
def jjS  : R2:=λx y H Q=>∃a z kvs,x=.ref a/\y=.str z/\H a=some (.dK kvs)/\Q (.bl false) H
def jeX   (hr:Room k X.A):OpR X (YaG .Eq) jjS:=by
 intro pins s σ H x y v u Q I rx ry h;obtain⟨a,z,kvs,rfl,rfl,ha,q⟩:=h;cases rx;obtain⟨t,rfl⟩:=ry;obtain⟨_,_,vs,_,o,es,ep,ho,hx,hd,_⟩:kvs.length<=Yag/\(a==Ya3)=false/\∃vs,KV kvs vs/\s.heap.DictOf (jas X.prog X.w) a vs:=I.hok a _ ha;exact jf6 z t ho hx.1 hd (by have:=hr.un;lia) X.prog X.w X.xe _ ⟨.bl false,H,I,rfl,q⟩
def rSlS  : V->Option Int->Option Int->Hp->VK->Prop:=λx lo hi H Q=>∃z,x=.str z/\z.length<=Yag/\Q (.str (Ye5 z lo hi)) H

def jnm  : SlR X rSlS:=by
 intro pins s σ H x v vl vu lo hi sl Q I rx hs pl pu h;obtain⟨z,rfl,hz,q⟩:=h;obtain⟨t,rfl⟩:=rx;refine⟨"str",_,F.slot_str_getitem.lookup,YcK _ _ _,?_⟩;obtain⟨o,ho,hc,hd⟩:=hs;have fin:∀t' k,EP X pins σ Q (.str (Ye5 z lo hi) t') { s with toks:=k }:=λt' k=>⟨.str _,H,I.tok _,⟨_,rfl⟩,q⟩
 cases pl with
 |none=>
  cases pu with
  |none=>exact Ycr (l:=none) (u:=none) (st:=none) ⟨o,ho,hc,hd⟩ rfl (Yds ⟨Yah (YdS z _ _) hz,fin⟩)
  |int j uj=>exact Ycr (l:=none) (u:=some (j,uj)) (st:=none) ⟨o,ho,hc,hd⟩ rfl (Yds ⟨Yah (YdS z _ _) hz,fin⟩)
 |int i ui=>
  cases pu with
  |none=>exact Ycr (l:=some (i,ui)) (u:=none) (st:=none) ⟨o,ho,hc,hd⟩ rfl (Yds ⟨Yah (YdS z _ _) hz,fin⟩)
  |int j uj=>exact Ycr (l:=some (i,ui)) (u:=some (j,uj)) (st:=none) ⟨o,ho,hc,hd⟩ rfl (Yds ⟨Yah (YdS z _ _) hz,fin⟩)
def jl8  : OpR X (Yba .Add) (λx y H Q=>∃b j,x=.bl b/\y=.int j/\Q (.int ((if b=true then (1:Int) else 0)+j)) H):=by
 intro pins s σ H x y v u Q I rx ry h;obtain⟨b,j,rfl,rfl,q⟩:=h;cases rx;obtain⟨t,rfl⟩:=ry;exact PySem.IntBool.add_bool_int ⟨.int _,H,I.tok _,⟨_,rfl⟩,q⟩
def jl2  : OpR X (Yba .Sub) (λx y H Q=>(∃b j,x=.bl b/\y=.int j/\Q (.int ((if b=true then (1:Int) else 0)-j)) H)\/∃i b,x=.int i/\y=.bl b/\Q (.int (i-if b=true then (1:Int) else 0)) H):=by
 intro pins s σ H x y v u Q I rx ry h;rcases h with⟨b,j,rfl,rfl,q⟩|⟨i,b,rfl,rfl,q⟩
 ·cases rx;obtain⟨t,rfl⟩:=ry;exact PySem.IntBool.sub_bool_int ⟨.int _,H,I.tok _,⟨_,rfl⟩,q⟩
 ·cases ry;obtain⟨t,rfl⟩:=rx;exact PySem.IntBool.sub_int_bool ⟨.int _,H,I.tok _,⟨_,rfl⟩,q⟩
def jf3         (h:Q (.str (if b then "True" else "False") s.toks) { s with toks:=s.toks+1 }):wpAny (model prog w) A (call (.type "str") [.bool b]) Q E s:=
 callType_new F.called_str (by decide) (F.typeCall_str_1 _) (F.newCall_str_1 _) (λobj=>F.args_object_init_2 obj _) F.entry_str_new
  (meets_str_new (S:=λ_ R s=>R (.ok (.ret (.str (if b then "True" else "False") s.toks))) { s with toks:=s.toks+1 }) λ_ _ _ _ s hq=>
   wpAny_strOf_gives rfl (PySem.typeIs_bool s b) F.slot_bool_str F.slot_bool_repr F.entry_bool_repr (F.args_bool_repr_1 _) (gives_bool_repr b) hq (hsz:=by cases b<;>decide)) ⟨YcK _ _ _,h⟩
def jju  : jaN X (.type "str") (λxs H Q=>∃b,xs=[.bl b]/\Q (.str (if b=true then "True" else "False")) H):=by
 intro pins s σ H xs us Q I r h;obtain⟨b,rfl,q⟩:=h;obtain⟨u,rfl,r1⟩:=jcJ r;cases r1;exact jf3 ⟨.str _,H,I.tok _,⟨_,rfl⟩,q⟩
def jlG  (K:Yac):R2:=λx y H Q=>∃a z xs,x=.ref a/\y=.str z/\(SqT K H a xs\/SqL K H a xs)/\Q (.bl false) H
def jfo   (hr:Room k X.A):OpR X (YaG .Eq) (jlG X.K):=by
 intro pins s σ H x y v u Q I rx ry h;obtain⟨a,z,xs,rfl,rfl,ha,q⟩:=h;cases rx;obtain⟨t,rfl⟩:=ry;have hu:X.A.units<cLine:=hr.units0;rcases ha with ha|ha
 ·obtain⟨its,rv,pa,_⟩:=I.tuple ha;exact SeqAt.RcAt.tuple_str z t (show s.heap.IsTuple a its.toArray from pa) hu X.prog X.w X.xe _ ⟨.bl false,H,I,rfl,q⟩
 ·obtain⟨its,rv,pa,_⟩:=I.list ha;exact SeqAt.RcAt.list_str z t pa.isList hu X.prog X.w X.xe _ ⟨.bl false,H,I,rfl,q⟩
end L2

namespace L2
open PySem PySem.Spec PyProof.Rows
open AutoSeq1 (wpAny_loadPart')


end L2

namespace L2
open PySem PySem.Spec PyProof.Rows PySem.W
structure Lies (lo:Nat)(pn:List (Addr×Obj))(H:Hp)(h:Heap)(e:Addr)(cls:Value)(dx:Option Addr):Prop where
 ob:∃oe vs,h.get? e=some oe/\oe.cls=cls/\oe.dict=dx/\oe.data=.fields vs/\
  (vs[1]?=some .none\/∃T oT ts,vs[1]?=some (.ref T)/\T≠e/\h.get? T=some oT/\oT.data=.fields ts/\ts[3]?=some .none/\H T=none/\lo<=T/\∀p∈pn,p.1≠T)
 hn:H e=none
 le:lo<=e
 pn:∀p∈pn,p.1≠e

def jcn  {h:Heap} i x (ho:h.get? a=some o)(hd:o.data=.fields vs) :
  (∃o',(h.update a (Ycm (·.setIfInBounds i x))).get? a=some o'/\o'.cls=o.cls/\o'.dict=o.dict/\o'.data=.fields (vs.setIfInBounds i x))/\∀b,b≠a->(h.update a (Ycm (·.setIfInBounds i x))).get? b=h.get? b:=by
 have z:=YfF hd (·.setIfInBounds i x);refine⟨⟨_,Ycw _ ho (Yda z),Obj.cls_mapFields _ _,?_,z⟩,λb hb=>Yc2 _ _ (Ne.symm hb)⟩;unfold Ycm
 lia
def jhj  {s: Shared} 
  (hfr:A.frames=some (env::outer)) (hl:s.heap.FunFrames base (env::outer)) (hf:env.frame=some L) (he:s.heap.get? e=some oe) (hd:oe.data=.fields vs) (hsz:1<vs.size)
  (h:∀(h':Heap) (T:Addr) (oe' oT:Obj) vs' ts ,(∀b o,b∉frs (env::outer)->b≠e->s.heap.get? b=some o->h'.get? b=some o)->(∀b o,b∈frs (env::outer)->b≠e->s.heap.get? b=some o->∃sl,h'.get? b=some { o with slots:=sl })->
   s.heap.objs.size<=T->h'.get? e=some oe'->oe'.cls=oe.cls->oe'.dict=oe.dict->oe'.data=.fields vs'->vs'[1]?=some (.ref T)->h'.get? T=some oT->oT.data=.fields ts->ts[3]?=some .none->Q () { s with heap:=h' }) :
  wpAny M A (do let a <- frameOf env;let pl <- entryPlaceOf L had;let b <- EntryCells.newEntry head a .none (rawInt L) .none pl;setField (.ref e) 1 b) (λ_ s'=>wpAny M A (Yd1 (.ref e) none) Q E s') E s:=by
 have out:e∉frs (env::outer):=λm=>by
  rcases hl.mem m with⟨-,o,ho,no⟩
  simp_all
 refine Yad (wpAny_frameOf_fun hfr hl hf λh1 fs=>Yad (wpAny_entryPlaceOf λpl hpl=>Yad (YaZ ?_ (hpl.sizeOk5 _ _ _ _ _))));have n3:3<([head,.ref L,.none,rawInt L,.none]++(if pl.isEmpty then Yaa 6 Ybs else pl)).toArray.size:=by
  simp_all
 generalize eot:(⟨.type "traceback",none,.fields ([head,.ref L,.none,rawInt L,.none]++(if pl.isEmpty then Yaa 6 Ybs else pl)).toArray,#[]⟩:Obj)=ot
 have dt:ot.data=.fields ([head,.ref L,.none,rawInt L,.none]++(if pl.isEmpty then Yaa 6 Ybs else pl)).toArray:=by lia
 have g1:h1.get? e=some oe:=by rw[fs.2.1 e out,he]
 have new:=Yau h1 (Yda dt);have ne:h1.objs.size≠e:=λz=>Ybe _ (z ▸ Yam g1);obtain⟨⟨o2,g2,c2,d2,v2⟩,r2⟩:=jcn 1 (.ref h1.objs.size) (Yae ot g1) hd;have g2':=(r2 _ ne).trans new;obtain⟨⟨o3,g3,c3,d3,v3⟩,r3⟩:=jcn 3 .none g2' dt;refine Ye1 (Yae ot g1) hd hsz (Yad (YbT g2 v2 (YbY hsz) ?_));rw[if_pos (by rfl)]
 refine Ye1 g2' dt n3 ?_;have keep:∀b o,b≠e->h1.get? b=some o->_:=λb o hb g=>(r3 b (YaM (Yam g))).trans ((r2 b hb).trans (Yae ot g));refine h _ h1.objs.size o2 o3 _ _ (λb o hb hbe g=>keep b o hbe (by rw[fs.2.1 b hb,g])) (λb o _ hbe g=>?_) (YdW fs.1.symm) ((r3 e (Ne.symm ne)).trans g2) c2 d2 v2 (YbY hsz) g3 v3 (YbY n3)
 rcases fs.2.2 b o g with⟨sl,q⟩
 simp_all

def Inv.left  {σ: St}{ch:List Addr}(I:Inv X pins σ H s)(hH:∀b∈ch,H b=none)(hlo:∀b∈ch,X.s₀.heap.objs.size<=b)(hd:∀b∈ch,∃o vs,s.heap.get? b=some o/\o.data=.fields vs)(hp:∀b∈ch,∀p∈X.pn++pins,p.1≠b)
  (k:∀b o,b∉frs X.stack->b∉ch->s.heap.get? b=some o->h'.get? b=some o) (sl:∀b o,b∈frs X.stack->b∉ch->s.heap.get? b=some o->∃t,h'.get? b=some { o with slots:=t }):Inv X pins σ H { s with heap:=h' }:=by
 have u:Un (frs X.stack) ch H H s.heap h':=by
  refine⟨λb o e _ hb hc=>k b o hb hc e,λb o e _ hb hc=>sl b o hb hc e,λ_ _ _ n _=>n,λb o e hc=>?_,λ_ _ e=>e,λ_ _ _ e=>e,λb ps e=>⟨#[],by rw[e];simp⟩⟩
  grind
 have tr:∀b u,H b=some u->b∉frs X.stack/\b∉ch:=λb u e=>⟨λz=>(by rw[I.stkFree b z]at e;cases e),λz=>(by simp_all)⟩
 have hok:HOk X.prog X.w H h':=λa o e=>(I.hok a o e).stay (λb v hb q=>by
  grind) (λ_ q=>q) λ_ _ q=>q
 refine I.call (g':=s.gens) (d':=s.drawn) (t':=s.toks) u hok I.bare λb hb=>⟨.inr (hlo b hb),λz=>?_,λx c e z=>?_,hp b hb⟩
 ·obtain⟨o,vs,g,d⟩:=hd b hb;obtain⟨m,⟨o',_,_,ho,r⟩,_⟩:=I.loc
  lia
 ·obtain⟨o,vs,g,d⟩:=hd b hb;obtain⟨v,o',ho,hc⟩:=I.cell x c e
  lia
def jiW  {σ: St}(I:Inv X [] σ H s)(hst:X.stack=X.env::X.outer)(hf:X.env.frame=some X.env.locals)
  (l:Lies X.s₀.heap.objs.size X.pn H s.heap ea cls dx) (q:∀h',Inv X [] σ H { s with heap:=h' }->Lies X.s₀.heap.objs.size X.pn H h' ea cls dx->Q () { s with heap:=h' }):wpAny M X.A (YfK (.ref ea) X.env) (λ_ s'=>wpAny M X.A (Yd1 (.ref ea) none) Q E s') E s:=by
 obtain⟨oe,vs,he,hc,hdx,hd,ht⟩:=l.ob;have hfr:X.A.frames=some (X.env::X.outer):=by rw[<- hst];exact I.ok.frames
 have hl:s.heap.FunFrames X.base (X.env::X.outer):=by rw[<- hst];exact I.stack
 have pe:∀p∈X.pn++[],p.1≠ea:=λp hp=>l.pn p (by simp_all)
 unfold YfK;simp only[hf];rcases ht with h1|⟨T,oT,ts,h1,hTe,hT,hdT,h3,nT,lT,pT⟩
 ·refine Yad (YbT he hd h1 ?_);rw[if_neg (by decide)]
  refine jhj hfr hl hf he hd (Array.getElem?_eq_some_iff.mp h1).1 λh' T' oe' oT' vs' ts' k sl zT g1 c1 c2 c3 c4 g2 c5 c6=>?_;rw[<- hst]at k sl;have J:Inv X [] σ H { s with heap:=h' }:=I.left (ch:=[ea]) (λb hb=>by rw[List.mem_singleton.mp hb];exact l.hn) (λb hb=>by rw[List.mem_singleton.mp hb];exact l.le) (λb hb=>by simp_all) (λb hb=>by grind)
   (λb o hb hc e=>k b o hb (λz=>hc (by simp[z])) e) λb o hb hc e=>sl b o hb (λz=>hc (by simp[z])) e
  refine q h' J ⟨⟨oe',vs',g1,c1.trans hc,c2.trans hdx,c3,.inr ⟨T',oT',ts',c4,?_,g2,c5,c6,I.hok.fresh zT,Yah I.sz zT,λp hp z=>?_⟩⟩,l.hn,l.le,l.pn⟩
  ·exact λz=>absurd (Yam he) (Nat.not_lt.mpr (z ▸ zT))
  ·exact absurd (Yam (I.pin p (by simp_all)).1) (Nat.not_lt.mpr (z ▸ zT))
 ·have old:(Ybs==rawInt X.env.locals)=false:=rfl;refine Yad (YbT he hd h1 ?_);rw[if_pos (by rfl)]
  refine Yad (YbT hT hdT h3 ?_);rw[old,if_neg Yaj];refine Yad (Ye1 hT hdT (Array.getElem?_eq_some_iff.mp h3).1 ?_);have other:=(jcn 3 .none hT hdT).2;have I1:Inv X [] σ H { s with heap:=s.heap.update T (Ycm (·.setIfInBounds 3 Ybs)) }:=I.left (ch:=[T]) (λb hb=>by simp_all) (λb hb=>by simp_all) (λb hb=>by simp_all) (λb hb p hp=>by grind)
   (λb o _ hc e=>(other b (by simp_all)).trans e) λb o _ hc e=>⟨o.slots,(other b (by simp_all)).trans e⟩
  have he1:=(other ea (Ne.symm hTe)).trans he;have hl1:(s.heap.update T (Ycm (·.setIfInBounds 3 Ybs))).FunFrames X.base (X.env::X.outer):=by rw[<- hst];exact I1.stack
  refine jhj (s:={ s with heap:=s.heap.update T (Ycm (·.setIfInBounds 3 Ybs)) }) hfr hl1 hf he1 hd (Array.getElem?_eq_some_iff.mp h1).1 λh' T' oe' oT' vs' ts' k sl zT g1 c1 c2 c3 c4 g2 c5 c6=>?_
  rw[<- hst]at k sl;have J:Inv X [] σ H { s with heap:=h' }:=Inv.left (s:={ s with heap:=s.heap.update T (Ycm (·.setIfInBounds 3 Ybs)) }) (ch:=[ea]) I1 (λb hb=>by rw[List.mem_singleton.mp hb];exact l.hn) (λb hb=>by rw[List.mem_singleton.mp hb];exact l.le) (λb hb=>by simp_all) (λb hb=>by grind)
   (λb o hb hc e=>k b o hb (λz=>hc (by simp[z])) e) λb o hb hc e=>sl b o hb (λz=>hc (by simp[z])) e
  refine q h' J ⟨⟨oe',vs',g1,c1.trans hc,c2.trans hdx,c3,.inr ⟨T',oT',ts',c4,?_,g2,c5,c6,I1.hok.fresh zT,Yah I1.sz zT,λp hp z=>?_⟩⟩,l.hn,l.le,l.pn⟩
  ·exact λz=>absurd (Yam he1) (Nat.not_lt.mpr (z ▸ zT))
  ·exact absurd (Yam (I1.pin p (by simp_all)).1) (Nat.not_lt.mpr (z ▸ zT))
def CX1  (P:Program)(w:World):CXT:=λouter H s E e s'=>∃(ea:Addr) (H':Hp) (cls:Value) (dx:Option Addr),e=.ref ea/\s'.os=s.os/\AllBare s'.gens/\Un (frs outer) [] H H' s.heap s'.heap/\HOk P w H' s'.heap/\Lies s.heap.objs.size [] H' s'.heap ea cls dx/\E cls dx H'

def CX1.back  {σ: St}(I:Inv X pins σ H s)(h:CX1 X.prog X.w X.stack H s E e s'):∃(ea:Addr) (H':Hp) (cls:Value) (dx:Option Addr),e=.ref ea/\Inv X pins σ H' s'/\Lies X.s₀.heap.objs.size X.pn H' s'.heap ea cls dx/\E cls dx H':=by
 obtain⟨ea,H',cls,dx,rfl,os,bare,un,hok,l,q⟩:=h;have pn:∀b,s.heap.objs.size<=b->∀p∈X.pn,p.1≠b:=λb hb p hp z=>absurd (Yam (I.pin p (YbB _ hp)).1) (Nat.not_lt.mpr (z ▸ hb));refine⟨ea,H',cls,dx,rfl,I.call' (ch:=[]) os un hok bare (λb z=>absurd z (by simp)),⟨?_,l.hn,Yah I.sz l.le,pn ea l.le⟩,q⟩
 obtain⟨oe,vs,he,hc,hdx,hd,ht⟩:=l.ob;refine⟨oe,vs,he,hc,hdx,hd,ht.imp id ?_⟩;rintro⟨T,oT,ts,h1,h2,h3,h4,h5,h6,h7,_⟩;exact⟨T,oT,ts,h1,h2,h3,h4,h5,h6,Yah I.sz h7,pn T h7⟩
end L2

namespace L2
open PySem PySem.Spec PyProof.Rows PySem.W
open Builtin Builtin.ObjectAttr
section
variable {M:Model}{A:Around}{E:Value->Shared->Prop}{h:Heap}{g:Array GenState}{d:Drawn}{t:Nat}{os:OsState}
variable {nm q:Str}{C N D:Addr}{bs bmB:List Value}{hdct:Bool}{sn:List Str}{sub:List Value}{ab:Bool}{col:Option Bool}{dd:Option Addr}{k0 k1 k2 k3 k5:Option Value}{B newId:String}{mN mD:Str->Option Value}{name:Str}
structure Two (h:Heap)(C N D:Addr)(mN mD:Str->Option Value)(bmB:List Value)(newId:String):Prop where
 cls:∃nm q bs sn sub ab col dd k0 k1 k2 k3 k5,h.get? C=some (YcR nm q C N bs (.ref D::bmB) true sn sub ab col dd k0 k1 k2 k3 k5 newId)
 ns:h.Ns N mN
 low:∃c0 dd cd sl,h.get? D=some { cls:=c0,dict:=dd,data:=.cls cd,slots:=sl }/\h.Ns cd.ns mD
def Two.keeps  {h':Heap}(T:Two h C N D mN mD bmB newId)(k:∀b o,h.get? b=some o->h'.get? b=some o):Two h' C N D mN mD bmB newId:=by
 obtain⟨⟨nm,q,bs,sn,sub,ab,col,dd,k0,k1,k2,k3,k5,e⟩,n,c0,dd',cd,sl,e2,n2⟩:=T;exact⟨⟨nm,q,bs,sn,sub,ab,col,dd,k0,k1,k2,k3,k5,k _ _ e⟩,n.keeps k,c0,dd',cd,sl,k _ _ e2,n2.keeps k⟩
def Two.look    (T:Two h C N D mN mD bmB newId)(hB:YaV (.type B) name=pure y)(hm:mroOf (.type B)=pure bmB)(hN:mN name=none)(hD:mD name=none)(hq:Q y ⟨h,g,d,t,os⟩) :
  wpAny M A (YaV (.ref C) name) Q E ⟨h,g,d,t,os⟩:=by
 obtain⟨⟨nm,q,bs,sn,sub,ab,col,dd,k0,k1,k2,k3,k5,e⟩,n,c0,dd',cd,sl,e2,n2⟩:=T;have hr:lookupAlong bmB name=pure y:=by rw[Yfk,hm]at hB;exact hB
 rw[Yfk];refine Yad (YeP e ?_);rw[Yez];refine Yad (wpAny_classOwn_exc e n ?_);rw[hN];show wpAny M A (lookupAlong (.ref D::bmB) name) Q E _;rw[Yez];refine Yad (wpAny_classOwn_cls e2 n2 ?_);rw[hD];show wpAny M A (lookupAlong bmB name) Q E _;rw[hr];exact Yal hq
def Two.own    (T:Two h C N D mN mD bmB newId)(hN:mN name=some v)(hq:Q (some v) ⟨h,g,d,t,os⟩):wpAny M A (YaV (.ref C) name) Q E ⟨h,g,d,t,os⟩:=by
 obtain⟨⟨nm,q,bs,sn,sub,ab,col,dd,k0,k1,k2,k3,k5,e⟩,n,_⟩:=T;rw[Yfk];refine Yad (YeP e ?_);rw[Yez];refine Yad (wpAny_classOwn_exc e n ?_);rw[hN];exact Yal hq
end
section
variable {prog:Program}{w:World}{A:Around}{E:Value->Shared->Prop}{h:Heap}{g:Array GenState}{d:Drawn}{t:Nat}{os:OsState}
variable {C N D x:Addr}{bmB:List Value}{B newId sa owner:String}{mN mD mA:Str->Option Value}{name:Str}{v:Value}
def Two.check      (T:Two h C N D mN mD bmB newId)(SF:Yc4 B bmB sa owner)(hx:h.get? x=some o)(hc:o.cls=.ref C)(hq:Q () ⟨h,g,d,t,os⟩) :
  wpAny M A (Ydb sa ⟨[.ref x,nameV,v],[]⟩) Q E ⟨h,g,d,t,os⟩:=by
 obtain⟨⟨nm,q,bs,sn,sub,ab,col,dd,k0,k1,k2,k3,k5,e⟩,_⟩:=T;have hb:(YaP C::.ref D::bmB).contains (.type owner)=true:=by rw[Ybw,Ybw,SF.hasOwner,Ycx,Ycx]
 have fin:wpAny M A (match YeH sa with|some sig=>Bind.checkArgs sa sig ⟨[.ref x,nameV,v],[]⟩|_=>pure ()) Q E ⟨h,g,d,t,os⟩:=by
  have ok:=SF.args (.ref x) nameV v;unfold argsOk at ok;generalize YeH sa=z at ok ⊢;cases z with
  |some sig=>exact wpAny_of_eq ok hq
  |none=>exact Yal hq
 unfold Ydb;rw[SF.kind,SF.split];refine Yad (m:=Yfb _ _) ?_;unfold Yfb
 repeat (first|(with_reducible refine Yaq hx ?_;rw[hc])|(with_reducible refine YbS e ?_;rw[hb])|wp_step)
 exact fin
def Two.tail  (T:Two h C N D mN mD bmB newId)(hD:mD "__init__" = none):OwnTail h bmB (.ref D::bmB):=by
 obtain⟨_,_,c0,dd',cd,sl,e2,n2⟩:=T;exact .own e2 n2 hD .base
def Two.made   {rest:List Value}{Q:Fin->Shared->Prop}(T:Two h C N D mN mD bmB newId)(F:Yev B newId initId bmB)(hD:mD "__init__" = none)(hi:mN "__init__" = some (.ref fI))(hfI:h.get? fI=some oI)(hfc:oI.cls=.type "function")(hr:rest.length<=Yag)
  (hq:∀h' e,Heap.MadeExcOf h h' e (.ref C) rest->h.objs.size<=e->wpAny (model prog w) A (call (.ref fI) (.ref e::rest)) (λr s'=>r=.none/\Q (.done (.ret (.ref e))) s') E ⟨h',g,d,t,os⟩) :
  wpAny (model prog w) A (Builtin.«type.__call__» ⟨.ref C::rest,[]⟩) Q E ⟨h,g,d,t,os⟩:=by
 have tl:=T.tail hD;obtain⟨nm,q,bs,sn,sub,ab,col,dd,k0,k1,k2,k3,k5,e⟩:=T.cls
 repeat (first|with_reducible refine Yaq e ?_|with_reducible refine wpAny_madeBy_exc e ?_|wp_step)
 refine codeAny_call_builtin_code (Yfz _ F.quiet) (wpAny_check_new_subT F tl e (codeAny_exc_new_subT F tl e ?_ hr));show wpAny _ _ _ _ _ _;generalize hh:(h.push { cls:=.type "tuple",data:=.seq rest.toArray }).push { cls:=.ref C,data:=.fields #[.ref h.objs.size,.none,.none,.none,.bool false,.none] }=h1;have k:∀b o,h.get? b=some o->h1.get? b=some o:=λb o z=>by rw[<- hh];exact Yae _ (Yae _ z)
 have T1:=T.keeps k;have g1:h1.get? (h.objs.size+1)=some { cls:=.ref C,data:=.fields #[.ref h.objs.size,.none,.none,.none,.bool false,.none] }:=by rw[<- hh];heap_get
 have g2:h1.get? h.objs.size=some { cls:=.type "tuple",data:=.seq rest.toArray }:=by rw[<- hh];exact Yae _ (YfH rfl rfl)
 have hc:(YaP C::.ref D::bmB).contains (.ref C)=true:=by simp
 have e1:=k _ _ e;unfold Yfb
 repeat (first|with_reducible refine Yaq g1 ?_|(with_reducible refine YbS e1 ?_;rw[hc])|wp_step)
 show wpAny _ _ (YaV (.ref C) _) _ _ _;refine T1.own hi ?_;refine Yb8 (Yad ?_);unfold bindSpecial;refine Yad (Ydr (T := "function") ⟨_,k _ _ hfI,hfc⟩ ?_);rw[if_pos (by decide)]
 refine Yal (Yad (YaL (hq _ (h.objs.size+1) ⟨k,Yde (Yfv _),h.objs.size,g1,Yde (Yab _),g2⟩ (Yfv _)) (λr s' z=>?_) λ_ _ z=>z));obtain⟨rfl,z⟩:=z
 wp_walk
 exact z
def Two.make   {rest:List Value}{Q:Value->Shared->Prop}(T:Two h C N D mN mD bmB newId)(F:Yev B newId initId bmB)(hD:mD "__init__" = none)(hi:mN "__init__" = some (.ref fI))(hfI:h.get? fI=some oI)(hfc:oI.cls=.type "function")(hr:rest.length<=Yag)
  (hq:∀h' e,Heap.MadeExcOf h h' e (.ref C) rest->h.objs.size<=e->wpAny (model prog w) (A.under (.builtin "type.__call__" ⟨.ref C::rest,[]⟩)) (call (.ref fI) (.ref e::rest)) (λr s'=>r=.none/\Q (.ref e) s') E ⟨h',g,d,t,os⟩) :
  wpAny (model prog w) A (call (.ref C) rest) Q E ⟨h,g,d,t,os⟩:=by
 obtain⟨nm,q,bs,sn,sub,ab,col,dd,k0,k1,k2,k3,k5,e⟩:=T.cls;have f1:=tc_lookup;have f2:=tc_bind (.ref C);have ty:(⟨h,g,d,t,os⟩:Shared).TypeIs (.ref C) "type" := ⟨_,e,rfl⟩;refine Yej (codeAny_of_tree ?_);show wpAny _ _ (callAny (.ref C) _) _ _ _
 repeat (any_goals (first|assumption|with_reducible refine Yaq e ?_|wp_step))
 refine⟨rfl,codeAny_call_builtin_at (Yfz _ (by decide +kernel)) entry_typeCall (wpAny_check_type_call_sub e (T.made (hr:=hr) F hD hi hfI hfc λh' e' hm hz=>?_))⟩
 exact hq h' e' hm hz
structure Reads (B:String)(bmB:List Value):Prop where
 ga:Slot B "__getattribute__" "BaseException.__getattribute__"
 mro:mroOf (.type B)=pure bmB
 no:YaV (.type B) "__getattr__" = pure none
 has:bmB.contains (.type "BaseException")=true
def Two.gaCheck      (T:Two h C N D mN mD bmB newId)(R:Reads B bmB)(hx:h.get? x=some o)(hc:o.cls=.ref C)(hq:Q () ⟨h,g,d,t,os⟩) :
  wpAny M A (Ydb "BaseException.__getattribute__" ⟨[.ref x,nameV],[]⟩) Q E ⟨h,g,d,t,os⟩:=by
 obtain⟨nm,q,bs,sn,sub,ab,col,dd,k0,k1,k2,k3,k5,e⟩:=T.cls;have c1:builtinKind "BaseException.__getattribute__" = some .slot:=by decide +kernel
 have c2:splitId "BaseException.__getattribute__" = some ("BaseException", "__getattribute__"):=by decide +kernel
 have hb:(YaP C::.ref D::bmB).contains (.type "BaseException")=true:=by rw[Ybw,Ybw,R.has,Ycx,Ycx]
 have ha:=F.args_bexc_ga (.ref x) nameV;simp only[Ydb,c1,c2];refine Yad ?_;unfold Yfb
 repeat (first|(with_reducible refine Yaq hx ?_;rw[hc])|(with_reducible refine YbS e ?_;rw[hb])|wp_step)
 exact hq
def Two.gaEntry      (T:Two h C N D mN mD bmB newId)(R:Reads B bmB)(hx:h.get? x=some o)(hc:o.cls=.ref C)(hnc:∀c,o.data≠.cls c)(hd:o.dict=some dx)(hns:h.Ns dx mA)(hv:mA name=some v)
  (hB:YaV (.type B) name=pure none) (n1:mN name=none) (n2:mD name=none) (hq:Q (.done (.ret v)) ⟨h,g,d,t,os⟩) :
  wpAny (model prog w) A (Builtin.«object.__getattribute__» ⟨[.ref x,.str name tk],[]⟩) Q E ⟨h,g,d,t,os⟩:=by
 obtain⟨nm,q,bs,sn,sub,ab,col,dd,k0,k1,k2,k3,k5,e⟩:=T.cls;unfold Builtin.«object.__getattribute__»
 repeat (first|(with_reducible refine Yaq hx ?_;rw[hc])|(with_reducible refine T.look hB R.mro n1 n2 ?_)|wp_step)
 split
 ·rename_i c z;exact absurd z (hnc c)
 unfold instanceDict
 repeat (first|(with_reducible refine Yaq hx ?_;rw[hc])|with_reducible refine Yaq e ?_|wp_step)
 rw[hd]
 repeat (first|(with_reducible refine wpAny_nsGet hns ?_;rw[hv])|wp_step)
 exact hq
def Two.get      (T:Two h C N D mN mD bmB newId)(R:Reads B bmB)(hx:h.get? x=some o)(hc:o.cls=.ref C)(hnc:∀c,o.data≠.cls c)(hd:o.dict=some dx)(hns:h.Ns dx mA)(hv:mA name=some v)(hh:handedOut v=pure v)
  (hB:YaV (.type B) name=pure none) (g1:mN "__getattribute__" = none) (g2:mD "__getattribute__" = none) (a1:mN "__getattr__" = none) (a2:mD "__getattr__" = none) (n1:mN name=none) (n2:mD name=none) (hq:Q v ⟨h,g,d,t+1,os⟩) :
  wpAny (model prog w) A (getAttr (.ref x) name expr) Q E ⟨h,g,d,t,os⟩:=by
 have f3:=R.ga.bind (.ref x);have c0:(expr&&onTheHeap (YcW "BaseException.__getattribute__"))=false:=by cases expr<;>rfl
 have c2:(YcW "BaseException.__getattribute__" == YcW "object.__getattribute__")=false:=by decide +kernel
 have c1:(onTheHeap (YaP C)&&YcW "BaseException.__getattribute__" == YcW "object.__getattribute__")=false:=by rw[c2];rfl
 unfold getAttr
 repeat (any_goals (first|assumption|(with_reducible refine Yaq hx ?_;rw[hc])|(with_reducible refine T.look R.ga.lookup R.mro g1 g2 ?_)|(with_reducible refine T.look R.no R.mro a1 a2 ?_)|wp_step))
 refine YdD R.ga.plain F.entry_bexc_ga (T.gaCheck R hx hc (T.gaEntry R hx hc hnc hd hns hv hB n1 n2 ?_))
 repeat (any_goals (first|assumption|wp_step))
 all_goals first|exact hq|(rw[hh];exact Yal hq)|skip
def jfB {M:Model}{s:Shared}{dx:Addr}{tk:Tok}{mB:Str->Option Value}{ns:List Str}{Q:Fin->Shared->Prop}(n1:s.heap.Ns1 dx mB)(hw:Within mB ns)(hl:ns.length<Yag)
  (hq:∀h' tk',h'.Ns1 dx (λy=>if y=name then some v else mB y)->YdQ dx s.heap h'->Q (.done (.ret .none)) { s with heap:=h',toks:=tk' }) :
  wpAny M A (storeInDict dx (.str name tk) name v) Q E s:=by
 refine Yad (m:=newKeyGuard _ _ _) (Yal (Yad (wpAny_nsSet1 n1 λh' n2 sb=>?_)));rcases n2.count (Within.cons name v hw)with⟨o,es,ep,ho,hd,le⟩;have room:es.size<=Yag:=Yah le (by rw[YaJ];exact hl)
 refine Yad (wpAny_lookBehind ho (hd ▸ pastItsLine_dict (Nat.le_succ_of_le room)) ?_);exact Yal (hq h' _ n2 sb)
def Two.put     {ns:List Str}(T:Two h C N D mN mD bmB newId)(SF:Yc4 B bmB sa owner)(n1:mN name=none)(n2:mD name=none)(hB:YaV (.type B) name=pure none)(hx:h.get? x=some o)(hc:o.cls=.ref C)(hnc:∀c,o.data≠.cls c)
  (hd:(o.dict=none/\∀n,mA n=none)\/∃dx,o.dict=some dx/\dx≠x/\h.Ns1 dx mA) (hw:Within mA ns) (hl:ns.length<Yag)
  (hq:∀h' tk' dx,(o.dict=some dx\/(o.dict=none/\dx=h.objs.size))->dx≠x->h'.get? x=some { o with dict:=some dx }->h'.Ns1 dx (λy=>if y=name then some v else mA y)->(∀b u,b≠x->b≠dx->h.get? b=some u->h'.get? b=some u)->Q (.done (.ret .none)) ⟨h',g,d,tk',os⟩) :
  wpAny (model prog w) A (Builtin.«object.__setattr__» ⟨[.ref x,.str name tk,v],[]⟩) Q E ⟨h,g,d,t,os⟩:=by
 obtain⟨nm,q,bs,sn,sub,ab,col,dd,k0,k1,k2,k3,k5,e⟩:=T.cls;have ps:=SF.passes (.ref x);unfold Builtin.«object.__setattr__»
 repeat (first|rw[refuse_eq]|(rw[refuseLoop_ref,refuseLoop_ref,ps])|(with_reducible refine Yaq hx ?_;rw[hc])|with_reducible refine YeP e ?_|(with_reducible refine T.look hB SF.mro n1 n2 ?_)|with_reducible refine Yaq e ?_|wp_step)
 rcases hd with⟨dn,ma⟩|⟨dx,de,dne,dns⟩
 ·rw[dn,if_neg (by simp[typeHasDict])]
  split
  ·rename_i z;cases z
  split
  ·rename_i c z;exact absurd z (hnc c)
  ·have xs:x≠h.objs.size:=YaM (Yam hx);have x1:=Yae { cls:=.type "dict",data:=.dict #[] } hx;refine Yad (wpAny_alloc' (Yad (wpAny_update' x1 (Yal ?_))));have fr:({ cls:=o.cls,dict:=some h.objs.size,data:=o.data,slots:=o.slots }:Obj).isFreed=false:=by
    have:=(Heap.get?_some_iff.mp hx).2;obtain⟨c1,c2,c3,c4⟩:=o;cases c3<;>first|rfl|exact this
   have x2:=Ycw (λo=>({ cls:=o.cls,dict:=some h.objs.size,data:=o.data,slots:=o.slots }:Obj)) x1 fr;have d2:((h.push { cls:=.type "dict",data:=.dict #[] }).update x λo=>{ cls:=o.cls,dict:=some h.objs.size,data:=o.data,slots:=o.slots }).get? h.objs.size=some { cls:=.type "dict",data:=.dict #[] }:=(Yfh _ _ _ _ xs.symm).trans (YfH rfl rfl);have k2:∀b u,b≠x->h.get? b=some u->((h.push { cls:=.type "dict",data:=.dict #[] }).update x λo=>{ cls:=o.cls,dict:=some h.objs.size,data:=o.data,slots:=o.slots }).get? b=some u:=λb u z e=>(Yfh _ _ _ _ z).trans (Yae _ e);generalize ((h.push { cls:=.type "dict",data:=.dict #[] }).update x λo=>{ cls:=o.cls,dict:=some h.objs.size,data:=o.data,slots:=o.slots })=h2 at x2 d2 k2 ⊢;have nd:h2.Ns h.objs.size (λ_=>none):=⟨_,#[],_,d2,rfl,λe he=>absurd he (by simp),λ_=>rfl⟩
   refine jfB (Heap.Ns1.of_empty nd) Within.nil (Nat.zero_lt_of_lt hl) λh' tk' hn' hs=>?_;refine hq h' tk' h.objs.size (.inr ⟨dn,rfl⟩) xs.symm ((hs.2 x xs).trans x2) ?_ λb u z1 z2 z=>(hs.2 b z2).trans (k2 b u z1 z);obtain⟨o',es,ep,e1,e2,e3,eu,e4⟩:=hn';exact⟨o',es,ep,e1,e2,e3,eu,λy=>by rw[e4 y];by_cases hy:y=name<;>simp[hy,ma]⟩
 ·rw[de];refine Yal (jfB dns hw hl λh' tk' hn' hs=>?_);refine hq h' tk' dx (.inl de) dne ?_ hn' λb u z1 z2 z=>(hs.2 b z2).trans z;rw[hs.2 x dne.symm,hx,<- de]
def Two.set    {ns:List Str}(T:Two h C N D mN mD bmB newId)(SF:Yc4 B bmB sa owner)(s1:mN "__setattr__" = none)(s2:mD "__setattr__" = none)(n1:mN name=none)(n2:mD name=none)(hB:YaV (.type B) name=pure none)(hx:h.get? x=some o)(hc:o.cls=.ref C)(hnc:∀c,o.data≠.cls c)
  (hd:(o.dict=none/\∀n,mA n=none)\/∃dx,o.dict=some dx/\dx≠x/\h.Ns1 dx mA) (hw:Within mA ns) (hl:ns.length<Yag)
  (hq:∀h' tk' dx,(o.dict=some dx\/(o.dict=none/\dx=h.objs.size))->dx≠x->h'.get? x=some { o with dict:=some dx }->h'.Ns1 dx (λy=>if y=name then some v else mA y)->(∀b u,b≠x->b≠dx->h.get? b=some u->h'.get? b=some u)->Q () ⟨h',g,d,tk',os⟩) :
  wpAny (model prog w) A (setAttr (.ref x) name v) Q E ⟨h,g,d,t,os⟩:=by
 have f3:=SF.slot.bind (.ref x);unfold setAttr callSpecial? specialOf
 repeat (any_goals (first|assumption|(with_reducible refine Yaq hx ?_;rw[hc])|(with_reducible refine T.look SF.slot.lookup SF.mro s1 s2 ?_)|wp_step))
 refine YdD SF.slot.plain SF.entry (T.check SF hx hc (T.put SF n1 n2 hB hx hc hnc hd hw hl λh' tk' dx z1 z2 z3 z4 z5=>?_))
 repeat (any_goals (first|assumption|wp_step))
 exact hq h' tk' dx z1 z2 z3 z4 z5
end
def jbq  : Reads "ValueError" [.type "ValueError",.type "Exception",.type "BaseException",.type "object"] where
 ga:=.of (owner := "BaseException") (n := "__getattribute__") (by rw[Ycs,YbA];kernel_rfl) (by decide +kernel) (by decide +kernel) (by decide +kernel)
  (by first|exact .inl (by decide +kernel)|exact .inr (by decide +kernel)) (by rw[isSubtype_type];kernel_rfl)
 mro:=by kernel_rfl
 no:=by rw[Ycs,YbA];kernel_rfl
 has:=by decide

def Inv.sooner  {σ: St}(I:Inv X pins σ H s)(k:∀b o,sb.heap.get? b=some o->X.s₀.heap.get? b=some o)(ho:sb.os=X.s₀.os)(hz:sb.heap.objs.size<=X.s₀.heap.objs.size)(hb:∀b o,X.base.get? b=some o->sb.heap.get? b=some o/\X.H₀ b=none)(hbz:X.base.objs.size<=sb.heap.objs.size)(hf:sb.heap.FunFrames X.base X.outer) :
  Inv { X with s₀:=sb } pins σ H s:=by
 refine⟨⟨I.ok.mod,I.ok.kind,I.ok.glob,I.ok.blt,Yah hz I.ok.above,I.ok.inj,I.ok.has,λx c h e=>Yah hz (I.ok.cab x c h e),I.ok.hd,I.ok.frames,I.ok.stk,I.ok.exf,hb,hbz,I.ok.noex,I.ok.exfs,hf,I.ok.frf⟩,I.os.trans ho.symm,I.bare,(Un.kept k).trans I.base,I.loc,I.cell,I.free,I.freeC,I.pin,I.hok,I.len⟩
def Inv.xput  {σ: St}{e dx:Addr}(I:Inv X pins σ H s)(hH:H e=none)(hlo:X.s₀.heap.objs.size<=e)(ge:s.heap.get? e=some oe)(gd:oe.data=.fields vs)(hp:∀p∈X.pn++pins,p.1≠e)
  (hdx:s.heap.objs.size<=dx\/∃fs0,H dx=some (.xd fs0)) (k:∀b u,b≠e->b≠dx->s.heap.get? b=some u->h'.get? b=some u) (new:jaC X.prog X.w (upd H dx (.xd fs)) h' dx (.xd fs)):Inv X pins σ (upd H dx (.xd fs)) { s with heap:=h',toks:=t' }:=by
 have nt:∀b o,s.heap.get? b=some o->H b=none->b≠dx:=λb o g n z=>by
  rcases hdx with q|⟨fs0,q⟩
  ·rw[z]at g;exact absurd (Yam g) (Nat.not_lt.mpr q)
  ·rw[z,q]at n;cases n
 have ne:∀b u,H b=some u->b≠e:=λb u g z=>by rw[z,hH]at g;cases g
 have nx:∀b u,H b=some u->(∀f0,u≠.xd f0)->b≠dx:=λb u g hu z=>by
  rcases hdx with q|⟨fs0,q⟩
  ·rw[z,I.hok.fresh q]at g;cases g
  ·rw[z,q]at g;cases g;exact hu fs0 rfl
 obtain⟨od,god⟩:∃o,h'.get? dx=some o:=by obtain⟨_,⟨o,_,_,z,_⟩,_⟩:=new;exact⟨o,z⟩
 obtain⟨m0,⟨oL,esL,epL,gL,rL⟩,hLk⟩:=id I.loc;have hLe:X.env.locals≠e:=λz=>by
  rw[z,ge]at gL;cases gL;have:=rL.1;rw[gd]at this;cases this
 refine I.step (g':=s.gens) (d':=s.drawn) (ch:=[e]) (λb hb=>?_) (λb o _ _ hc g n=>k b o (λz=>hc (by simp[z])) (nt b o g n) g) (λb o _ _ hc g n=>⟨o.slots,k b o (λz=>hc (by simp[z])) (nt b o g n) g⟩) (λb o _ g n=>by rw[jae (nt b o g n)];exact n)
  (λb o hc g=>?_) (λb ys g=>by rw[jae (nx b _ g λ_ z=>nomatch z)];exact g) (λb o u g=>by rw[jae (nx b _ g λ_ z=>nomatch z)];exact g) (λb ps g=>⟨#[],by rw[jae (nx b _ g λ_ z=>nomatch z),g];simp⟩) (λm hm=>?_) (λa o g=>?_) I.bare
 ·have z:b=e:=by simpa using hb
  subst z;refine⟨.inr hlo,Ne.symm hLe,λx c q z=>?_,hp⟩;obtain⟨v,o',ho,hc⟩:=I.cell x c q;rw[z,ge]at ho;cases ho;rw[gd]at hc;cases hc
 ·by_cases z:b=dx
  ·exact⟨od,z ▸ god⟩
  ·exact⟨o,k b o (λz=>hc (by simp[z])) z g⟩
 ·obtain⟨o,es,ep,ho,r⟩:=hm;exact⟨o,es,ep,k _ o hLe (nt _ o ho I.free) ho,r⟩
 ·by_cases z:a=dx
  ·subst z;rw[jaj]at g;cases g;exact new
  ·rw[jae z]at g;refine(I.hok a o g).stay (λb v hb q=>?_) (λb q=>by rw[jae (nx b _ q λ_ z=>nomatch z)];exact q) λb ys q=>by rw[jae (nx b _ q λ_ z=>nomatch z)];exact q
   rcases hb with z'|z'
   ·subst z';exact k b v (ne b _ g) z q
   ·exact k b v (ne b _ z') (nx b _ z' λ_ z=>nomatch z) q
theorem jfw   : ∀{fs:List (Str×V)},g∉fs.map (·.1)->fs.lookup g=none
 |[],_=>rfl
 |(a,v)::r,h=>by
  rw[YaU];have:(g==a)=false:=by
   rw[beq_eq_false_iff_ne];exact λz=>h (by rw[z];simp)
  rw[this];exact jfw λz=>h (by simp at z ⊢;exact .inr z)
def xset  {σ: St}(I:Inv X pins σ H s)(T:Two s.heap C N D mN mD bmB newId)(SF:Yc4 B bmB sa owner)
  (s1:mN "__setattr__" = none) (s2:mD "__setattr__" = none) (n1:mN f=none) (n2:mD f=none) (hB:YaV (.type B) f=pure none) (hH:H e=none) (hlo:X.s₀.heap.objs.size<=e) (ge:s.heap.get? e=some oe) (hc:oe.cls=.ref C) (gd:oe.data=.fields vs) (hp:∀p∈X.pn++pins,p.1≠e)
  (hd:(oe.dict=none/\fs=[])\/∃dx,oe.dict=some dx/\H dx=some (.xd fs)) (hl:fs.length<1000) (ru:RelV v u)
  (q:∀s' dx,Inv X pins σ (upd H dx (.xd (putF f v fs))) s'->s'.heap.get? e=some { oe with dict:=some dx }->(∀b u,b≠e->b≠dx->s.heap.get? b=some u->s'.heap.get? b=some u)->(oe.dict=some dx\/(oe.dict=none/\H dx=none))->Q () s') :
  wpAny (model X.prog X.w) A (setAttr (.ref e) f u) Q E s:=by
 have nc:∀c,oe.data≠.cls c:=λc z=>by rw[gd]at z;cases z
 have fin:∀(mA:Str->Option Value) (h':Heap) (tk:Nat) (dx:Addr),(∀g,RelO (fs.lookup g) (mA g))->(s.heap.objs.size<=dx\/∃fs0,H dx=some (.xd fs0))->(oe.dict=some dx\/(oe.dict=none/\H dx=none))->h'.get? e=some { oe with dict:=some dx }->h'.Ns1 dx (λy=>if y=f then some u else mA y)->(∀b u,b≠e->b≠dx->s.heap.get? b=some u->h'.get? b=some u)->Q () { s with heap:=h',toks:=tk }:=λmA h' tk dx r z0 z1 z2 z3 z4=>by
  refine q _ dx (I.xput hH hlo ge gd hp z0 z4 ⟨_,z3,λg=>?_⟩) z2 z4 z1;rw[jdO];by_cases hg:g=f
  ·rw[if_pos hg,if_pos hg];exact ru
  ·rw[if_neg hg,if_neg hg];exact r g
 obtain⟨hh,gg,dr,tk,os⟩:=s;rcases hd with⟨dn,rfl⟩|⟨dx,de,hx⟩
 ·refine T.set (mA:=λ_=>none) (ns:=[]) SF s1 s2 n1 n2 hB ge hc nc (.inl ⟨dn,λ_=>rfl⟩) Within.nil (by rw[YbU];decide) λh' tk' dx z1 z2 z3 z4 z5=>?_
  rcases z1 with z1|⟨_,rfl⟩
  ·rw[dn]at z1;cases z1
  ·exact fin (λ_=>none) h' tk' _ (λg=>YbP) (.inl (Yab _)) (.inr ⟨dn,I.hok.fresh (Yab _)⟩) z3 z4 z5
 ·obtain⟨mA,n,r⟩:=(show jaC X.prog X.w H hh dx (.xd fs)from I.hok dx _ hx);refine T.set (mA:=mA) (ns:=fs.map (·.1)) SF s1 s2 n1 n2 hB ge hc nc (.inr ⟨dx,de,λz=>(by rw[z,hH]at hx;cases hx),n⟩) (λg hg=>?_) (by rw[Yai,YbU];lia) λh' tk' dx' z1 z2 z3 z4 z5=>?_
  ·refine Classical.byContradiction λz=>hg ?_;have:=r g;rw[jfw z]at this;exact RelO.none_of this
  ·rcases z1 with z1|⟨z1,_⟩
   ·have z:dx'=dx:=by rw[de]at z1;exact(Yas z1).symm
    subst z;exact fin _ h' tk' _ r (.inr ⟨fs,hx⟩) (.inl de) z3 z4 z5
   ·rw[de]at z1;cases z1
def xstep  {σ: St}{C N D e:Addr}{f self a:Str}{v:V}{vs:Array Value}{i j:Nat}(I:Inv X [(e,oe)] σ H s)(hpn:X.pn=[])(T:Two X.base C N D mN mD bmB newId)(SF:Yc4 B bmB sa owner)
  (s1:mN "__setattr__" = none) (s2:mD "__setattr__" = none) (n1:mN f=none) (n2:mD f=none) (hB:YaV (.type B) f=pure none) (hlo:X.s₀.heap.objs.size<=e) (hc:oe.cls=.ref C) (gd:oe.data=.fields vs) (hd:(oe.dict=none/\fs=[])\/∃dx,oe.dict=some dx/\H dx=some (.xd fs)) (hl:fs.length<1000)
  (hs:PE X (.Name self p1) (tVar i)) (ha:PE X (.Name a p3) (tVar j)) (hi:σ[i]?=some (some (.ref e))) (hj:σ[j]?=some (some v)) (hsw:Ycg (.Name a p3) (some (.Attribute (.Name self p1) f p2)) pos.line X.env=pure false)
  (q:∀s' dx,Inv X [(e,{ oe with dict:=some dx })] σ (upd H dx (.xd (putF f v fs))) s'->(oe.dict=some dx\/(oe.dict=none/\H dx=none))->Q .next s') :
  wpAny (model X.prog X.w) X.A (exec (.Assign [.Attribute (.Name self p1) f p2] (.Name a p3) pos) X.env) Q X.xe s:=by
 refine plainObj_wpAny_Assign_Attribute (thn (ha _ s σ H (λy H1=>y=v/\H1=H) I ⟨v,hj,rfl,rfl⟩) λu s3 ⟨y,H1,I1,ry,hy,hH1⟩=>?_) hsw;subst hy;subst hH1;refine thn (hs _ s3 σ H1 (λz H2=>z=.ref e/\H2=H1) I1 ⟨_,hi,rfl,rfl⟩) λov s4 ⟨z,H2,I2,rz,hz,hH2⟩=>?_;subst hz;subst hH2;obtain rfl:ov=YaP e:=rz;obtain⟨ge,hH,hL,hfs,hcl⟩:=I2.pin (e,oe) (by simp)
 have J:Inv X [] σ H2 s4:=I2.pins_of λp hp=>absurd hp (by simp)
 refine xset J (T.keeps I2.bk) SF s1 s2 n1 n2 hB hH hlo ge hc gd (λp hp=>by rw[hpn]at hp;simp at hp) hd hl ry λs5 dx J5 g5 k5 z5=>?_
 refine q s5 dx (J5.pins_of λp hp=>?_) z5;obtain rfl:p=(e,{ oe with dict:=some dx }):=by simpa using hp
 refine⟨g5,?_,hL,hfs,λv z=>hcl v z⟩;show upd H2 dx _ e=none;rw[jae,hH];rintro rfl;rcases z5 with z5|z5
 ·rcases hd with⟨w0,_⟩|⟨dx',w1,w2⟩
  ·rw[w0]at z5;cases z5
  ·rw[w1]at z5;cases z5;rw[hH]at w2;cases w2
 ·have:=J5.free;obtain⟨_,_,_⟩:=J5.hok e _ jaj;rename_i mA n r;obtain⟨o',es,ep,g',d',_⟩:=n;rw[g5]at g';cases g';rw[show({ oe with dict:=some e }:Obj).data=oe.data from rfl,gd]at d';cases d'
def jkk {CX:CXT}{P:Program}{w:World}{K:Yac}{mg:Str->Option Value}{base:Heap}{k:Nat}{f:Addr}{name qual:Str}{params:YfW}{body:List Stmt}{scope:Scope}{dV kV doc pm cdv ct oc:Value}{an od:Option Addr}{osl:Array (Option Value)}{N ps:List Str}
  {A:Around} {outer:List Env} {s sb:Shared} {H:Hp} {E:XK} {args:Args} {us:List Value} {vs:List V} {e:Addr} {oe:Obj} {R:Result->Shared->Prop}
  (lk:K.lookup f=some ⟨oc,od,.func (Ya2 name qual params body scope dV kV doc pm an cdv ct),osl⟩) (hcd:Ybu K cdv qual=true) (S:FnScope N ps scope) (hr:Room (k+1) A) (e0:Env0 P w K mg base A outer s H)
  (hb:BindsTo s (Ya2 name qual params body scope dV kV doc pm an cdv ct) args (ps.zip us)) (r:Vals vs us) (hl:vs.length=ps.length) (ge:s.heap.get? e=some oe) (hH:H e=none) (hnc:∀v,oe.data≠.cell v) (hfr:e∉frs outer)
  (kb:∀b o,sb.heap.get? b=some o->s.heap.get? b=some o) (hos:sb.os=s.os) (hz:sb.heap.objs.size<=s.heap.objs.size) (hbs:∀b o,base.get? b=some o->sb.heap.get? b=some o/\H b=none) (hbz:base.objs.size<=sb.heap.objs.size) (hfn:sb.heap.FunFrames base outer)
  (hbody:∀s1,Inv { cxOf CX P w K mg base N qual scope f cdv A outer s H E with s₀:=sb } [(e,oe)] (start N vs) H s1->wpAny (model P w) (A.deeper (envOfC qual scope s.heap.objs.size f cdv)) (execs body (envOfC qual scope s.heap.objs.size f cdv)) (λfl s'=>fl=.next/\R (.ok (.ret .none)) s') (λ_ _=>False) s1) :
  codeAny (model P w) A (.call (.ref f) args) R s:=by
 have KX:K.In s.heap:=e0.mod.kin.keeps λb o z=>(e0.bs b o z).1;have lim:s.heap.NoLimit:=e0.mod.nolimit.keeps λb o z=>(e0.bs b o z).1;have kind:∀y∈ps.zip us,scope.names.lookup y.1=some .local\/(scope.names.lookup y.1=some .cell/\((Ya9 (s.heap.objs.size+1) scope.names []).lookup y.1).isSome=true):=λ⟨n,v⟩ hy=>by
  rcases S.par n (Yci hy).1 with q|q
  ·exact .inl q
  ·exact .inr ⟨q,Ych _ _ _ (.inl q)⟩
 refine Ydt hr.depth (KX _ _ lk) rfl S.co S.gen rfl (Ydg KX hcd) (hb _ _ _ _ ?_);refine YcV S.kind kind λenv he s1 x=>?_;subst he;refine⟨lim.keeps x.toInCall.keep,YfN ?_⟩;have I:Inv (cxOf CX P w K mg base N qual scope f cdv A outer s H E) [] (start N vs) H s1:=jdT S hr.hd e0 hl r x;have I1:Inv { cxOf CX P w K mg base N qual scope f cdv A outer s H E with s₀:=sb } [] (start N vs) H s1:=I.sooner kb hos hz hbs hbz hfn
 have I2:Inv { cxOf CX P w K mg base N qual scope f cdv A outer s H E with s₀:=sb } [(e,oe)] (start N vs) H s1:=I1.pins_of λp hp=>by
  obtain rfl:p=(e,oe):=by simpa using hp
  exact⟨x.toInCall.keep _ _ ge,hH,YaM (Yam ge),hfr,hnc⟩
 refine YaL (hbody s1 I2) (λfl s' ⟨z,h⟩=>?_) λ_ _ z=>z.elim;subst z;exact h

def jfX  (X:Cx)(C:Addr)(s:Shared)(H:Hp)(Nm:List Str)(qual:Str)(scope:Scope)(fI:Addr)(cdv:Value)(body:List Stmt)(vs:List V)(fs:List (Str×V)):Prop:=
 ∀(A':Around) (sM s1:Shared) (e t:Addr),Inv { cxOf (CX1 X.prog X.w) X.prog X.w X.K X.mg X.base Nm qual scope fI cdv A' X.stack sM H (λ_ _ _=>False)with s₀:=s } [(e,{ cls:=.ref C,data:=.fields #[.ref t,.none,.none,.none,.bool false,.none] })] (start Nm (.ref e::vs)) H s1->s.heap.objs.size<=e->
  wpAny (model X.prog X.w) (A'.deeper (envOfC qual scope sM.heap.objs.size fI cdv)) (execs body (envOfC qual scope sM.heap.objs.size fI cdv)) (λfl s'=>fl=.next/\∃dx,H dx=none/\Inv { cxOf (CX1 X.prog X.w) X.prog X.w X.K X.mg X.base Nm qual scope fI cdv A' X.stack sM H (λ_ _ _=>False)with s₀:=s } [(e,{ cls:=.ref C,dict:=some dx,data:=.fields #[.ref t,.none,.none,.none,.bool false,.none] })] (start Nm (.ref e::vs)) (upd H dx (.xd fs)) s') (λ_ _=>False) s1
def xmake  {σ: St}{dV kV doc pm cdv ct:Value} 
  (I:Inv X pins σ H s) (T:Two X.base C N D mN mD bmB newId) (F:Yev B newId initId bmB) (hD:mD "__init__" = none) (hi:mN "__init__" = some (.ref fI)) (lk:X.K.lookup fI=some ⟨.type "function",od,.func (Ya2 name qual params body scope dV kV doc pm an cdv ct),osl⟩) (hcd:Ybu X.K cdv qual=true) (S:FnScope Nm ps scope) (hr:Room (k+2) X.A)
  (hb:Binds X.K (Ya2 name qual params body scope dV kV doc pm an cdv ct) ps []) (r:Vals vs us) (hl:vs.length+1=ps.length) (hz:us.length<=Yag) (hbody:jfX X C s H Nm qual scope fI cdv body vs fs)
  (q:∀e dx s',H dx=none->Inv X pins σ (upd H dx (.xd fs)) s'->Lies X.s₀.heap.objs.size X.pn (upd H dx (.xd fs)) s'.heap e (.ref C) (some dx)->(∃t,s'.heap.get? e=some { cls:=.ref C,dict:=some dx,data:=.fields #[.ref t,.none,.none,.none,.bool false,.none] })->Q (.ref e) s'):wpAny (model X.prog X.w) X.A (call (.ref C) us) Q X.xe s:=by
 obtain⟨hh,gg,dr,tk,os⟩:=s;have I0:=I;refine(T.keeps I.bk).make F hD hi (I.kIn _ _ lk) rfl hz λh' e hm he=>?_;obtain⟨t,ge,_,_⟩:=hm.there;have e0:=I.env0.make C us [];have e1:Env0 X.prog X.w X.K X.mg X.base (X.A.under (.builtin "type.__call__" ⟨.ref C::us,[]⟩)) X.stack ⟨h',gg,dr,tk,os⟩ H:=⟨e0.frames,e0.mod,λb o z=>⟨hm.keeps _ _ (e0.bs b o z).1,(e0.bs b o z).2⟩,Yah e0.bsz (Yb1 (YaS he (Yam ge))),e0.funs.of_keeps λb o z _=>⟨o,hm.keeps _ _ z,rfl⟩,e0.frf,e0.hok.kept hm.keeps,e0.bare⟩;have hH:H e=none:=I.hok.fresh he;refine Yej ?_;refine jkk (k:=k) (CX:=CX1 X.prog X.w) (E:=λ_ _ _=>False) (sb:=⟨hh,gg,dr,tk,os⟩) (us:=.ref e::us) (vs:=.ref e::vs) lk hcd S (hr.make C us []) e1 ?_ (.cons rfl r) (by simpa using hl) ge hH (λv z=>by cases z) (λz=>?_) hm.keeps rfl (Yb1 (YaS he (Yam ge))) e0.bs e0.bsz e0.funs λs1 J=>?_
 ·have:=hb ⟨h',gg,dr,tk,os⟩ (.ref e::us) (e1.mod.kin.keeps λb o z=>(e1.bs b o z).1) (by simp;have:=r.length;lia)
  simpa using this
 ·obtain⟨_,o,ho,_⟩:=e0.funs.mem z;exact absurd (Yam ho) (Nat.not_lt.mpr he)
 ·refine YaL (hbody _ _ s1 e t J he) (λfl s' ⟨z,dx,hdx,J'⟩=>⟨z,rfl,?_⟩) λ_ _ z=>z;have Ix:Inv X pins σ (upd H dx (.xd fs)) s':=I.call' (ch:=[]) J'.os J'.base J'.hok J'.bare λb z=>absurd z (by simp)
  obtain⟨g1,g2,_⟩:=J'.pin _ (YaA _ (List.mem_singleton.mpr rfl));refine q e dx s' hdx Ix ⟨⟨_,_,g1,rfl,rfl,rfl,.inl rfl⟩,g2,Yah I.sz he,λp hp z=>?_⟩ ⟨t,g1⟩;exact absurd (Yam (I.pin p (YbB _ hp)).1) (Nat.not_lt.mpr (z ▸ he))

def jp9  {pos: Pos}{v: V}(T:Two X.base C N D mN mD bmB newId)(SF:Yc4 B bmB sa owner)(s1:mN "__setattr__" = none)(s2:mD "__setattr__" = none)(n1:mN f=none)(n2:mD f=none)(hB:YaV (.type B) f=pure none)
  (h0:Vis scope self) (h1:Vis scope a) (d0:(self==("__debug__" : Str))=false) (d1:(a==("__debug__" : Str))=false) (c0:(self==("__classdict__" : Str))=false) (c1:(a==("__classdict__" : Str))=false)
  (sw:∀env,Ycg (.Name a p3) (some (.Attribute (.Name self p1) f p2)) pos.line env=pure false) :
  jfX X C s H [self,a] qual scope fI cdv [.Assign [.Attribute (.Name self p1) f p2] (.Name a p3) pos] [v] [(f,v)]:=by
 intro A' sM s1' e t J he;have J':=J.wish λ_ _=>False;refine YbW (xstep (X:=Cx.wish _ λ_ _=>False) (i:=0) (j:=1) (fs:=[]) J' rfl T SF s1 s2 n1 n2 hB he rfl rfl (.inl ⟨rfl,rfl⟩) (by decide) (jbC rfl h0 d0 c0) (jbC rfl h1 d1 c1) rfl rfl (sw _) λs' dx K z=>?_)
 refine Yal ⟨rfl,dx,?_,K.unwish⟩;rcases z with z|z
 ·cases z
 ·exact z.2
def jp8  {a2: Str}{scope: Scope}{cdv: Value}{p1: Pos}{p2: Pos}{p3: Pos}{pos: Pos}{q1: Pos}{q2: Pos}{q3: Pos}{qos: Pos}{v: V}{v2: V}(T:Two X.base C N D mN mD bmB newId)(SF:Yc4 B bmB sa owner)(s1:mN "__setattr__" = none)(s2:mD "__setattr__" = none)(n1:mN f=none)(n2:mD f=none)(hB:YaV (.type B) f=pure none)(m1:mN f2=none)(m2:mD f2=none)(hB2:YaV (.type B) f2=pure none)(hne:f≠f2)
  (h0:Vis scope self) (h1:Vis scope a) (h2:Vis scope a2) (d0:(self==("__debug__" : Str))=false) (d1:(a==("__debug__" : Str))=false) (d2:(a2==("__debug__" : Str))=false) (c0:(self==("__classdict__" : Str))=false) (c1:(a==("__classdict__" : Str))=false) (c2:(a2==("__classdict__" : Str))=false)
  (sw:∀env,Ycg (.Name a p3) (some (.Attribute (.Name self p1) f p2)) pos.line env=pure false) (sw2:∀env,Ycg (.Name a2 q3) (some (.Attribute (.Name self q1) f2 q2)) qos.line env=pure false) :
  jfX X C s H [self,a,a2] qual scope fI cdv [.Assign [.Attribute (.Name self p1) f p2] (.Name a p3) pos,.Assign [.Attribute (.Name self q1) f2 q2] (.Name a2 q3) qos] [v,v2] [(f,v),(f2,v2)]:=by
 intro A' sM s1' e t J he;have J':=J.wish λ_ _=>False;refine YbW (xstep (X:=Cx.wish _ λ_ _=>False) (i:=0) (j:=1) (fs:=[]) J' rfl T SF s1 s2 n1 n2 hB he rfl rfl (.inl ⟨rfl,rfl⟩) (by decide) (jbC rfl h0 d0 c0) (jbC rfl h1 d1 c1) rfl rfl (sw _) λs' dx K z=>?_)
 have hn:H dx=none:=by
  rcases z with z|z
  ·cases z
  ·exact z.2
 refine YbW (xstep (X:=Cx.wish _ λ_ _=>False) (i:=0) (j:=2) (fs:=[(f,v)]) K rfl T SF s1 s2 m1 m2 hB2 he rfl rfl (.inr ⟨dx,rfl,jaj⟩) (by simp) (jbC rfl h0 d0 c0) (jbC rfl h2 d2 c2) rfl rfl (sw2 _) λs'' dx' K2 z2=>?_)
 have e1:dx'=dx:=by
  rcases z2 with z2|z2
  ·exact(Yas z2).symm
  ·exact nomatch z2.1
 subst e1;have K3:=K2.unwish;have e2:putF f2 v2 [(f,v)]=[(f,v),(f2,v2)]:=by show(if f=f2 then _ else _)=_;rw[if_neg hne];rfl
 have e3:upd (upd H dx' (.xd (putF f v []))) dx' (.xd (putF f2 v2 [(f,v)]))=upd H dx' (.xd [(f,v),(f2,v2)]):=by
  rw[e2];funext b;by_cases hb:b=dx'
  ·rw[hb,jaj,jaj]
  ·rw[jae hb,jae hb,jae hb]
 rw[e3]at K3;exact Yal ⟨rfl,dx',hn,K3⟩
section
variable {M:Model}{A:Around}{E:Value->Shared->Prop}{env:Env}{C N D:Addr}{bmB:List Value}{newId:String}{mN mD:Str->Option Value}
def Two.raise     (hbase:bmB.contains (.type "BaseException")=true)(hh:A.handled=none)
  (h:wpAny M A x (λv s1=>∃e t dx,v=.ref e/\Two s1.heap C N D mN mD bmB newId/\s1.heap.get? e=some { cls:=.ref C,dict:=some dx,data:=.fields #[.ref t,.none,.none,.none,.bool false,.none] }/\E (.ref e) s1) E s):wpAny M A (raiseStmt env (some x) none) Q E s:=by
 have hb:(YaP C::.ref D::bmB).contains (.type "BaseException")=true:=by rw[Ybw,Ybw,hbase,Ycx,Ycx]
 unfold raiseStmt;refine Yad (YaL h (λv s1 h1=>?_) λ_ _ z=>z);obtain⟨e,t,dx,rfl,T,he,hE⟩:=h1;obtain⟨nm,q,bs,sn,sub,ab,col,dd,k0,k1,k2,k3,k5,hC⟩:=T.cls;obtain⟨hp,g,d,tk,os⟩:=s1
 repeat (first|with_reducible refine Yaq he ?_|with_reducible refine Yaq hC ?_|(with_reducible refine YbS hC ?_;rw[hb])|wp_step)
 exact wpAny_raiseNew_none hh hE
end
def jkH  (X:Cx)(C:Addr)(n:Nat)(mk:List V->List (Str×V))(t:TA):TS:=λ_ σ H=>t σ H λvs H1=>vs.length=n/\∀(pins:List (Addr×Obj)) (e dx:Addr) (s':Shared),H1 dx=none->Inv X pins σ (upd H1 dx (.xd (mk vs))) s'->Lies X.s₀.heap.objs.size X.pn (upd H1 dx (.xd (mk vs))) s'.heap e (.ref C) (some dx)->X.xe (.ref e) s'
def jjW {X:Cx}{C N D fI:Addr}{bmB:List Value}{B newId initId:String}{mN mD:Str->Option Value}{k:Nat}{name qual x:Str}{params:YfW}{body:List Stmt}{scope:Scope}{dV kV doc pm cdv ct:Value}{an od:Option Addr}{osl:Array (Option Value)}{Nm ps:List Str}{mk:List V->List (Str×V)}{t:TA}{a0:Expr}{as:List Expr}{p cpos pos:Pos}{n:Nat}
  (T:Two X.base C N D mN mD bmB newId) (F:Yev B newId initId bmB) (hD:mD "__init__" = none) (hi:mN "__init__" = some (.ref fI)) (lk:X.K.lookup fI=some ⟨.type "function",od,.func (Ya2 name qual params body scope dV kV doc pm an cdv ct),osl⟩) (hcd:Ybu X.K cdv qual=true) (S:FnScope Nm ps scope) (hr:Room (k+2) X.A)
  (hb:Binds X.K (Ya2 name qual params body scope dV kV doc pm an cdv ct) ps []) (hn:n+1=ps.length) (hn8:n<=8) (hbase:bmB.contains (.type "BaseException")=true) (hg:Gl X x) (hm:X.mg x=some (.ref C)) (hk:Ybk X.K (.ref C)=true) (ha:PA X (a0::as) t) (hbody:∀(vs:List V) (s:Shared) (H:Hp),vs.length=n->jfX X C s H Nm qual scope fI cdv body vs (mk vs))
  (hdb:(x==("__debug__" : Str))=false:=by decide) (he:Yap (a0::as) X.env=(false,eval a0 X.env)::Yap as X.env:=by rfl) (hpl:(backTo cpos (Yap as X.env)).any (·.1)=false:=by rfl) :
  PS X (.Raise (some (.Call (.Name x p) (a0::as) [] cpos)) none pos) (jkH X C n mk t):=by
 intro pins s σ H D0 I h;have go:wpAny (model X.prog X.w) X.A (eval (.Call (.Name x p) (a0::as) [] cpos) X.env) (λv s1=>∃e t dx,v=.ref e/\Two s1.heap C N D mN mD bmB newId/\s1.heap.get? e=some { cls:=.ref C,dict:=some dx,data:=.fields #[.ref t,.none,.none,.none,.bool false,.none] }/\X.xe (.ref e) s1) X.xe s:=by
  refine Ybl (jcX I hg hm ?_ hdb);refine Ydh (h₀:=X.base) I.ok.mod.kin hk (thn (ha cpos pins s σ H _ I h) λus s1 ⟨vs,H1,I1,r,hl,q⟩=>⟨I1.kIn,?_⟩) he hpl;refine xmake (k:=k) I1 T F hD hi lk hcd S hr hb r (by lia) (by have:=r.length;rw[YbU,Ybn];lia) (hbody vs s1 H1 hl) λe dx s' z1 J l ⟨t',g⟩=>?_
  exact⟨e,t',dx,rfl,T.keeps J.bk,g,q pins e dx s' z1 J l⟩
 rw[arm_exec_Raise]
 first
  |exact Yad (Yb7 (Two.raise hbase hr.hd (Yad (YaL go (λv s1 z=>Yad (Yb7 (Yal z))) λ_ _ z=>z))))
  |(simp only[evalOpt,Yfg];exact Yad (Yb7 (Two.raise hbase hr.hd (Yad (YaL go (λv s1 z=>Yad (Yb7 (Yal z))) λ_ _ z=>z)))))
def jiO    {σ:St}(I:Inv X pins σ H s)(hN:X.N.Nodup)(hi:X.N[i]?=some x)(hk:X.env.scope.names.lookup x=some .local)
  (h:∀s',Inv X pins (σ.set i none) H s'->Q () s'):wpAny M A (do YeF X.env x .none;unbindBehindTheSuite X.env x pos) Q E s:=by
 obtain⟨m,hn,hl⟩:=id I.loc;have hcls:(X.env.scope.kind == .class||(X.env.scope.kind == .module&&X.env.locals != X.env.globals))=false:=by rw[I.ok.kind];rfl
 have hiσ:i<σ.length:=by rw[I.len];exact(List.getElem?_eq_some_iff.mp hi).1
 have cne:=I.cne;refine wpAny_nameGoes_keeps hk hn hcls λh' v hn' hs=>?_;have lt0:∀b o,X.s₀.heap.get? b=some o->b≠X.env.locals:=λb o e=>YaM (Yan (Yam e) I.ok.above);have tr:HOk X.prog X.w H h':=λb ob e=>by
  refine(I.hok b ob e).stay (λc w' hc q=>(hs.2 c ?_).trans q) (λ_ q=>q) λ_ _ q=>q;rintro rfl;rcases hc with rfl|hc
  ·rw[I.free]at e;cases e
  ·rw[I.free]at hc;cases hc
 refine h _ ⟨I.ok,I.os,I.bare,⟨λb o e n hb hx=>(hs.2 b (lt0 b o e)).trans (I.base.keep b o e n hb hx),λb o e n hb hx=>?_,I.base.free,λb o e hx=>?_,I.base.tups,I.base.frzs,I.base.tbls⟩,⟨_,hn',λj y v' e1 e2 e3=>?_⟩,λy c e=>?_,I.free,I.freeC,λp hp=>?_,tr,by simpa using I.len⟩
 ·obtain⟨sl,e1⟩:=I.base.slot b o e n hb hx;exact⟨sl,(hs.2 b (lt0 b o e)).trans e1⟩
 ·obtain⟨o',e1⟩:=I.base.there b o e hx;exact⟨o',(hs.2 b (lt0 b o e)).trans e1⟩
 ·by_cases hj:j=i
  ·subst hj;rw[Ybp hiσ]at e2;cases e2
  ·rw[YaX (Ne.symm hj)]at e2;have hy:y≠x:=λz=>hj (jdq hN e1 (z ▸ hi));obtain⟨u,r,l⟩:=hl j y v' e1 e2 e3;refine⟨u,r,l.imp (λz=>⟨z.1,by show(if y=x then v else m y)=some u;rw[if_neg hy];exact z.2⟩) λz=>⟨z.1,?_⟩⟩
   obtain⟨c,ec,o,ho,hd⟩:=z.2;exact⟨c,ec,o,(hs.2 c (cne y c ec)).trans ho,hd⟩
 ·obtain⟨w',o,ho,hd⟩:=I.cell y c e;exact⟨w',o,(hs.2 c (cne y c e)).trans ho,hd⟩
 ·obtain⟨p1,p2,p3,p4⟩:=I.pin p hp;exact⟨(hs.2 p.1 p3).trans p1,p2,p3,p4⟩
end L2

namespace L2
open PySem PySem.Spec PyProof.Rows PySem.W

def jgA  {os: OsState}{sub: List Value}(hC:h.get? C=some (YcR nm q C N bs bm hdct sn sub ab col dd k0 k1 k2 k3 k5 newId))(hD:h.get? D=some (YcR nm' q' D ND bs' bm' hdct' sn' sub' ab' col' dd' l0 l1 l2 l3 l5 newId'))(he:h.get? e=some oe)(hcls:oe.cls=.ref C)(hb:bm'.contains (.type "BaseException")=true)
  (hq:Q ((YaP C::bm).contains (.ref D)) ⟨h,g,d,t,os⟩):wpAny M A (excMatches (.ref e) (.ref D)) Q E ⟨h,g,d,t,os⟩:=by
 have hB:(YaP D::bm').contains (.type "BaseException")=true:=by rw[Ybw,hb,Ycx]
 have f:=tc_notTuple;obtain⟨b,eb⟩:∃b,b=(YaP C::bm).contains (.ref D):=⟨_,rfl⟩;rw[<- eb]at hq;unfold excMatches
 repeat (first|(with_reducible refine Yaq he ?_;rw[hcls])|with_reducible refine Yaq hD ?_|(with_reducible refine YbS hD ?_;rw[hB])|(with_reducible refine YbS hC ?_;rw[<- eb])|wp_step)
 cases b with
 |true=>wp_walk;exact hq
 |false=>wp_walk;exact hq

def jfE  {σ: St}(I:Inv X [] σ H s)(l:Lies X.s₀.heap.objs.size X.pn H s.heap ea cls dx)
  (q:∀h',Inv X [] σ H { s with heap:=h' }->Lies X.s₀.heap.objs.size X.pn H h' ea cls dx->Q () { s with heap:=h' }):wpAny M A (Yd1 (.ref ea) none) Q E s:=by
 obtain⟨oe,vs,he,hc,hdx,hd,ht⟩:=l.ob;rcases ht with h1|⟨T,oT,ts,h1,hTe,hT,hdT,h3,nT,lT,pT⟩
 ·unfold Yd1;refine Yad (YbT he hd h1 ?_);rw[if_neg (by decide)]
  exact Yal (q s.heap I l)
 ·have sz:=(Array.getElem?_eq_some_iff.mp h3).1;refine wpAny_setFlight_none he hd h1 hT hdT sz ?_;have other:=(jcn 3 .none hT hdT).2;have d3:=YfF hdT (·.setIfInBounds 3 Ybs);refine q _ (I.left (ch:=[T]) (λb hb=>by simp_all) (λb hb=>by simp_all) (λb hb=>by simp_all) (λb hb p hp=>by grind)
   (λb o _ hc e=>(other b (by simp_all)).trans e) λb o _ hc e=>⟨o.slots,(other b (by simp_all)).trans e⟩) ⟨⟨oe,vs,(other ea (Ne.symm hTe)).trans he,hc,hdx,hd,.inr ⟨T,_,_,h1,hTe,Ycw _ hT (Yda d3),d3,by simp[sz],nT,lT,pT⟩⟩,l.hn,l.le,l.pn⟩
noncomputable def Cx.tryC  (X:Cx)(pins:List (Addr×Obj))(xe:Value->Shared->Prop):Cx:={ X with pn:=X.pn++pins,xe:=xe }
def Inv.tryIn  {σ: St}(I:Inv X pins σ H s):Inv (X.tryC pins xe) [] σ H s:=
 ⟨⟨I.ok.mod,I.ok.kind,I.ok.glob,I.ok.blt,I.ok.above,I.ok.inj,I.ok.has,I.ok.cab,I.ok.hd,I.ok.frames,I.ok.stk,I.ok.exf,I.ok.bs,I.ok.bsz,I.ok.noex,I.ok.exfs,I.ok.funs,I.ok.frf⟩,I.os,I.bare,I.base,I.loc,I.cell,I.free,I.freeC,λp hp=>I.pin p (by simpa[Cx.tryC]using hp),I.hok,I.len⟩
def Inv.tryOut  {σ: St}(I:Inv (X.tryC pins xe) pins' σ H s):Inv X pins σ H s:=
 ⟨⟨I.ok.mod,I.ok.kind,I.ok.glob,I.ok.blt,I.ok.above,I.ok.inj,I.ok.has,I.ok.cab,I.ok.hd,I.ok.frames,I.ok.stk,I.ok.exf,I.ok.bs,I.ok.bsz,I.ok.noex,I.ok.exfs,I.ok.funs,I.ok.frf⟩,I.os,I.bare,I.base,I.loc,I.cell,I.free,I.freeC,λp hp=>I.pin p (by simp only[Cx.tryC];grind),I.hok,I.len⟩
noncomputable def Cx.inH  (X:Cx)(e:Value)(p:List (Addr×Obj)):Cx:={ X with A:=X.A.mark (some e),calm:=false,pn:=X.pn++p,xe:=λ_ _=>False }
def Inv.hIn  {σ: St}(I:Inv X [] σ H s)(hp:∀q∈p,s.heap.get? q.1=some q.2/\H q.1=none/\q.1≠X.env.locals/\q.1∉X.fs/\∀v,q.2.data≠.cell v):Inv (X.inH e p) [] σ H s:=
 ⟨⟨I.ok.mod,I.ok.kind,I.ok.glob,I.ok.blt,I.ok.above,I.ok.inj,I.ok.has,I.ok.cab,(λz=>(nomatch z)),I.ok.frames,I.ok.stk,I.ok.exf,I.ok.bs,I.ok.bsz,I.ok.noex,I.ok.exfs,I.ok.funs,I.ok.frf⟩,I.os,I.bare,I.base,I.loc,I.cell,I.free,I.freeC,
  λq hq=>by
   have:q∈X.pn++p:=by simpa[Cx.inH]using hq
   rcases List.mem_append.mp this with z|z
   ·exact I.pin q (YbB _ z)
   ·exact hp q z,I.hok,I.len⟩
def Inv.hOut  {σ: St}(ok:X.Ok)(I:Inv (X.inH e p) pins' σ H s):Inv X [] σ H s:=
 ⟨ok,I.os,I.bare,I.base,I.loc,I.cell,I.free,I.freeC,λq hq=>I.pin q (by simp only[Cx.inH];simp_all),I.hok,I.len⟩
def Lies.pinned  {σ: St}(I:Inv X [] σ H s)(l:Lies X.s₀.heap.objs.size X.pn H s.heap ea cls dx):∃oe,s.heap.get? ea=some oe/\oe.cls=cls/\oe.dict=dx/\(∃vs,oe.data=.fields vs)/\
  ∀q∈[(ea,oe)],s.heap.get? q.1=some q.2/\H q.1=none/\q.1≠X.env.locals/\q.1∉X.fs/\∀v,q.2.data≠.cell v:=by
 obtain⟨oe,vs,he,hc,hdx,hd,_⟩:=l.ob;refine⟨oe,he,hc,hdx,⟨vs,hd⟩,λq hq=>?_⟩;rw[List.mem_singleton.mp hq];refine⟨he,l.hn,λz=>?_,λz=>?_,λv z=>by lia⟩
 ·obtain⟨m,⟨o,es,ep,ho,hdd,_⟩,_⟩:=I.loc
  lia
 ·obtain⟨_,o,ho,_⟩:=I.ok.funs.mem z;exact absurd (Yam ho) (Nat.not_lt.mpr l.le)
def XL  (M:Model)(A:Around)(env:Env)(R:Value->Shared->Prop):Value->Shared->Prop:=λe s'=>wpAny M A (YfK e env) (λ_ s''=>wpAny M A (Yd1 e none) (λ_ s3=>R e s3) R s'') R s'
def jjY      : Yc5 M A env (XL M A env R):=YeS

abbrev cx1  (P:Program)(w:World)(K:Yac)(mg:Str->Option Value)(base:Heap)(N:List Str)(qual:Str)(scope:Scope)(f:Addr)(cd:Value)(A:Around)(outer:List Env)(s:Shared)(H:Hp)(E:XK):Cx:=
 (cxOf (CX1 P w) P w K mg base N qual scope f cd A outer s H E).wish (XL (model P w) (A.deeper (envOfC qual scope s.heap.objs.size f cd)) (envOfC qual scope s.heap.objs.size f cd) λe s'=>CX1 P w outer H s E e s')
def Fun.okX  {K: Yac}{st:Stmt}(F:Fun K x qual st f fd)(S:FnScope N ps (jaa st))(len:∀vs H Q E,sp vs H Q E->vs.length=ps.length)
  (hbody:∀cdv (A:Around) outer (s:Shared) H (vs:List V) Q E ,Room k (A.deeper (envOfC qual (jaa st) s.heap.objs.size f cdv))->sp vs H Q E->
   ∃t,PSs (cx1 P w K mg base N qual (jaa st) f cdv A outer s H E) (jaf st) t/\t { nx:=λ_ H'=>Q .non H',rt:=Q } (start N vs) H):FnOk P w K mg base (CX1 P w) (k+1) f fd ps sp:=by
 obtain⟨oc,od,kV,doc,pm,an,cdv,ct,osl,rfl,lk,hcd⟩:=F.ex;refine jqf lk hcd S len λA outer s H vs Q E hr hsp=>?_;obtain⟨t,h,q⟩:=hbody cdv A outer s H vs Q E hr hsp;refine⟨t,λpins s1 σ H1 D I hw=>?_,q⟩;refine YaL (h pins s1 σ H1 D (I.wish _) hw) (λ_ _ q=>q.unwish) λe s' z=>?_;show wpAny _ _ (leaving _ e) _ _ s';unfold leaving;exact Yad z
def CX1.out1  {K: Yac}{σ:St} 
  (I:Inv (cx1 P w K mg base N qual scope f cd A outer s H E) pins σ H' s') (l:Lies s.heap.objs.size [] H' s'.heap ea cls dx) (q:E cls dx H'):(cx1 P w K mg base N qual scope f cd A outer s H E).xe (.ref ea) s':=by
 have I0:Inv (cxOf (CX1 P w) P w K mg base N qual scope f cd A outer s H E) [] σ H' s':=I.unwish.pins_of λp hp=>absurd hp (by simp)
 refine jiW (X:=cxOf (CX1 P w) P w K mg base N qual scope f cd A outer s H E) (E:=λe s'=>CX1 P w outer H s E e s') I0 rfl rfl l λh' J l'=>?_;exact⟨ea,H',cls,dx,rfl,J.os,J.bare,J.base,J.hok,l',q⟩
end L2

namespace L2
open PySem PySem.Spec PyProof.Rows PySem.W
open Builtin Builtin.ObjectAttr
def jei  : YaV (.type "ValueError") "__class__" = pure (some (.builtin "object.__class__")):=by rw[Ycs,YbA];kernel_rfl
def joI  : YaV (.type "getset_descriptor") "__get__" = pure (some (.builtin "getset_descriptor.__get__")):=by rw[Ycs,YbA];kernel_rfl
def joG  : YaV (.type "getset_descriptor") "__set__" = pure (some (.builtin "getset_descriptor.__set__")):=by rw[Ycs,YbA];kernel_rfl
def jja  : builtinKind "object.__class__" = some .getset:=by decide +kernel
noncomputable abbrev bmV  : List Value:=[.type "ValueError",.type "Exception",.type "BaseException",.type "object"]

def Two.gaClass  {os: OsState}{K:Frag}(hK:K.In h)(hm:mroIn K C (.type "object")=some true)(T:Two h C N D mN mD bmB newId)(R:Reads B bmB)(hx:h.get? x=some o)(hc:o.cls=.ref C)(hnc:notCls o=true)(hdx:o.dict=some dx)(hod:h.get? dx=some od)
  (hB:YaV (.type B) "__class__" = pure (some (.builtin "object.__class__"))) (n1:mN "__class__" = none) (n2:mD "__class__" = none) (hq:Q (.done (.ret (.ref C))) ⟨h,g,d,t,os⟩) :
  wpAny (model prog w) A (Builtin.«object.__getattribute__» ⟨[.ref x,.str "__class__" tk],[]⟩) Q E ⟨h,g,d,t,os⟩:=by
 obtain⟨nm,q,bs,sn,sub,ab,col,dd,k0,k1,k2,k3,k5,e⟩:=T.cls;unfold Builtin.«object.__getattribute__»
 repeat (first|(with_reducible refine Yaq hx ?_;rw[hc])|(with_reducible refine T.look hB R.mro n1 n2 ?_)|wp_step)
 rw[jja];dsimp only;rw[joI]
 repeat (first|(with_reducible refine Yaq hx ?_;rw[hc])|wp_step)
 rw[jja];dsimp only;rw[joG]
 repeat (first|(with_reducible refine Yaq hx ?_;rw[hc])|wp_step)
 refine PySem.W.class_get (K:=K) hK (ox:=o) (od:=some od) ⟨hx,hc,hnc,by rw[hdx];exact hod⟩ hm ?_
 exact Yal hq
def Two.cattr  {os: OsState}{K:Frag}(hK:K.In h)(hm:mroIn K C (.type "object")=some true)(T:Two h C N D mN mD bmB newId)(R:Reads B bmB)(hx:h.get? x=some o)(hc:o.cls=.ref C)(hnc:notCls o=true)(hdx:o.dict=some dx)(hod:h.get? dx=some od)
  (hB:YaV (.type B) "__class__" = pure (some (.builtin "object.__class__"))) (g1:mN "__getattribute__" = none) (g2:mD "__getattribute__" = none) (a1:mN "__getattr__" = none) (a2:mD "__getattr__" = none) (n1:mN "__class__" = none) (n2:mD "__class__" = none) (hq:Q (some (.ref C)) ⟨h,g,d,t+1,os⟩) :
  wpAny (model prog w) A (getAttr? (.ref x) "__class__") Q E ⟨h,g,d,t,os⟩:=by
 have f3:=R.ga.bind (.ref x);unfold getAttr? getAttrBy? getAttrBy
 repeat (any_goals (first|assumption|(with_reducible refine Yaq hx ?_;rw[hc])|(with_reducible refine T.look R.ga.lookup R.mro g1 g2 ?_)|(with_reducible refine T.look R.no R.mro a1 a2 ?_)|wp_step))
 refine YdD R.ga.plain F.entry_bexc_ga (T.gaCheck R hx hc (T.gaClass hK hm R hx hc hnc hdx hod hB n1 n2 ?_))
 repeat (any_goals (first|assumption|wp_step))
noncomputable def jha  : List Ydw->Option (List Str)
 |[]=>some []
 |e::r=>match e.key,jha r with
  |.str x _,some l=>some (x::l)
  |_,_=>none
def jey  (K:Frag)(N:Addr):Option (List Str):=match K.lookup N with
 |some ⟨_,_,.dict es _,_⟩=>jha es.toList
 |_=>none
theorem jex  : ∀{es } {ks },jha es=some ks->(∀e∈es,∃n t,e.key=.str n t)/\∀x,x∉ks->es.find? (λe=>e.key.isStr x)=none
 |[],_,_=>⟨λ_ h=>absurd h (by simp),λ_ _=>rfl⟩
 |e::r,ks,h=>by
  unfold jha at h;split at h
  ·rename_i x t l hk hr;cases h;obtain⟨h1,h2⟩:=jex hr;refine⟨λe' he=>?_,λy hy=>?_⟩
   ·rcases YaW.mp he with rfl|he
    ·exact⟨_,_,hk⟩
    ·exact h1 e' he
   ·have hn:y≠x:=λz=>hy (by simp[z])
    have:e.key.isStr y=false:=by rw[hk];simp[Value.isStr,Ne.symm hn]
    rw[Ybo,this];exact h2 y λz=>hy (by simp[z])
  ·cases h
def joe  {K:Frag}(e:jey K N=some ks):∃m ,(∀h,K.In h->h.Ns N m)/\(∀x,x∉ks->m x=none)/\∀x v,nsIn K N x=some (some v)->m x=some v:=by
 unfold jey at e;split at e
 ·rename_i c dd es ep sl lk;obtain⟨h1,h2⟩:=jex e;refine⟨nsFind es,λh hK=>⟨_,es,ep,hK _ _ lk,rfl,λe he=>h1 e (by simpa using he),λ_=>rfl⟩,λx hx=>?_,λx v hv=>?_⟩
  ·unfold nsFind findBy;rw[<- Ydy,h2 x hx];rfl
  ·unfold nsIn at hv;rw[lk]at hv;dsimp only at hv;unfold nsFind findBy;rw[<- Ydy];split at hv
   ·rename_i e' he';rw[he'];cases hv;rfl
   ·split at hv<;>cases hv
 ·cases e
noncomputable def offN  : List Str:=["__setattr__", "__getattribute__", "__getattr__", "__class__", "word", "at", "row"]
structure XBase (K:Frag)(mg:Str->Option Value)(D:Addr)(mD:Str->Option Value):Prop where
 m:mg "PlanError" = some (.ref D)
 kp:keepIn K (.ref D)=true
 lk:∃q ND bs hd sn sub ab col dd k0 k1 k2 k3 k5 nid,K.lookup D=some (YcR "PlanError" q D ND bs bmV hd sn sub ab col dd k0 k1 k2 k3 k5 nid)/\∀h,K.In h->h.Ns ND mD
 no:∀y∈offN,mD y=none
 ni:mD "__init__" = none
structure XCls (K:Frag)(mg:Str->Option Value)(x:Str)(fs:List Str)(C:Addr):Prop where
 m:mg x=some (.ref C)
 kp:keepIn K (.ref C)=true
 ex:∃(D N fI:Addr) (mN mD:Str->Option Value),XBase K mg D mD/\(∃q bs sn sub ab col dd k0 k1 k2 k3 k5,K.lookup C=some (YcR x q C N bs (.ref D::bmV) true sn sub ab col dd k0 k1 k2 k3 k5 "ValueError.__new__"))/\(∀h,K.In h->h.Ns N mN)/\(∀y∈offN,mN y=none)/\
  mN "__init__" = some (.ref fI)/\∃(st:Stmt) (qual:Str) (fd:YeL),L2.Fun K "__init__" qual st fI fd/\(∃od osl,K.lookup fI=some ⟨.type "function",od,.func fd,osl⟩)/\FnScope ("self" :: fs) ("self" :: fs) (jaa st)/\Binds K fd ("self" :: fs) []/\(∀y∈(("self" : Str)::fs),(jaa st).names.lookup y=some .local)/\
  ((∃f p1 p2 p3 pos,fs=[f]/\jaf st=[.Assign [.Attribute (.Name "self" p1) f p2] (.Name f p3) pos])\/∃f f2 p1 p2 p3 pos q1 q2 q3 qos,fs=[f,f2]/\f≠f2/\jaf st=[.Assign [.Attribute (.Name "self" p1) f p2] (.Name f p3) pos,.Assign [.Attribute (.Name "self" q1) f2 q2] (.Name f2 q3) qos])
def XBase.get  {K:Frag}(B:XBase K mg D mD)(hK:K.In h):∃c0 dd cd sl,h.get? D=some { cls:=c0,dict:=dd,data:=.cls cd,slots:=sl }/\h.Ns cd.ns mD:=by
 obtain⟨q,ND,bs,hd,sn,sub,ab,col,dd,k0,k1,k2,k3,k5,nid,lk,n⟩:=B.lk;exact⟨_,_,_,_,hK _ _ lk,n h hK⟩

def XCls.name  {K: Frag}(c:XCls K mg x fs C):∃cd,clsIn K C=some cd/\cd.name=x/\typeIn K (.ref C)=some (.type "type")/\∃D mD,XBase K mg D mD/\cd.mro=.ref C::.ref D::bmV:=by
 obtain⟨D,N,fI,mN,mD,B,⟨q,bs,sn,sub,ab,col,dd,k0,k1,k2,k3,k5,lk⟩,_⟩:=c.ex;refine⟨_,by unfold clsIn;rw[lk],rfl,by show Yfg (λx=>x.cls) (Ybx _ K)=_;rw[lk];rfl,D,mD,B,rfl⟩
def XBase.nm  {K: Frag}(B:XBase K mg D mD):∃cd,clsIn K D=some cd/\cd.name = "PlanError" /\ typeIn K (.ref D)=some (.type "type"):=by
 obtain⟨q,ND,bs,hd,sn,sub,ab,col,dd,k0,k1,k2,k3,k5,nid,lk,n⟩:=B.lk;exact⟨_,by unfold clsIn;rw[lk],rfl,by show Yfg (λx=>x.cls) (Ybx _ K)=_;rw[lk];rfl⟩
def jiX  {K: Frag}(c:XCls K mg x fs C)(c':XCls K mg x' fs' C')(hp:x' ≠ "PlanError"):kitOne K (.ref C) (.ref C')=some (decide (x=x')):=by
 obtain⟨cd,h1,h2,h3,D,mD,B,hm⟩:=c.name;obtain⟨cd',h1',h2',h3',_⟩:=c'.name;unfold kitOne;by_cases e:C=C'
 ·subst e;rw[h1]at h1';cases h1';rw[if_pos (by simp),<- h2,<- h2']
  simp
 ·have hx:x≠x':=λz=>by
   subst z;have:=c.m.symm.trans c'.m;simp at this;exact e this
  rw[if_neg (by simpa using e)]
  unfold kitCls subIn mroIn;dsimp only;rw[h1',h3',h1];have hD:D≠C':=λz=>by
   subst z;obtain⟨cd2,g1,g2,_⟩:=B.nm;rw[h1']at g1;cases g1;exact hp (h2'.symm.trans g2)
  simp[hm,hx,Ne.symm e,Ne.symm hD]
def jor  {K: Frag}(c:XCls K mg x fs C):kitOne K (.ref C) (.type "ValueError")=some true:=by
 obtain⟨cd,h1,h2,h3,D,mD,B,hm⟩:=c.name;unfold kitOne;rw[if_neg (by simp)]
 unfold kitCls subIn mroIn;dsimp only;rw[if_pos (by decide +kernel),h1]
 simp[hm]
def jk5  : ∀f∈[("word" : Str), "at", "row"],YaV (.type "ValueError") f=pure none:=by
 intro f hf;simp only[YaW,YaE,or_false]at hf;rcases hf with rfl|rfl|rfl<;>(rw[Ycs,YbA];kernel_rfl)
noncomputable def fldN  : List Str:=["word", "at", "row"]
def jgx  : ∀f∈fldN,f∈offN:=by decide
section
variable {K:Frag}{mg:Str->Option Value}{x:Str}{fs:List Str}{C:Addr}
structure XPin (X:Cx)(ea C dx:Addr):Prop where
 ex:∃oe vs,(ea,oe)∈X.pn/\oe.cls=.ref C/\oe.dict=some dx/\oe.data=.fields vs
def Inv.xobj    {σ:St}(I:Inv X pins σ H s)(p:XPin X ea C dx)(hl:H dx=some (.xd l)) :
  ∃oe vs od mA,s.heap.get? ea=some oe/\oe.cls=.ref C/\oe.dict=some dx/\oe.data=.fields vs/\s.heap.get? dx=some od/\s.heap.Ns dx mA/\∀f,RelO (l.lookup f) (mA f):=by
 obtain⟨oe,vs,hp,h1,h2,h3⟩:=p.ex;obtain⟨mA,n,r⟩:=(show jaC X.prog X.w H s.heap dx (.xd l)from I.hok dx _ hl);obtain⟨od,es,ep,g,gd,sk,_,nf⟩:=n;exact⟨oe,vs,od,mA,(I.pin _ (YbB _ hp)).1,h1,h2,h3,g,⟨od,es,ep,g,gd,sk,nf⟩,r⟩
def XCls.two  (c:XCls K mg x fs C)(hK:K.In h):∃N D mN mD,Two h C N D mN mD bmV "ValueError.__new__" /\ (∀y∈offN,mN y=none/\mD y=none)/\mroIn K C (.type "object")=some true:=by
 obtain⟨D,N,fI,mN,mD,B,⟨q,bs,sn,sub,ab,col,dd,k0,k1,k2,k3,k5,lk⟩,hn,ho,_⟩:=c.ex;refine⟨N,D,mN,mD,⟨⟨_,_,_,_,_,_,_,_,_,_,_,_,_,hK _ _ lk⟩,hn h hK,B.get hK⟩,λy hy=>⟨ho y hy,B.no y hy⟩,?_⟩;unfold mroIn clsIn;rw[lk];simp
def je1  (c:XCls K mg x fs C)(h1:oe.cls=.ref C)(h2:oe.dict=some dx)(h3:oe.data=.fields vs):KitX K (.ref ea) (.ref C) (λh=>h.get? ea=some oe/\h.get? dx=some od):=by
 have hnc:notCls oe=true:=by unfold notCls;rw[h3]
 refine⟨λM h hK hh=>?_,λM h hK hh=>?_,λh tp dd its n sl hK ht=>?_,λ{prog w A E Q s} hK hh hq=>?_⟩
 ·intro A Q E s k q;obtain⟨hp,g,d,t,os⟩:=s;have g1:=k _ _ hh.1;show wpAny M A (typeOf (.ref ea)) Q E _;unfold typeOf
  repeat (first|(with_reducible refine Yaq g1 ?_;rw[h1])|wp_step)
  exact q
 ·intro A Q E s k q;obtain⟨hp,g,d,t,os⟩:=s;obtain⟨D,N,fI,mN,mD,B,⟨q',bs,sn,sub,ab,col,dd,k0,k1,k2,k3,k5,lk⟩,_⟩:=c.ex;have g1:=k _ _ (hK _ _ lk);unfold isType
  repeat (first|with_reducible refine Yaq g1 ?_|wp_step)
  exact q
 ·obtain⟨D,N,fI,mN,mD,B,⟨q',bs,sn,sub,ab,col,dd',k0,k1,k2,k3,k5,lk⟩,_⟩:=c.ex;have g1:=hK _ _ lk;by_cases z:C=tp
  ·subst z;rw[ht]at g1;simp at g1
  ·simpa using z
 ·obtain⟨hp,g,d,t,os⟩:=s;obtain⟨N,D,mN,mD,T,off,hm⟩:=c.two hK;have o1:=off "__getattribute__" (by decide)
  have o2:=off "__getattr__" (by decide)
  have o3:=off "__class__" (by decide)
  exact T.cattr hK hm jbq hh.1 h1 hnc h2 hh.2 jei o1.1 o1.2 o2.1 o2.2 o3.1 o3.2 hq
end
section
variable {X:Cx}{mg:Str->Option Value}{x:Str}{fs:List Str}{C ea dx:Addr}
def jjB     (c:XCls X.K mg x fs C)(c':XCls X.K mg x' fs' C')(hp:x' ≠ "PlanError")(p:XPin X ea C dx):jaN X (.builtin "isinstance") (λxs H Q=>xs=[.ref ea,.ref C']/\(∃l,H dx=some (.xd l))/\Q (.bl (decide (x=x'))) H):=by
 intro pins s σ H xs us Q I r h;obtain⟨rfl,⟨l,hl⟩,q⟩:=h;obtain⟨u,v,rfl,ru,rv⟩:=Vals.two r;cases ru;cases rv;obtain⟨oe,vs,od,mA,g1,g2,g3,g4,g5,_⟩:=I.xobj p hl;exact kia_one (je1 c g2 g3 g4) I.kIn ⟨g1,g5⟩ (jiX c c' hp) (λz=>(nomatch z)) λtk=>⟨.bl _,H,I.tok tk,rfl,q⟩
def jjz  (c:XCls X.K mg x fs C)(p:XPin X ea C dx):jaN X (.builtin "isinstance") (λxs H Q=>xs=[.ref ea,.ty "ValueError"]/\(∃l,H dx=some (.xd l))/\Q (.bl true) H):=by
 intro pins s σ H xs us Q I r h;obtain⟨rfl,⟨l,hl⟩,q⟩:=h;obtain⟨u,v,rfl,ru,rv⟩:=Vals.two r;cases ru;cases rv;obtain⟨oe,vs,od,mA,g1,g2,g3,g4,g5,_⟩:=I.xobj p hl;exact kia_one (je1 c g2 g3 g4) I.kIn ⟨g1,g5⟩ (jor c) (λz=>(nomatch z)) λtk=>⟨.bl true,H,I.tok tk,rfl,q⟩
inductive XMany (X:Cx)(mg:Str->Option Value):List Str->List Addr->Prop
 |nil:XMany X mg [] []
 |cons {x:Str} {fs:List Str} {C:Addr} {xs:List Str} {Cs:List Addr}:XCls X.K mg x fs C->x ≠ "PlanError" -> XMany X mg xs Cs->XMany X mg (x::xs) (C::Cs)
theorem jg9  (c:XCls X.K mg x fs C):∀{xs } {Cs },XMany X mg xs Cs->kitAny X.K (.ref C) (Cs.map .ref)=some (xs.contains x)
 |_,_,.nil=>rfl
 |_,_,.cons (x:=x') (C:=C') c' hp r=>by
  have h1:=jiX c c' hp;have h2:=jg9 c r;by_cases e:x=x'
  ·subst e;simp only[YaK,kitAny];rw[h1];simp
  ·simp only[YaK,kitAny];rw[h1,h2];simp[e]
def jjA    (c:XCls X.K mg x fs C)(cs:XMany X mg xs Cs)(p:XPin X ea C dx):jaN X (.builtin "isinstance") (λas H Q=>∃tp,as=[.ref ea,.ref tp]/\H tp=some (.tup (Cs.map .ref))/\(∃l,H dx=some (.xd l))/\Q (.bl (xs.contains x)) H):=by
 intro pins s σ H as us Q I r h;obtain⟨tp,rfl,ht,⟨l,hl⟩,q⟩:=h;obtain⟨u,v,rfl,ru,rv⟩:=Vals.two r;cases ru;cases rv;obtain⟨oe,vs,od,mA,g1,g2,g3,g4,g5,_⟩:=I.xobj p hl;obtain⟨z,us,ru,o,t1,t2,t3,t4,t5⟩:=(show jaC X.prog X.w H s.heap tp (.tup (Cs.map .ref))from I.hok tp _ ht);have hus:us=Cs.map .ref:=by
  clear ht t4 z t5 t1 t2;generalize Cs=Ds at ru
  induction Ds generalizing us with
  |nil=>cases ru;rfl
  |cons a r ih=>
   cases ru with
   |cons h1 h2=>cases h1;rw[ih _ h2];rfl
 subst hus;have hk:=jg9 c cs;obtain⟨oc,od',dt,sl⟩:=o;obtain rfl:oc=Value.type "tuple" := t2;obtain rfl:dt=Data.seq (List.map YaP Cs).toArray t3:=t4;exact kia_tup (je1 c g2 g3 g4) I.kIn ⟨g1,g5⟩ t1 hk (λz=>(nomatch z)) λtk=>⟨.bl _,H,I.tok tk,rfl,q⟩
def jgu    (r:RelV v u):handedOut u=pure u:=by
 cases v with
 |non=>cases r;rfl
 |bl _=>cases r;rfl
 |int _=>obtain⟨_,rfl⟩:=r;rfl
 |str _=>obtain⟨_,rfl⟩:=r;rfl
 |byt _=>obtain⟨_,rfl⟩:=r;rfl
 |flt _=>obtain⟨_,rfl⟩:=r;rfl
 |ref _=>cases r;rfl
 |ty _=>cases r;rfl
def jlV      (c:XCls X.K mg x fs C)(p:XPin X ea C dx)(hf:f∈fldN)(he:PE X e te)(hb:YcG e f X.env (eval e X.env)=eval e X.env) :
  PE X (.Attribute e f pos) (λσ H Q=>te σ H λv H1=>v=.ref ea/\∃l u,H1 dx=some (.xd l)/\l.lookup f=some u/\Q u H1):=by
 intro pins s σ H Q I h;refine jmU hb (thn (he pins s σ H _ I h) λu s1 ⟨v,H1,I1,rv,ev,l,w,hl,hlk,q⟩=>?_);subst ev;cases rv;obtain⟨oe,vs,od,mA,g1,g2,g3,g4,g5,g6,g7⟩:=I1.xobj p hl;obtain⟨N,D,mN,mD,T,off,hm⟩:=c.two I1.kIn;obtain⟨u',hu,ru⟩:=RelO.some_of (v:=w) (o:=mA f) (by rw[<- hlk];exact g7 f)
 have o1:=off "__getattribute__" (by decide)
 have o2:=off "__getattr__" (by decide)
 have o3:=off f (jgx f hf);obtain⟨hp,gg,d,t,os⟩:=s1;exact T.get jbq g1 g2 (λcd z=>by rw[g4]at z;cases z) g3 g6 hu (jgu ru) (jk5 f hf) o1.1 o1.2 o2.1 o2.2 o3.1 o3.2 ⟨w,H1,I1.tok _,ru,q⟩
def jir       (c:XCls X.K mg x fs C)(hfs:∀f∈fs,f∈fldN)(hr:Room (k+2) X.A)(hg:Gl X x)(hmg:X.mg x=some (.ref C))(ha:PA X (a0::as) t)
  (hdb:(x==("__debug__" : Str))=false) (he:Yap (a0::as) X.env=(false,eval a0 X.env)::Yap as X.env) (hpl:(backTo cpos (Yap as X.env)).any (·.1)=false) :
  PS X (.Raise (some (.Call (.Name x p) (a0::as) [] cpos)) none pos) (jkH X C fs.length (λvs=>fs.zip vs) t):=by
 intro pins s σ H D0 I h;have hK:X.K.In X.base:=I.ok.mod.kin;obtain⟨D,N,fI,mN,mD,B,⟨q,bs,sn,sub,ab,col,dd,k0,k1,k2,k3,k5,lk⟩,hn,ho,hi,st,qual,fd,F0,⟨od,osl,lkI⟩,S,hb,hloc,hbody⟩:=c.ex;obtain⟨oc,od',kV,doc,pm,an,cdv,ct,osl',rfl,lkI',hcd⟩:=F0.ex;have T:Two X.base C N D mN mD bmV "ValueError.__new__" := ⟨⟨_,_,_,_,_,_,_,_,_,_,_,_,_,hK _ _ lk⟩,hn _ hK,B.get hK⟩;have set0:mN "__setattr__" = none/\mD "__setattr__" = none:=⟨ho _ (by decide),B.no _ (by decide)⟩
 have fd0:∀f∈fs,mN f=none/\mD f=none/\YaV (.type "ValueError") f=pure none:=λf hf=>⟨ho _ (jgx f (hfs f hf)),B.no _ (jgx f (hfs f hf)),jk5 f (hfs f hf)⟩;have nm:∀f∈fldN,(f==("__debug__" : Str))=false/\(f==("__classdict__" : Str))=false:=by decide
 have go:∀(vs:List V) (s:Shared) (H:Hp),vs.length=fs.length->jfX X C s H (("self" : Str)::fs) qual (jaa st) fI cdv (jaf st) vs (fs.zip vs):=by
  intro vs s H hl;rcases hbody with⟨f,p1,p2,p3,pos,rfl,hbd⟩|⟨f,f2,p1,p2,p3,pos,q1,q2,q3,qos,rfl,hne,hbd⟩
  ·rw[hbd];obtain⟨v,rfl⟩:∃v,vs=[v]:=by
    match vs,hl with
    |[v],_=>exact⟨v,rfl⟩
   have a1:=fd0 f (by simp)
   have b1:=nm f (hfs f (by simp))
   exact jp9 T F.store_ValueError set0.1 set0.2 a1.1 a1.2.1 a1.2.2 (.inl (hloc _ (by simp))) (.inl (hloc _ (by simp))) (by decide) b1.1 (by decide) b1.2 (λ_=>rfl)
  ·rw[hbd];obtain⟨v,v2,rfl⟩:∃v v2,vs=[v,v2]:=by
    match vs,hl with
    |[v,v2],_=>exact⟨v,v2,rfl⟩
   have a1:=fd0 f (by simp)
   have a2:=fd0 f2 (by simp)
   have b1:=nm f (hfs f (by simp))
   have b2:=nm f2 (hfs f2 (by simp))
   exact jp8 T F.store_ValueError set0.1 set0.2 a1.1 a1.2.1 a1.2.2 a2.1 a2.2.1 a2.2.2 hne (.inl (hloc _ (by simp))) (.inl (hloc _ (by simp))) (.inl (hloc _ (by simp))) (by decide) b1.1 b2.1 (by decide) b1.2 b2.2 (λ_=>rfl) (λ_=>rfl)
 have hn8:fs.length<=8:=by
  rcases hbody with⟨f,p1,p2,p3,pos,rfl,hbd⟩|⟨f,f2,p1,p2,p3,pos,q1,q2,q3,qos,rfl,hne,hbd⟩<;>simp
 exact jjW T F.excBase_ValueError B.ni hi lkI hcd S hr hb (by simp) hn8 (by decide) hg hmg c.kp ha go hdb he hpl pins s σ H D0 I h
def jhN          (c:XCls X.K mg x fs C)(B':XBase X.K mg D' mD')(hK:X.K.In s.heap)(he:s.heap.get? ea=some oe)(hcls:oe.cls=.ref C)
  (hq:Q true s):wpAny M A (excMatches (.ref ea) (.ref D')) Q E s:=by
 obtain⟨D,N,fI,mN,mD,B,⟨q,bs,sn,sub,ab,col,dd,k0,k1,k2,k3,k5,lk⟩,_⟩:=c.ex;have e:D=D':=by have:=B.m.symm.trans B'.m;simpa using this
 subst e;obtain⟨q,ND,bs,hd,sn,sub,ab,col,dd,k0,k1,k2,k3,k5,nid,lk2,n⟩:=B.lk;obtain⟨h,g,d,t,os⟩:=s;refine jgA (hK _ _ lk) (hK _ _ lk2) he hcls (by decide) ?_
 have e:(YaP C::.ref D::bmV).contains (.ref D)=true:=by simp
 rw[e];exact hq
end
end L2

namespace L2
open PySem PySem.Spec PyProof.Rows

end L2

namespace L2
open PySem PySem.Spec PyProof.Rows

end L2

namespace L2
open PySem PySem.Spec PyProof.Rows PySem.W
noncomputable def jbM  (cells:List (Str×Addr)):List (Str×Ybv)->List (Str×Addr)->List (Str×Addr)
 |[],acc=>acc
 |(n,k)::r,acc=>jbM cells r (if k == .free then (match cells.lookup n with|some c=>(n,c)::acc|none=>acc) else acc)
theorem je7   
  (hf:∀n k cs,f (n,k) cs=if k == .free then (do let a <- cellOf env n;pure (.yield ((n,a)::cs))) else pure (.yield cs)) :
  ∀names acc ,(∀y∈names,y.2=.free->∃c,env.cells.lookup y.1=some c)->forIn names acc f=pure (jbM env.cells names acc)
 |[],acc,_=>rfl
 |(n,k)::r,acc,h=>by
  rw[Yee,hf];unfold jbM;cases hk:k==Yaw with
  |true=>
   obtain⟨c,e⟩:=h (n,k) YaC (eq_of_beq hk);simp only[if_true,cellOf,e,pure_bind];exact je7 hf r _ λy hy=>h y (Yao _ hy)
  |false=>
   simp only[YbV,if_false,pure_bind];exact je7 hf r _ λy hy=>h y (Yao _ hy)
def jcG    (h:∀y∈scope.names,y.2=.free->∃c,env.cells.lookup y.1=some c):Yfc scope env=pure (jbM env.cells scope.names []):=by
 simp only[Yfc];rw[je7 (env:=env) (λn k cs=>by lia) _ _ h]
 rfl
theorem jhn     : ∀{names } {acc },(jbM cells names acc).lookup x=some c->(cells.lookup x=some c/\(x,Yaw)∈names)\/acc.lookup x=some c
 |[],_,h=>.inr h
 |(n,k)::r,acc,h=>by
  unfold jbM at h;rcases jhn h with⟨e,m⟩|e
  ·simp_all
  ·by_cases hk:(k==Yaw)=true
   ·rw[if_pos hk]at e;cases hc:cells.lookup n with
    |none=>lia
    |some c'=>
     rw[hc]at e;simp only[YaU]at e;by_cases hx:x=n
     ·subst hx;simp only[beq_self_eq_true]at e;cases e;exact .inl ⟨hc,by rw[eq_of_beq hk];exact YaC⟩
     ·rw[beq_eq_false_iff_ne.mpr hx]at e;exact .inr e
   lia
theorem jfM     : ∀{names } {acc },cells.lookup x=some c->acc.lookup x=some c->(jbM cells names acc).lookup x=some c
 |[],_,_,h=>h
 |(n,k)::r,acc,hc,h=>by
  unfold jbM;refine jfM hc ?_;split
  ·split
   ·rename_i c' e;by_cases hx:x=n
    ·subst hx;rw[hc]at e;cases e;simp
    ·simp only[YaU,beq_eq_false_iff_ne.mpr hx];exact h
   ·exact h
  ·exact h
theorem jec     : ∀{names } {acc },cells.lookup x=some c->(x,Yaw)∈names->(jbM cells names acc).lookup x=some c
 |(n,k)::r,acc,hc,h=>by
  unfold jbM;rcases YaW.mp h with e|h
  ·cases e;refine jfM hc ?_;simp[hc]
  ·exact jec hc h
structure CloScope (N P:List Str)(sc:Scope):Prop where
 kind:sc.kind=.function
 co:sc.isCoroutine=false
 gen:sc.isGenerator=false
 nd:N.Nodup
 pre:N.take P.length=P
 par:∀x∈P,sc.names.lookup x=some .local
 nocell:∀y∈sc.names,y.2≠.cell
 frees:∀x,(x,Yaw)∈sc.names->sc.names.lookup x=some .free

noncomputable def cxC  (P:Program)(w:World)(K:Yac)(mg:Str->Option Value)(base:Heap)(N:List Str)(qual:Str)(scope:Scope)(cl:List (Str×Addr))(f:Addr)(cd:Value)(A:Around)(outer:List Env)(s:Shared)(H:Hp)(E:XK):Cx where
 prog:=P
 w:=w
 K:=K
 mg:=mg
 base:=base
 A:=A.deeper (envX qual scope s.heap.objs.size f cd cl)
 N:=N
 s₀:=s
 H₀:=H
 env:=envX qual scope s.heap.objs.size f cd cl
 outer:=outer
 stack:=envX qual scope s.heap.objs.size f cd cl::outer
 ex:=[]
 calm:=true
 fn:=λx=>scope.names.lookup x != some .free
 pn:=[]
 xe:=XL (model P w) (A.deeper (envX qual scope s.heap.objs.size f cd cl)) (envX qual scope s.heap.objs.size f cd cl) λe s'=>CX1 P w outer H s E e s'
def jih    {i:Nat}(h:(start N vs)[i]?=some (some v)):vs[i]?=some v:=by
 unfold start at h;by_cases hi:i<vs.length
 ·rw[Ya1 (by simpa using hi),YaD]at h
  cases e:vs[i]? with
  |none=>rw[e]at h;cases h
  |some a=>rw[e]at h;simpa using h
 ·rw[Ybt (by simpa using hi),Ycj]at h
  split at h<;>cases h
def jlg  {ps:List Str}{i:Nat}{u:Value}(nd:ps.Nodup)(h1:ps[i]?=some x)(h2:us[i]?=some u):(ps.zip us).reverse.lookup x=some u:=by
 have hm:(x,u)∈ps.zip us:=YaI (List.getElem?_zip_eq_some.mpr ⟨h1,h2⟩);have key:∀{l:List (Str×Value)},(x,u)∈l->(∀v,(x,v)∈l->v=u)->l.lookup x=some u:=by
  intro l
  induction l with
  |nil=>simp_all
  |cons p r ih=>
   obtain⟨y,v⟩:=p;intro h hu;rw[YaU];by_cases hy:x=y
   ·subst hy;rw[beq_self_eq_true,hu v YaC]
   ·rw[beq_eq_false_iff_ne.mpr hy];rcases YaW.mp h with e|h
    ·cases e;exact absurd rfl hy
    ·exact ih h λv hv=>hu v (Yao _ hv)
 refine key (List.mem_reverse.mpr hm) λv hv=>?_;obtain⟨j,hj⟩:=List.getElem?_of_mem (List.mem_reverse.mp hv);obtain⟨e1,e2⟩:=List.getElem?_zip_eq_some.mp hj;obtain rfl:=jdq nd h1 e1
 lia
def jmC  {K: Yac}{tk:Tok} 
  (S:CloScope N ps scope) (hd:A.handled=none) (e0:Env0 P w K mg base A outer s H) (hl:vs.length=ps.length) (r:Vals vs us) (hN:vs.length+cvs.length<=N.length)
  (hns:h1.Ns s.heap.objs.size λx=>(ps.zip us).reverse.lookup x) (hk:∀b o,s.heap.get? b=some o->h1.get? b=some o)
  (hcl:∀x c,cl.lookup x=some c->scope.names.lookup x=some .free/\(∃v,s.heap.IsCell c v)/\H c=none) (inj:∀x y c,cl.lookup x=some c->cl.lookup y=some c->x=y)
  (has:∀x,scope.names.lookup x=some .free->∃c,cl.lookup x=some c)
  (hv:∀i x v,N[ps.length+i]?=some x->cvs[i]?=some v->scope.names.lookup x=some .free/\∃c u,cl.lookup x=some c/\RelV v u/\s.heap.IsCell c (some u)) :
  Inv (cxC P w K mg base N qual scope cl f cd A outer s H E) [] (start N (vs++cvs)) H { s with heap:=h1,toks:=tk }:=by
 have noA:∀b:Addr,b∉(cxC P w K mg base N qual scope cl f cd A outer s H E).ex:=λb z=>absurd (show b∈([]:List Addr)from z) (by simp)
 have cellK:∀{c:Addr} {v:Option Value},s.heap.IsCell c v->h1.IsCell c v:=λ⟨o,ho,hd⟩=>⟨o,hk _ _ ho,hd⟩;refine⟨⟨e0.mod,S.kind,rfl,rfl,Yab _,inj,λy hy=>?_,λy c hf h=>?_,λ_=>hd,YeW e0.frames,.inr ⟨rfl,rfl⟩,λb z=>absurd z (noA b),e0.bs,e0.bsz,λb _ _=>noA b,λb z=>absurd z (noA b),e0.funs,e0.frf⟩,
  rfl,e0.bare,Un.kept hk,⟨_,hns,λi y v h1 h2 h3=>?_⟩,λy c h=>?_,e0.hok.fresh (Yab _),λy c h=>(hcl y c h).2.2,λp hp=>absurd (show p∈([]:List (Addr×Obj))from hp) (by simp),e0.hok.kept hk,?_⟩
 ·have hy:scope.names.lookup y=some .cell\/scope.names.lookup y=some .free:=hy;rcases hy with hy|hy
  ·exact absurd rfl (S.nocell _ (Yat hy))
  ·exact has y hy
 ·have hf:(scope.names.lookup y != some .free)=true:=hf;rw[(hcl y c h).1]at hf
  lia
 ·have e:=jih h2;by_cases hi:i<vs.length
  ·rw[Ya1 hi]at e;obtain⟨u,hu,rv⟩:=r.get e;have hp:ps[i]?=some y:=by
    rw[<- S.pre,YeD (by lia)];exact h1
   have ndP:ps.Nodup:=by rw[<- S.pre];exact S.nd.sublist (YdG _ _)
   exact⟨u,rv,.inl ⟨S.par y (YaI hp),jlg ndP hp hu⟩⟩
  ·rw[Ybt (by lia)]at e
   obtain⟨hf,c,u,hc,rv,z⟩:=hv (i-vs.length) y v (by rw[<- hl,Nat.add_sub_cancel' (by lia)];exact h1) e
   exact⟨u,rv,.inr ⟨.inr hf,c,hc,cellK z⟩⟩
 ·obtain⟨_,⟨v,z⟩,_⟩:=hcl y c h
  grind
 ·unfold start;show _=N.length;rw[Yar,Yai,YeX,Yar]
  lia
def jmS  {K: Yac} 
  (ho:s.heap.get? f=some o) (hd:o.data=.func (fnX name qual params body scope cl .none .none doc pm none cdv ctv)) (hcd:s.heap.CodeRec cdv qual) (S:CloScope N ps scope) (hr:Room (k+1) A) (e0:Env0 P w K mg base A outer s H)
  (hb:BindsTo s (fnX name qual params body scope cl .none .none doc pm none cdv ctv) args (ps.zip us)) (r:Vals vs us) (hl:vs.length=ps.length) (hN:vs.length+cvs.length<=N.length)
  (hcl:∀x c,cl.lookup x=some c->scope.names.lookup x=some .free/\(∃v,s.heap.IsCell c v)/\H c=none) (inj:∀x y c,cl.lookup x=some c->cl.lookup y=some c->x=y)
  (has:∀x,scope.names.lookup x=some .free->∃c,cl.lookup x=some c)
  (hv:∀i x v,N[ps.length+i]?=some x->cvs[i]?=some v->scope.names.lookup x=some .free/\∃c u,cl.lookup x=some c/\RelV v u/\s.heap.IsCell c (some u))
  (hbody:Room k (A.deeper (envX qual scope s.heap.objs.size f cdv cl))->∃t,PSs (cxC P w K mg base N qual scope cl f cdv A outer s H E) body t/\t { nx:=λ_ H'=>Q .non H',rt:=Q } (start N (vs++cvs)) H) :
  codeAny (model P w) A (.call (.ref f) args) (CR (CX1 P w) outer P w H s Q E) s:=by
 have lim:s.heap.NoLimit:=e0.mod.nolimit.keeps λb o e=>(e0.bs b o e).1;refine codeAny_call_def (fd:=fnX name qual params body scope cl .none .none doc pm none cdv ctv) (body:=body) hr.depth ho hd lim hcd rfl hb S.nocell (λy hy=>S.par y.1 (Yci (show(y.1,y.2)∈_ from hy)).1) (λh1 hns hk=>?_) S.co S.gen S.kind;obtain⟨t,ht,hq⟩:=hbody (hr.deeper _);have I:=jmC (tk:=s.toks+(ps.zip us).length) (qual:=qual) (f:=f) (cd:=cdv) (E:=E) S hr.hd e0 hl r hN hns hk hcl inj has hv;refine YaL (ht [] _ _ H _ I hq) (λfl s' hs=>?_) λe s' z=>?_
 ·have fin:∀{σ':St} {H':Hp} {v:V} {u:Value},Inv (cxC P w K mg base N qual scope cl f cdv A outer s H E) [] σ' H' s'->RelV v u->Q v H'->CE outer P w H s Q u s':=
   λ{σ' H' v u} J rv q=>⟨v,H',J.os,J.bare,J.base,J.hok,rv,q⟩
  cases fl with
  |ret u=>
   obtain⟨v,σ',H',J,rv,q⟩:=hs;exact fin J rv q
  |next=>
   obtain⟨σ',H',J,q⟩:=hs;exact fin (v:=V.non) (u:=Ybs) J rfl q
  |brk=>
   obtain⟨_,_,_,q⟩:=hs
   lia
  |cont=>
   obtain⟨_,_,_,q⟩:=hs
   lia
 ·show wpAny _ _ (leaving _ e) _ _ s';unfold leaving;exact Yad z
def Fun.runX  {K: Yac}{st:Stmt} 
  (F:Fun K x qual st f fd) (S:FnScope N ps (jaa st)) (hr:Room (k+1) A) (e0:Env0 P w K mg base A outer s H) (hb:BindsTo s fd args (ps.zip us)) (r:Vals vs us) (hl:vs.length=ps.length)
  (hbody:∀cdv,fd.code=cdv->Room k (A.deeper (envOfC qual (jaa st) s.heap.objs.size f cdv))->∃t,PSs (cx1 P w K mg base N qual (jaa st) f cdv A outer s H E) (jaf st) t/\t { nx:=λ_ H'=>Q .non H',rt:=Q } (start N vs) H) :
  codeAny (model P w) A (.call (.ref f) args) (CR (CX1 P w) outer P w H s Q E) s:=by
 obtain⟨oc,od,kV,doc,pm,an,cdv,ct,osl,rfl,lk,hcd⟩:=F.ex;have kx:K.In s.heap:=e0.mod.kin.keeps λb o e=>(e0.bs b o e).1;have hcell:∀y∈ps.zip us,(jaa st).names.lookup y.1=some .local\/((jaa st).names.lookup y.1=some .cell/\((Ya9 (s.heap.objs.size+1) (jaa st).names []).lookup y.1).isSome=true):=λ⟨n,v⟩ hy=>
  (S.par n (Yci hy).1).imp id λq=>⟨q,Ych _ _ _ (.inl q)⟩
 refine Ydt hr.depth (kx _ _ lk) rfl S.co S.gen rfl (Ydg kx hcd) (hb _ _ _ _ (YcV S.kind hcell λenv he s1 y=>?_));subst he;refine⟨(e0.mod.nolimit.keeps λb o e=>(e0.bs b o e).1).keeps y.toInCall.keep,YfN ?_⟩;obtain⟨t,ht,hq⟩:=hbody cdv rfl (hr.deeper _);have I:Inv (cxOf (CX1 P w) P w K mg base N qual (jaa st) f cdv A outer s H E) [] (start N vs) H s1:=jdT S hr.hd e0 hl r y;refine YaL (ht [] s1 (start N vs) H _ (I.wish _) hq) (λfl s' hs=>?_) λe s' z=>?_
 ·cases fl with
  |ret u=>obtain⟨v,σ',H',J,rv,q⟩:=hs;exact⟨v,H',J.os,J.bare,J.base,J.hok,rv,q⟩
  |next=>obtain⟨σ',H',J,q⟩:=hs;exact⟨.non,H',J.os,J.bare,J.base,J.hok,rfl,q⟩
  |brk=>obtain⟨_,_,_,q⟩:=hs;lia
  |cont=>obtain⟨_,_,_,q⟩:=hs;lia
 ·show wpAny _ _ (leaving _ e) _ _ s';unfold leaving;exact Yad z
def CX1.outC  {K: Yac}{σ:St} 
  (I:Inv (cxC P w K mg base N qual scope cl f cd A outer s H E) pins σ H' s') (l:Lies s.heap.objs.size [] H' s'.heap ea cls dx) (q:E cls dx H'):(cxC P w K mg base N qual scope cl f cd A outer s H E).xe (.ref ea) s':=by
 have J:Inv (cxC P w K mg base N qual scope cl f cd A outer s H E) [] σ H' s':=I.pins_of λp hp=>absurd hp (by simp)
 exact jiW (X:=cxC P w K mg base N qual scope cl f cd A outer s H E) (E:=λe s'=>CX1 P w outer H s E e s') J rfl rfl l λh' J' l'=>⟨ea,H',cls,dx,rfl,J'.os,J'.bare,J'.base,J'.hok,l',q⟩
def jmX  (o:Obj)(q:Str):Prop:=∃vs t,o.data=.fields vs/\vs[1]?=some (.str q t)
noncomputable abbrev frzC  (o:Obj):HO:=.frz o (.ext λ_=>True)
def jle  (H:Hp)(P:Addr)(pos:Pos)(q:Str):Prop:=
 H P=some (.tbl #[])\/∃c oc,H P=some (.tbl #[rawInt pos.line,rawInt pos.col,.ref c])/\H c=some (frzC oc)/\jmX oc q
def jlf  (H H':Hp)(P:Addr)(pos:Pos)(q:Str)(c:Addr)(oc:Obj):Prop:=
 H' c=some (frzC oc)/\jmX oc q/\(H'=H\/(H P=some (.tbl #[])/\H c=none/\H'=upd (upd H c (frzC oc)) P (.tbl #[rawInt pos.line,rawInt pos.col,.ref c])))
def BmAt  (mg:Str->Option Value)(base:Heap):Prop:=∃bm ob,mg "__builtins__" = some (.ref bm)/\bm≠Ydz/\base.get? bm=some ob/\ob.cls=.type "module" /\ ob.dict=some Ydz/\ob.data=.plain

def jkg  {σ: St}(I:Inv X pins σ H s)(hN:X.N.Nodup)(hi:X.N[i]?=some name)(hx:Loc X.env.scope name)(hfn:X.fn name=true\/X.env.scope.names.lookup name=some .local)
  (hcd:X.env.code=.ref c) (hC:CodeHd X.base c P) (hB:BmAt X.mg X.base) (hT:jle H P pos (YcL X.env name name)) (hd0:params.defaults=[]) (hk0:params.kw_defaults=[]) (ha:annTrees params none X.env=[])
  (hfree:∀y∈scope.names,y.2=.free->∃c,X.env.cells.lookup y.1=some c)
  (h:∀f c' oc doc ctv H' s',jlf H H' P pos (YcL X.env name name) c' oc->
   Inv X (pins++[(f,fnMade name (YcL X.env name name) params body scope (jbM X.env.cells scope.names []) doc ((X.mg "__name__").getD .none) c' ctv)]) (σ.set i (some (.ref f))) H' s'->Q .next s') :
  wpAny (model X.prog X.w) X.A (exec (.FunctionDef name params body [] none [] scope none name pos) X.env) Q X.xe s:=by
 refine nestDef_K hd0 hk0 ha ?_;have hg:s.heap.Ns Yax X.mg:=I.mod.glob.keeps I.bk;obtain⟨bm,ob,b1,b2,b3,b4,b5,b6⟩:=hB;have b3s:=I.bk _ _ b3;have neG:bm≠Yax:=λq=>by
  obtain⟨o,es,ep,e,hd,_⟩:=hg
  lia
 have noP:∀{ps:Array Value},s.heap.get? P=some (tabObj ps)->Yax≠P/\bm≠P:=by
  intro ps hP;constructor
  ·intro q;obtain⟨o,es,ep,e,hd,_⟩:=hg
   lia
  lia
 have pinOk:∀{f:Addr} {fo:Obj} {H':Hp} {s':Shared},s.heap.objs.size<=f->s'.heap.get? f=some fo->H' f=none->(∀v,fo.data≠.cell v)->Inv X pins σ H' s'->Inv X (pins++[(f,fo)]) σ H' s':=λ{f fo H' s'} hf hg hn hd J=>
  J.pins_of λp hp=>(List.mem_append.mp hp).elim (λz=>J.pin p (YaA _ z)) λz=>by
   rw[List.mem_singleton.mp z];exact⟨hg,hn,Nat.ne_of_gt (Yan I.lt hf),I.nofs hf,hd⟩
 rcases hT with hP|⟨c',oc,hP,hc',hco⟩
 ·have gP:s.heap.get? P=some (tabObj #[]):=I.hok P _ hP;refine makeFunction_K (mg:=X.mg) (jcG hfree) I.ok.glob hg hcd (hC.keeps I.bk) gP trivial rfl (noP gP).1 ⟨bm,ob,b1,b2,neG,(noP gP).2,b3s,b4,b5,b6⟩ λc' ctv doc h' tk hx1 hge hlt hrec htb=>?_;obtain⟨c2,oc,vs,t,e2,hoc,hdc,hvc⟩:=hrec;cases e2;have hcn:H c'=none:=I.hok.fresh hge;have hcP:c'≠P:=λz=>by lia
  have htb':h'.get? P=some (tabObj #[rawInt pos.line,rawInt pos.col,.ref c']):=by
   simp_all
  let fo:=fnMade name (YcL X.env name name) params body scope (jbM X.env.cells scope.names []) doc ((X.mg "__name__").getD .none) c' ctv
  let H':=upd (upd H c' (frzC oc)) P (.tbl #[rawInt pos.line,rawInt pos.col,.ref c'])
  have oth:∀b,b≠P->b≠c'->H' b=H b:=λb h1 h2=>by show upd _ _ _ b=_;rw[jae h1,jae h2]
  have hPP:H' P=some (.tbl #[rawInt pos.line,rawInt pos.col,.ref c']):=jaj;have hcc:H' c'=some (frzC oc):=by show upd _ _ _ c'=_;rw[jae hcP,jaj]
  have neP:∀b,H b=none->b≠P:=λb n z=>by lia
  have neC:∀b o,s.heap.get? b=some o->b≠c':=λb o e z=>absurd (Yam e) (Nat.not_lt.mpr (z ▸ hge));have kp:∀b o,b≠P->s.heap.get? b=some o->(h'.push fo).get? b=some o:=λb o hb e=>Yae _ (hx1 b o hb e);have trc:∀b u,H b=some u->b≠c':=λb u e z=>by lia
  have un:Un X.fs [] H H' s.heap (h'.push fo):=by
   refine⟨λb o e n _ _=>kp b o (neP b n) e,λb o e n _ _=>⟨o.slots,kp b o (neP b n) e⟩,λb o e n _=>?_,λb o e _=>?_,λb xs e=>?_,λb o u e=>?_,λb ps e=>?_⟩
   ·simp_all
   ·by_cases hb:b=P
    ·exact⟨_,by rw[hb];exact Yae _ htb'⟩
    simp_all
   ·grind
   ·grind
   ·by_cases hb:b=P
    ·simp_all
    simp_all
  have hok:HOk X.prog X.w H' (h'.push fo):=λb u e=>by
   by_cases hb:b=P
   ·subst hb;rw[hPP]at e;cases e;exact Yae _ htb'
   ·by_cases hbc:b=c'
    ·subst hbc;rw[hcc]at e;cases e;exact⟨Yae _ hoc,trivial,⟨_,Yae _ hoc⟩,λ_ _ _ _=>trivial⟩
    ·rw[oth b hb hbc]at e;refine(I.hok b u e).stay (λd v hd q=>kp d v ?_ q) (λd q=>?_) λd xs q=>?_
     ·lia
     ·grind
     grind
  have hfs:s.heap.objs.size<=h'.objs.size:=Yb1 (YaS hge hlt);have hfn':H' h'.objs.size=none:=by
   have hn:H h'.objs.size=none:=I.hok.fresh hfs
   grind
  have J:=pinOk (fo:=fo) (s':={ s with heap:=h'.push fo,toks:=tk }) hfs (Yau _ rfl) hfn' (λv z=>by cases z) (I.un (t':=tk) un hok)
  exact jbf J hN hi hx (v:=.ref h'.objs.size) rfl (λs' J'=>h _ c' oc doc ctv H' s' ⟨hcc,⟨vs,t,hdc,hvc⟩,.inr ⟨hP,hcn,rfl⟩⟩ J') hfn
 ·have gP:s.heap.get? P=some (tabObj #[rawInt pos.line,rawInt pos.col,.ref c']):=I.hok P _ hP;refine makeFunction_hit (mg:=X.mg) (cv:=.ref c') (jcG hfree) I.ok.glob hg hcd (hC.keeps I.bk) gP trivial (by simp[codeAmong,rawInt]) ⟨bm,ob,b1,b2,neG,(noP gP).2,b3s,b4,b5,b6⟩ λctv doc h' tk hk hsz=>?_
  have kp:∀b o,s.heap.get? b=some o->(h'.push (fnMade name (YcL X.env name name) params body scope (jbM X.env.cells scope.names []) doc ((X.mg "__name__").getD .none) c' ctv)).get? b=some o:=λb o e=>Yae _ (hk b o e);have J:=pinOk (fo:=fnMade name (YcL X.env name name) params body scope (jbM X.env.cells scope.names []) doc ((X.mg "__name__").getD .none) c' ctv) (H':=H) (s':={ s with heap:=_,toks:=tk }) hsz (Yau _ rfl) (I.hok.fresh hsz) (λv z=>by cases z) (I.kept (t':=tk) kp)
  exact jbf J hN hi hx (v:=.ref h'.objs.size) rfl (λs' J'=>h _ c' oc doc ctv H s' ⟨hc',hco,.inl rfl⟩ J') hfn
def jkA  (tb:List Addr)(H:Hp):Prop:=∀b,if b∈tb then H b=some (.tbl #[]) else H b=none\/∃o xs,H b=some (.frz o (.lst xs))
def law_callT    {K:Yac}{CX:CXT}{k:Nat}{x:Str}{sp:Sp} 
  (hKl:(K.all λp=>p.2.cls != .type "list")=true) (htb:∀b∈tb,s₁.heap.get? b=some (tabObj #[])/\isCodeTable s₁.heap b/\K.lookup b=none) (hbm:BmAt mg s₁.heap)
  (KX:K.In s₁.heap) (hsys:∃o,K.lookup Ya3=some o/\o.cls=.type "dict") (hns:s₁.heap.Ns Yax mg) (hb:s₁.heap.Ns Ydz mb) (hbb:∀x:Str,x ≠ "__name__" -> mb x=YbR x) (hlim:s₁.heap.NoLimit) (hg:s₁.gens=#[])
  (ha:s₁.heap.get? a=some { cls:=.type "list",data:=.seq vs.toArray }) (hi:IntsAre vs ns) (hl:ns.length<=Yag) (hr:Room k callerA)
  (F:∀base ,K.In base->base.Ns Yax mg->BmAt mg base->FnOk P w K mg base CX k fa fd [x] sp) (hbind:∀(s:Shared) u ,BindsTo s fd ⟨[u],[]⟩ [(x,u)])
  (hsp:∀H (o:Obj),jkA tb H->H a=some (.frz o (.lst (ns.map V.int)))->sp [.ref a] H (λv _=>v=.bl true) λ_ _ _=>False)
  (hCX:∀H e s',CX [] H s₁ (λ_ _ _=>False) e s'->False) :
  codeAny (model P w) callerA (.call (.ref fa) ⟨[.ref a],[]⟩) (λr s'=>r=.ok (.ret (.bool true))/\OldK s₁.heap s'.heap/\s'.os=s₁.os/\AllBare s'.gens) s₁:=by
 have ka:K.lookup a=none:=by
  cases hk:K.lookup a with
  |none=>rfl
  |some o=>
   have e:=KX a o hk;rw[ha]at e;cases e;have:=Yc1.mp hKl (a,_) (mem_of_lookupK hk)
   lia
 let oa:Obj:={ cls:=.type "list",data:=.seq vs.toArray }
 have hat:a∉tb:=λz=>by
  simp_all
 obtain⟨H,hH⟩:∃H:Hp,H=λb=>if b∈tb then some (.tbl #[]) else if b=a then some (.frz oa (.lst (ns.map V.int))) else none:=⟨_,rfl⟩
 have H1:∀{b},b∈tb->H b=some (.tbl #[]):=λhb=>by lia
 have H2:H a=some (.frz oa (.lst (ns.map V.int))):=by
  lia
 have H3:∀{b},b∉tb->b≠a->H b=none:=λ{b} h1 h2=>by
  lia
 clear hH;have free:∀{b:Addr} {o:Obj},s₁.heap.get? b=some o->o.cls≠.none->(∀xs n,o.data≠.seq xs n)->H b=none:=λ{b o} e h1 h2=>by
  refine H3 (λz=>?_) λz=>?_
  ·grind
  grind
 have hok:HOk P w H s₁.heap:=λb u e=>by
  by_cases h1:b∈tb
  ·rw[H1 h1]at e;cases e;exact(htb b h1).1
  ·by_cases h2:b=a
   ·subst h2;rw[H2]at e;cases e;exact⟨ha,by simp_all,vs,_,jfc hi,ha⟩
   simp_all
 have nsK:∀{b:Addr} {m:Str->Option Value},s₁.heap.Ns b m->(hidT s₁.heap H).Ns b m:=λ{b m} ⟨o,es,ep,e,d,r⟩=>by
  refine⟨o,es,ep,je3 e (H3 (λz=>?_) λz=>?_),d,r⟩
  ·grind
  lia
 have hKb:K.In (hidT s₁.heap H):=λb o e=>je3 (KX b o e) (H3 (λz=>by grind) λz=>by lia)
 have hM:Mod K mg (hidT s₁.heap H):=⟨hKb,nsK hns,⟨mb,nsK hb,hbb⟩,let ⟨mc,h1,h2⟩:=hlim;⟨mc,nsK h1,h2⟩,hsys⟩
 have hBb:BmAt mg (hidT s₁.heap H):=by
  obtain⟨bm,ob,b1,b2,b3,b4,b5,b6⟩:=hbm;exact⟨bm,ob,b1,b2,je3 b3 (free b3 (by lia) (by lia)),b4,b5,b6⟩
 have e0:Env0 P w K mg (hidT s₁.heap H) callerA [] s₁ H:=⟨rfl,hM,λb o e=>jmi e,YdW (ji8 _ _),trivial,λb hb=>(nomatch hb),hok,.of_eq hg⟩;have only:jkA tb H:=λb=>by
  grind
 refine YcY ((F _ hKb (nsK hns) hBb).run callerA [] s₁ H ⟨[.ref a],[]⟩ [.ref a] [.ref a] _ _ hr e0 (hbind s₁ (.ref a)) (.cons rfl .nil) (hsp H oa only H2)) λr s' h=>?_
 match r,h with
 |.error e,h=>exact(hCX H e s' h).elim
 |.ok (.ret u),h=>
  obtain⟨v,H',os,bare,un,hok',r',q⟩:=h;have q':v=.bl true:=q;subst q';obtain rfl:u=Yeq true:=r';refine⟨rfl,⟨λb o e=>?_,λb o e=>un.there b o e (by simp)⟩,os,bare⟩
  by_cases h1:b∈tb
  ·obtain⟨e1,ht,_⟩:=htb b h1;rw[e]at e1;cases e1;obtain⟨more,e2⟩:=un.tbls b _ (H1 h1);exact .inr (.inl ⟨ht,rfl,#[],more,rfl,hok' b _ e2⟩)
  ·by_cases h2:b=a
   ·subst h2;obtain⟨e2,_⟩:=hok' b _ (un.frzs b _ _ H2);rw[ha]at e;cases e;exact .inl e2
   ·exact .inl (un.keep b o e (H3 h1 h2) (by intro z;exact(nomatch z)) (by simp))
def walk_ofT  {l:YdN}{K:Params->Yac}{CX:World->CXT}{sp:World->Sp}{tbs:List (Str×Addr×Addr)}
  (hKl:∀w:World,((K w.params).all λp=>p.2.cls != .type "list")=true) (htb:∀(w:World),∀t∈tbs,(∃dr,(recsOf q).find? (λe=>e.name==t.1)=some dr)/\tabIn (K w.params) t.1=some (t.2.1,t.2.2)/\(K w.params).lookup t.2.2=none)
  (hn:l.most=some n) (hn2:n<=Yag) (hdf:d.params.defaults=[]) (hr:Room k callerA)
  (hY:∀(w:World) (h:Heap),YP w h->(K w.params).In h) (hsy:∀w:World,∃o,(K w.params).lookup Ya3=some o/\o.cls=.type "dict")
  (F:∀(w:World) mg fa (h:Heap),(K w.params).In h->h.Ns Yax mg->mg d.name=some (.ref fa)->
   ∃fd ,(∀(s:Shared) u ,BindsTo s fd ⟨[u],[]⟩ [(x,u)])/\
    ∀base ,(K w.params).In base->base.Ns Yax mg->BmAt mg base->FnOk l.prog w (K w.params) mg base (CX w) k fa fd [x] (sp w))
  (hsp:∀(w:World) H (o:Obj) a (ns:List Int),ns.length<=n->jkA (tbs.map (·.2.2)) H->H a=some (.frz o (.lst (ns.map V.int)))->sp w [.ref a] H (λv _=>v=.bl true) λ_ _ _=>False)
  (hCX:∀(w:World) H (s:Shared) (e:Value) s' ,CX w [] H s (λ_ _ _=>False) e s'->False) :
  YfP q loose XP YP l.row.toRowW d [] (λf vs=>Yfs f vs):=by
 refine Att.attach_call hn hdf λw s₀ s₁ mg mb fa o pm cd doc a vs ns G Y ho hd hcd hmg hobj hints hlen hg=>?_;have kx:=hY w _ Y;obtain⟨fd,hb,hF⟩:=F w mg fa _ kx G.T.g hmg;refine law_callT (tb:=tbs.map (·.2.2)) (hKl w) (λb hb=>?_) ?_ kx (hsy w) G.T.g G.T.b G.T.builtins G.T.nolimit hg hobj hints (Yah hlen hn2) hr hF hb (λH o hO hS=>hsp w H o a ns hlen hO hS) λH e s'=>hCX w H s₁ e s'
 ·obtain⟨t,ht,rfl⟩:=List.mem_map.mp hb;obtain⟨⟨dr,h1⟩,h2,h3⟩:=htb w t ht;obtain⟨c1,c2⟩:=tab_of G.T kx h1 h2;exact⟨c2,(c1.tab c2).isCodeTable,h3⟩
 ·obtain⟨bm,ob,b1,b2,b3,b4,b5,b6⟩:=G.T.bmain;exact⟨bm,ob,b1,b2,b3,b4,b5,b6⟩
end L2

namespace L2
open PySem PySem.Spec PyProof.Rows
open Sem (wp)
open AutoSeq1 (wpAny_loadPart')



end L2

namespace L2
open PySem PySem.Spec PyProof.Rows

def jiC  : OpR X (YaG .LtE) (λx y H Q=>∃i j,x=.str i/\y=.str j/\Q (.bl (!decide (j.cps.toList<i.cps.toList))) H):=by
 intro pins s σ H x y v u Q I rx ry h;obtain⟨i,j,rfl,rfl,q⟩:=h;obtain⟨t,rfl⟩:=rx;obtain⟨t',rfl⟩:=ry;exact PySem.P.le_str (jam I q rfl)
def jfa  : jaN X (.type "int") (λxs H Q=>∃z n,xs=[.str z]/\PySem.intText? z=some n/\z.length<=640/\Q (.int n) H):=by
 intro pins s σ H xs us Q I r h;obtain⟨z,n,rfl,h1,h2,q⟩:=h;obtain⟨u,rfl,rx⟩:=jcJ r;obtain⟨t,rfl⟩:=rx;exact PySem.W.KIN.call_text h1 h2 ⟨.int n,H,I.tok _,⟨_,rfl⟩,q⟩
end L2

namespace L2
open PySem PySem.Spec PyProof.Rows Builtin Builtin.Str

end L2

namespace L2
open PySem PySem.Spec PyProof.Rows
section
variable {prog:Program}{w:World}{K:Type}[DecidableEq K]{knd:KeyKind prog w K}{A:Around}{E:Value->Shared->Prop}{s:Shared}
end



end L2

namespace L2
open PySem PySem.Spec PyProof.Rows
open Sem (wp)


end L2

namespace L2
open PySem PySem.Spec PyProof.Rows PySem.W


end L2

namespace L2
open PySem PySem.Spec PyProof.Rows



end L2

namespace L2
open PySem PySem.Spec PyProof.Rows PySem.SeqAt PySem.MeetsSeq

def jf5         b u (ho:s.heap.get? l=some o)(hc:o.cls=.type "dict")(hd:o.data=.dict es n)(hu:A.units<cLine):RcAt A s (.str b u) (.ref l) false:=λprog w E Q h=>by
 obtain⟨cls,dd,data,sl⟩:=o;simp only at hc hd;subst hc hd;exact rc_eq_decline_or (k:=false) (YcK s b u) ⟨_,ho,rfl⟩ (by decide) F.sub_dict_str F.slot_str_eq YfV
  (λ_ hq=>Ybr F.slot_str_eq (YcK s b u) F.entry_str_eq (F.args_str_eq_2 _ _) (jaT b u l es n dd sl) ⟨ho,hq⟩)
  (λ_ hq=>Ybr YfV ⟨_,ho,rfl⟩ F.entry_dict_eq (F.args_dict_eq_2 _ _) (jaU l es n dd sl b u) ⟨ho,hq⟩)
  (λ_ hq=>wpAny_of_eq (rfl:isSame (.str b u) (.ref l)=pure false) hq) (.inr hu) h
def EqAt.str_dict         b u (ho:s.heap.get? l=some o)(hc:o.cls=.type "dict")(hd:o.data=.dict es n)(hu:A.units<cLine):EqAt A s (.str b u) (.ref l) false:=λprog w E Q h=>by
 unfold eqBool;exact Yb8 (wpAny_ite_split (λq=>absurd (eq_of_beq q) nofun) λ_=>Yad (jf5 b u ho hc hd hu prog w E _ (YaY h)))
def rInS  (K:Yac)(neg:Bool):R2:=λx y H Q=>∃(a p:Addr) (zs:List Str),x=.ref a/\((∃xs,SqT K H a xs\/SqL K H a xs)\/∃kvs,H a=some (.dK kvs))/\y=.ref p/\SqT K H p (zs.map V.str)/\Q (.bl neg) H
theorem jgV  : ∀{zs:List Str} {us } {w },Vals (zs.map V.str) us->w∈us->∃z t,w=.str z t
 |[],_,_,.nil,h=>nomatch h
 |_::_,_,_,.cons ⟨t,e⟩ q,h=>by
  rcases YaW.mp h with rfl|h
  ·exact⟨_,t,e⟩
  ·exact jgV q h
def jk1   {σ:St}{zs:List Str}(hu:A.units<cLine)(I:Inv X pins σ H s)(ha:(∃xs,SqT X.K H a xs\/SqL X.K H a xs)\/∃kvs,H a=some (.dK kvs))(r:Vals (zs.map V.str) us):∀w,w∈us->Yer A s w (.ref a) false:=by
 intro w hw;obtain⟨z,t,rfl⟩:=jgV r hw;rcases ha with⟨xs,ha|ha⟩|⟨kvs,ha⟩
 ·obtain⟨its,rv,pa,_⟩:=I.tuple ha;exact .str_tuple z t (show s.heap.IsTuple a its.toArray from pa) hu
 ·obtain⟨its,rv,pa,_⟩:=I.list ha;exact .str_list z t pa.isList hu
 ·obtain⟨_,_,vs,_,o,es,ep,ho,hx,hd,_⟩:kvs.length<=Yag/\(a==Ya3)=false/\∃vs,KV kvs vs/\s.heap.DictOf (jas X.prog X.w) a vs:=I.hok a _ ha;exact EqAt.str_dict z t ho hx.1 hd hu
def jn6   (hr:Room k X.A):OpR X (YaG .In) (rInS X.K false):=by
 intro pins s σ H x y v u Q I rx ry h;obtain⟨a,p,zs,rfl,ha,rfl,hp,q⟩:=h;cases rx;cases ry;obtain⟨its,r,pl,_⟩:=I.tuple hp;have h1:=jk1 (A:=X.A.in1) (by have:=hr.un;simp only[Around.in1]at *;lia) I ha r
 refine YdL (λ_=>false) pl (λw hw=>h1 w (by simp_all)) ⟨.bl _,H,I,rfl,?_⟩
 rw[show its.toArray.any (λ_=>false)=false by simp]
 exact q
def jiA   (hr:Room k X.A):OpR X (YaG .NotIn) (rInS X.K true):=by
 intro pins s σ H x y v u Q I rx ry h;obtain⟨a,p,zs,rfl,ha,rfl,hp,q⟩:=h;cases rx;cases ry;obtain⟨its,r,pl,_⟩:=I.tuple hp;have h1:=jk1 (A:=X.A.in1) (by have:=hr.un;simp only[Around.in1]at *;lia) I ha r
 refine Ydf (λ_=>false) pl (λw hw=>h1 w (by simp_all)) ⟨.bl _,H,I,rfl,?_⟩
 rw[show its.toArray.any (λ_=>false)=false by simp]
 exact q
def jhC   (hr:Room k X.A):OpR X (YaG .NotEq) (λx y H Q=>∃a b xs,x=.ref a/\y=.ref b/\SqL X.K H a xs/\SqL X.K H b []/\Q (.bl (!xs.isEmpty)) H):=by
 intro pins s σ H x y v u Q I rx ry h;obtain⟨a,b,xs,rfl,rfl,ha,hb,q⟩:=h;cases rx;cases ry;obtain⟨its,rv,pa,_⟩:=I.list ha;obtain⟨its2,rv2,pb,_⟩:=I.list hb;cases rv2;have hu:X.A.units<cLine:=hr.units0;have pa':s.heap.IsList a its.toArray:=pa.isList;have pb':s.heap.IsList b ([]:List Value).toArray:=pb.isList;cases rv with
 |nil=>
  refine YcF (SeqAt.RcNeAt.lists (e:=λ_=>true) pa' pb' rfl hu λj h1 _=>?_) ⟨.bl false,H,I,rfl,q⟩;simp at h1
 |cons r rr=>
  exact YcF (SeqAt.RcNeAt.lists_lengths pa' pb' (by simp) hu) ⟨.bl true,H,I,rfl,q⟩
end L2

namespace Z
open PySem L2
set_option genInjectivity true
inductive U where
 |non|bl (b:Bool)|int (i:Int)|str (x:Str)|tup (xs:List U)|loc (a:Addr)|fn (n:Nat)|ty (n:String)
 |exc (c:Nat) (fs:List U)|own (n:Nat)|clo (n:Nat) (cs:List U)
set_option genInjectivity false
inductive MO where
 |lst (xs:List U)|fro (xs:List U)|dK (kvs:List (Key×U))|dT (kvs:List (List Key×U))|frd (o:Obj) (kvs:List (List Key×U))|frk (o:Obj) (kvs:List (Key×U))
abbrev Gp:=Addr->Option MO
noncomputable def gup  (G:Gp)(a:Addr)(o:MO):Gp:=λb=>if b=a then some o else G b
structure New (G:Gp)(p:Addr)(o:MO)(G':Gp):Prop where
 no:G p=none
 eq:G'=gup G p o
structure Put (G:Gp)(a:Addr)(o:MO)(G':Gp):Prop where
 eq:G'=gup G a o
structure XV where
 c:Nat
 fs:List U
abbrev Sg:=List (Option U)
abbrev K1:=U->Gp->Prop
abbrev KX:=XV->Gp->Prop
def newO  (G:Gp)(o:MO)(Q:K1):Prop:=∀p G',New G p o G'->Q (.loc p) G'
def putO  (G:Gp)(a:Addr)(o:MO)(Q:Gp->Prop):Prop:=∀G',Put G a o G'->Q G'
def newO.at     (h:newO G o Q):∀p,G p=none->Q (.loc p) (gup G p o):=λp hp=>h p _ ⟨hp,rfl⟩
def putO.at      (h:putO G a o Q):Q (gup G a o):=h _ ⟨rfl⟩
structure En where
 nx:Sg->Gp->Prop
 rt:K1
 ex:XV->Sg->Gp->Prop
noncomputable def lsG  (G:Gp)(a:Addr):Option (List U):=match G a with
 |some (.lst xs)=>some xs
 |some (.fro xs)=>some xs
 |_=>none
noncomputable def kU  : U->Option Key
 |.int i=>some (.inl i)
 |.str x=>some (.inr x)
 |_=>none
noncomputable def kUs  : List U->Option (List Key)
 |[]=>some []
 |u::r=>match kU u,kUs r with
  |some k,some ks=>some (k::ks)
  |_,_=>none
noncomputable def Ku  : Key->U
 |.inl i=>.int i
 |.inr x=>.str x
section
variable {κ α:Type}[DecidableEq κ]
noncomputable def dGet (kvs:List (κ×α))(k:κ):Option α:=(kvs.find? λkv=>decide (kv.1=k)).map (·.2)
noncomputable def dPut (kvs:List (κ×α))(k:κ)(v:α):List (κ×α):=
 if (kvs.any λkv=>decide (kv.1=k))=true then kvs.map (λkv=>if kv.1=k then (kv.1,v) else kv) else kvs++[(k,v)]
def jd9 (more:List (κ×α)):List (κ×α):=more.foldl (λacc kv=>dPut acc kv.1 kv.2) []
end
def cut  {α:Type}(xs:List α)(lo hi:Option Int):List α:=(xs.drop (HT.sIx xs.length 0 lo)).take (HT.sIx xs.length xs.length hi-HT.sIx xs.length 0 lo)
mutual
inductive DU (G:Gp):U->PyData->Prop
 |non:DU G .non .none
 |bl (b:Bool):DU G (.bl b) (.bool b)
 |int (i:Int):DU G (.int i) (.int i)
 |str (x:Str):DU G (.str x) (.str x)
 |tup {us:List U} {ds:List PyData}:DUs G us ds->DU G (.tup us) (.tuple ds)
 |lst {a:Addr} {us:List U} {ds:List PyData}:lsG G a=some us->DUs G us ds->DU G (.loc a) (.list ds)
 |dic {a:Addr}:G a=some (.dK [])->DU G (.loc a) (.dict [])
inductive DUs (G:Gp):List U->List PyData->Prop
 |nil:DUs G [] []
 |cons {u:U} {d:PyData} {us:List U} {ds:List PyData}:DU G u d->DUs G us ds->DUs G (u::us) (d::ds)
end
def addU  : U->U->Gp->K1->Prop
 |.int i,.int j,G,Q=>Q (.int (i+j)) G
 |.str x,.str y,G,Q=>x.length+y.length<=Yag/\Q (.str (x++y)) G
 |.tup xs,.tup ys,G,Q=>xs.length+ys.length<=Yag/\Q (.tup (xs++ys)) G
 |.loc a,.loc b,G,Q=>∃xs ys,G a=some (.lst xs)/\G b=some (.lst ys)/\xs.length+ys.length<=Yag/\newO G (.lst (xs++ys)) Q
 |.bl b,.int j,G,Q=>Q (.int ((if b=true then (1:Int) else 0)+j)) G
 |_,_,_,_=>False
def subU  : U->U->Gp->K1->Prop
 |.int i,.int j,G,Q=>Q (.int (i-j)) G
 |.bl b,.int j,G,Q=>Q (.int ((if b=true then (1:Int) else 0)-j)) G
 |.int i,.bl b,G,Q=>Q (.int (i-if b=true then (1:Int) else 0)) G
 |_,_,_,_=>False
def mulU  : U->U->Gp->K1->Prop
 |.int i,.int j,G,Q=>CMul i j/\Q (.int (i*j)) G
 |.loc a,.int k,G,Q=>∃xs,G a=some (.lst xs)/\-(2 ^ 63)<=k/\k<2 ^ 63/\xs.length*k.toNat<=Yag/\newO G (.lst (Yaa k.toNat xs).flatten) Q
 |.tup xs,.int k,G,Q=>xs≠[]/\0<=k/\k<2 ^ 62/\xs.length*k.toNat<=Yag/\Q (.tup (Yaa k.toNat xs).flatten) G
 |.str z,.int k,G,Q=>0<=k/\k<1000/\z.length<=1000/\Q (.str (repS z k.toNat)) G
 |_,_,_,_=>False
def joM  : U->U->Gp->K1->Prop
 |.int i,.int j,G,Q=>0<j/\j<1073741824/\Q (.int (i/j)) G
 |_,_,_,_=>False
def modU  : U->U->Gp->K1->Prop
 |.int i,.int j,G,Q=>0<j/\Q (.int (i%j)) G
 |_,_,_,_=>False
def powU  : U->U->Gp->K1->Prop
 |.int i,.int j,G,Q=>CPow i j/\Q (.int (i ^ j.toNat)) G
 |_,_,_,_=>False
def binU  : Yd8->U->U->Gp->K1->Prop
 |.Add=>addU
 |.Sub=>subU
 |.Mult=>mulU
 |.FloorDiv=>joM
 |.Mod=>modU
 |.Pow=>powU
 |_=>λ_ _ _ _=>False
def jgt  : Yd8->U->U->Gp->K1->Prop
 |.Add,.int i,.int j,G,Q=>Q (.int (i+j)) G
 |.Add,.str x,.str y,G,Q=>x.length+y.length<=Yag/\Q (.str (x++y)) G
 |.Sub,.int i,.int j,G,Q=>Q (.int (i-j)) G
 |.Mult,.int i,.int j,G,Q=>CMul i j/\Q (.int (i*j)) G
 |_,_,_,_,_=>False
def negU  : U->Gp->K1->Prop
 |.int i,G,Q=>Q (.int (-i)) G
 |_,_,_=>False
def Small  (d:PyData):Prop:=d.canLay0=true/\d.depth<=100
noncomputable def eqU  : U->U->Gp->(Bool->Prop)->Prop
 |.non,.non,_,k=>k true
 |.non,.bl _,_,k=>k false
 |.non,.int _,_,k=>k false
 |.non,.str _,_,k=>k false
 |.bl _,.non,_,k=>k false
 |.bl a,.bl b,_,k=>k (decide (a=b))
 |.bl _,.str _,_,k=>k false
 |.int _,.non,_,k=>k false
 |.int i,.int j,_,k=>k (decide (i=j))
 |.int _,.str _,_,k=>k false
 |.str _,.non,_,k=>k false
 |.str _,.bl _,_,k=>k false
 |.str _,.int _,_,k=>k false
 |.str x,.str y,_,k=>k (decide (x=y))
 |x,y,G,k=>∃d e,DU G x d/\DU G y e/\Small d/\Small e/\k (YaR d e)
def eqQ  : U->U->Gp->(Bool->Prop)->Prop
 |.loc a,.str y,G,k=>(∃kvs,G a=some (.dK kvs)/\k false)\/(∃xs,G a=some (.lst xs)/\k false)\/eqU (.loc a) (.str y) G k
 |.tup xs,.tup [],_,k=>k xs.isEmpty
 |.tup _,.str _,_,k=>k false
 |x,y,G,k=>eqU x y G k
def neQ  : U->U->Gp->(Bool->Prop)->Prop
 |.tup xs,.tup [],_,k=>k xs.isEmpty
 |.loc a,.loc b,G,k=>(∃us,G a=some (.lst us)/\G b=some (.lst [])/\k us.isEmpty)\/eqU (.loc a) (.loc b) G k
 |x,y,G,k=>eqU x y G k
def isU  : U->U->(Bool->Prop)->Prop
 |.non,.non,k=>k true
 |.bl a,.bl b,k=>k (decide (a=b))
 |.non,.bl _,k|.non,.int _,k|.non,.str _,k|.non,.tup _,k|.non,.loc _,k=>k false
 |.bl _,.non,k|.int _,.non,k|.str _,.non,k|.tup _,.non,k|.loc _,.non,k=>k false
 |.int _,.bl _,k|.str _,.bl _,k|.tup _,.bl _,k|.loc _,.bl _,k=>k false
 |_,_,_=>False
noncomputable def flat  : U->Bool
 |.non|.bl _|.int _|.str _=>true
 |_=>false
noncomputable def eqF  : U->U->Bool
 |.non,.non=>true
 |.bl a,.bl b=>a==b
 |.bl a,.int b=>(if a then 1 else 0)==b
 |.int a,.bl b=>a==(if b then 1 else 0)
 |.int a,.int b=>a==b
 |.str a,.str b=>a==b
 |_,_=>false
noncomputable def jhx  : List U->Option (List Str)
 |[]=>some []
 |.str x::r=>(match jhx r with|some l=>some (x::l)|none=>none)
 |_=>none
def inU  : U->U->Gp->(Bool->Prop)->Prop
 |.str x,.str y,_,k=>k (!(Yb5 y x 0 y.length 1).isEmpty)
 |.tup xs,.tup ys,G,k=>((jhx ys).isSome=true/\k false)\/∃d ds,DU G (.tup xs) d/\DUs G ys ds/\Small d/\(∀e∈ds,Small e)/\k (ds.any λe=>YaR e d)
 |.loc a,.tup ys,G,k=>(jhx ys).isSome=true/\((∃xs,G a=some (.lst xs))\/∃kvs,G a=some (.dK kvs))/\k false
 |x,.tup ys,_,k=>flat x=true/\ys.all flat=true/\k (ys.any λy=>eqF y x)
 |x,.loc a,G,k=>match G a with
  |some (.lst ys)=>(flat x=true/\ys.all flat=true/\k (ys.any λy=>eqF y x))\/
    ∃d ds,DU G x d/\DUs G ys ds/\Small d/\(∀e∈ds,Small e)/\k (ds.any λe=>YaR e d)
  |some (.fro ys)=>flat x=true/\ys.all flat=true/\k (ys.any λy=>eqF y x)
  |some (.dK kvs)=>match kU x with
   |some y=>k (dGet kvs y).isSome
   |none=>False
  |some (.dT kvs)=>match x with
   |.tup xs=>match kUs xs with
    |some y=>k (dGet kvs y).isSome
    |none=>False
   |_=>False
  |some (.frk _ kvs)=>match kU x with
   |some y=>k (dGet kvs y).isSome
   |none=>False
  |_=>False
 |_,_,_,_=>False
def ordU  : CmpOp->U->U->(Bool->Prop)->Prop
 |.Lt,.int i,.int j,k=>k (decide (i<j))
 |.LtE,.int i,.int j,k=>k (decide (i<=j))
 |.LtE,.str x,.str y,k=>k (!decide (y.cps.toList<x.cps.toList))
 |.Gt,.int i,.int j,k=>k (decide (j<i))
 |.GtE,.int i,.int j,k=>k (decide (j<=i))
 |_,_,_,_=>False
def cmpU  : CmpOp->U->U->Gp->(Bool->Prop)->Prop
 |.Eq,x,y,G,k=>eqQ x y G k
 |.NotEq,x,y,G,k=>neQ x y G λb=>k (!b)
 |.Is,x,y,_,k=>isU x y k
 |.IsNot,x,y,_,k=>isU x y λb=>k (!b)
 |.In,x,y,G,k=>inU x y G k
 |.NotIn,x,y,G,k=>inU x y G λb=>k (!b)
 |o,x,y,_,k=>ordU o x y k
def truU  : U->Gp->(Bool->Prop)->Prop
 |.non,_,k=>k false
 |.bl b,_,k=>k b
 |.int i,_,k=>k (i != 0)
 |.str x,_,k=>x.length<=Yag/\k ((x.length:Int) != 0)
 |.tup xs,_,k=>k (!xs.isEmpty)
 |.loc a,G,k=>match G a with
  |some (.lst xs)=>k (!xs.isEmpty)
  |some (.fro xs)=>k (!xs.isEmpty)
  |some (.dK kvs)=>k (!kvs.isEmpty)
  |_=>False
 |_,_,_=>False
def ixU  : U->U->Gp->K1->Prop
 |.tup xs,.int i,G,Q=>match atI xs i with
  |some u=>Q u G
  |none=>False
 |.str x,.int i,G,Q=>x.length<=Yag/\match atI x.cps.toList i with
  |some c=>Q (.str ⟨#[c]⟩) G
  |none=>False
 |.loc a,y,G,Q=>match G a with
  |some (.lst xs)=>(match y with|.int i=>(match atI xs i with|some u=>Q u G|none=>False)|_=>False)
  |some (.fro xs)=>(match y with|.int i=>(match atI xs i with|some u=>Q u G|none=>False)|_=>False)
  |some (.dK kvs)=>(match kU y with|some k=>(match dGet kvs k with|some u=>Q u G|none=>False)|none=>False)
  |some (.dT kvs)=>(match y with|.tup ys=>(match kUs ys with|some k=>(match dGet kvs k with|some u=>Q u G|none=>False)|none=>False)|_=>False)
  |some (.frk _ kvs)=>(match kU y with|some k=>(match dGet kvs k with|some u=>Q u G|none=>False)|none=>False)
  |_=>False
 |_,_,_,_=>False
def slU  : U->Option Int->Option Int->Gp->K1->Prop
 |.tup xs,lo,hi,G,Q=>Q (.tup (cut xs lo hi)) G
 |.str x,lo,hi,G,Q=>x.length<=Yag/\Q (.str (Ye5 x lo hi)) G
 |.loc a,lo,hi,G,Q=>match lsG G a with
  |some xs=>newO G (.lst (cut xs lo hi)) Q
  |none=>False
 |_,_,_,_,_=>False
def revU  : U->U->Gp->K1->Prop
 |.tup xs,.int i,G,Q=>i=-1/\Q (.tup xs.reverse) G
 |.loc a,.int i,G,Q=>match lsG G a with
  |some xs=>(i=1\/i=-1)/\newO G (.lst (if i=1 then xs else xs.reverse)) Q
  |none=>False
 |_,_,_,_=>False
def setU  : U->U->U->Gp->(Gp->Prop)->Prop
 |.loc a,y,v,G,Q=>match G a with
  |some (.lst xs)=>(match y with|.int i=>(match ixN xs.length i with|some j=>putO G a (.lst (xs.set j v)) Q|none=>False)|_=>False)
  |some (.dK kvs)=>(match kU y with|some k=>kvs.length<Yag/\putO G a (.dK (dPut kvs k v)) Q|none=>False)
  |some (.dT kvs)=>(match y with|.tup ys=>(match kUs ys with|some k=>kvs.length<Yag/\putO G a (.dT (dPut kvs k v)) Q|none=>False)|_=>False)
  |_=>False
 |_,_,_,_,_=>False
inductive Blt|len|repr|min|max|sum|all|any|sorted|int|str|isi
 deriving DecidableEq
inductive Mth|append|extend|insert|pop|reverse|index|join|get|split|setd|clear|count|upper
 deriving DecidableEq
noncomputable def jfA  : List U->Option (List Int)
 |[]=>some []
 |.int i::r=>(match jfA r with|some l=>some (i::l)|none=>none)
 |_=>none
noncomputable def jed  : List U->Option (List Bool)
 |[]=>some []
 |.bl x::r=>(match jed r with|some l=>some (x::l)|none=>none)
 |_=>none
noncomputable def tyN  : U->Gp->Option String
 |.non,_=>some "NoneType"
 |.bl _,_=>some "bool"
 |.int _,_=>some "int"
 |.str _,_=>some "str"
 |.tup _,_=>some "tuple"
 |.loc a,G=>match G a with
  |some (.lst _)=>some "list"
  |some (.dK _)=>some "dict"
  |some (.dT _)=>some "dict"
  |_=>none
 |_,_=>none
def isiU  (x:U)(G:Gp)(t:String):Option Bool:=match tyN x G with
 |some n=>if t∈["bool", "int", "str", "list", "tuple", "dict"] then some (n==t||(n == "bool" && t == "int")) else none
 |none=>none
def lenU  : List U->Gp->K1->Prop
 |[.tup xs],G,Q=>Q (.int xs.length) G
 |[.str x],G,Q=>x.length<=Yag/\Q (.int x.length) G
 |[.loc a],G,Q=>(match G a with
  |some (.lst xs)=>Q (.int xs.length) G
  |some (.fro xs)=>Q (.int xs.length) G
  |some (.dK kvs)=>Q (.int kvs.length) G
  |_=>False)
 |_,_,_=>False
def jip  : List U->Gp->K1->Prop
 |[u],G,Q=>∃d,DU G u d/\Fits 16000000 60 d/\Q (.str d.shown) G
 |_,_,_=>False
def minU  : List U->Gp->K1->Prop
 |[.int i,.int j],G,Q=>Q (.int (if j<i then j else i)) G
 |_,_,_=>False
def jkj  (xs:List U)(G:Gp)(Q:K1):Prop:=match jfA xs with
 |some ns=>ns≠[]/\∀z∈ns,(∀y∈ns,y<=z)->Q (.int z) G
 |none=>False
def maxU  : List U->Gp->K1->Prop
 |[.int i,.int j],G,Q=>Q (.int (if j>i then j else i)) G
 |[.loc a],G,Q=>(match G a with
  |some (.lst xs)=>jkj xs G Q
  |_=>False)
 |[.tup xs],G,Q=>jkj xs G Q
 |_,_,_=>False
def sumU  : List U->Gp->K1->Prop
 |[.loc a],G,Q=>(match G a with
  |some (.lst xs)=>(match jfA xs with|some ns=>Q (.int ns.sum) G|none=>False)
  |_=>False)
 |_,_,_=>False
def allU  : List U->Gp->K1->Prop
 |[.loc a],G,Q=>(match G a with
  |some (.lst xs)=>(match jed xs with|some bs=>Q (.bl (bs.all id)) G|none=>False)
  |_=>False)
 |_,_,_=>False
def intU  : List U->Gp->K1->Prop
 |[.int i],G,Q=>Q (.int i) G
 |[.bl b],G,Q=>Q (.int (if b then 1 else 0)) G
 |[.str z],G,Q=>∃n,PySem.intText? z=some n/\z.length<=640/\Q (.int n) G
 |_,_,_=>False
def strU  : List U->Gp->K1->Prop
 |[.int i],G,Q=>i.natAbs.log2<1920/\Q (.str (toString i:String)) G
 |[.bl b],G,Q=>Q (.str (if b=true then ("True" : Str) else "False")) G
 |_,_,_=>False
def jhT  : List U->Gp->K1->Prop
 |[x,.ty t],G,Q=>(match isiU x G t with|some b=>Q (.bl b) G|none=>False)
 |_,_,_=>False
def bltU  : Blt->List U->Gp->K1->Prop
 |.len=>lenU
 |.repr=>jip
 |.min=>minU
 |.max=>maxU
 |.sum=>sumU
 |.all=>allU
 |.any=>λ_ _ _=>False
 |.sorted=>λ_ _ _=>False
 |.int=>intU
 |.str=>strU
 |.isi=>jhT
def jgK  : U->List U->Gp->K1->Prop
 |.loc a,[v],G,Q=>(match G a with
  |some (.lst xs)=>xs.length<Yag/\putO G a (.lst (xs++[v])) (Q .non)
  |_=>False)
 |_,_,_,_=>False
def jgz  : U->List U->Gp->K1->Prop
 |.loc a,[.loc b],G,Q=>(match G a,G b with
  |some (.lst xs),some (.lst ys)=>xs.length+ys.length<=Yag/\putO G a (.lst (xs++ys)) (Q .non)
  |_,_=>False)
 |_,_,_,_=>False
def jgs  : U->List U->Gp->K1->Prop
 |.loc a,[.int i,v],G,Q=>(match G a with
  |some (.lst xs)=>0<=i/\i<=xs.length/\xs.length<Yag/\putO G a (.lst (xs.take i.toNat++v::xs.drop i.toNat)) (Q .non)
  |_=>False)
 |_,_,_,_=>False
def popU  : U->List U->Gp->K1->Prop
 |.loc a,[],G,Q=>(match G a with
  |some (.lst xs)=>(match xs[xs.length-1]? with|some v=>putO G a (.lst xs.dropLast) (Q v)|none=>False)
  |_=>False)
 |.loc a,[.int i],G,Q=>(match G a with
  |some (.lst xs)=>-(2 ^ 63)<=i/\i<2 ^ 63/\(match YfJ i xs.length with
   |some k=>(match xs[k]? with|some v=>putO G a (.lst (xs.eraseIdx k)) (Q v)|none=>False)
   |none=>False)
  |_=>False)
 |_,_,_,_=>False
def getU  : U->List U->Gp->K1->Prop
 |.loc a,[y,d],G,Q=>(match G a with
  |some (.dK kvs)=>(match kU y with
   |some k=>Q ((dGet kvs k).getD d) G
   |none=>False)
  |some (.dT kvs)=>∃k:List Key,y=.tup (k.map Ku)/\Q ((dGet kvs k).getD d) G
  |_=>False)
 |_,_,_,_=>False
def jaI  : Mth->U->List U->Gp->K1->Prop
 |.append=>jgK
 |.extend=>jgz
 |.insert=>jgs
 |.pop=>popU
 |.reverse=>λ_ _ _ _=>False
 |.index=>λ_ _ _ _=>False
 |.join=>λ_ _ _ _=>False
 |.get=>getU
 |.split=>λ_ _ _ _=>False
 |.setd=>λ_ _ _ _=>False
 |.clear=>λ_ _ _ _=>False
 |.count=>λ_ _ _ _=>False
 |.upper=>λ_ _ _ _=>False
noncomputable def mtU  : Mth->U->Gp->Option (String×String)
 |.append,x,G=>(match x with|.loc a=>(match G a with|some (.lst _)=>some ("list", "list.append")|_=>none)|_=>none)
 |.extend,x,G=>(match x with|.loc a=>(match G a with|some (.lst _)=>some ("list", "list.extend")|_=>none)|_=>none)
 |.insert,x,G=>(match x with|.loc a=>(match G a with|some (.lst _)=>some ("list", "list.insert")|_=>none)|_=>none)
 |.pop,x,G=>(match x with|.loc a=>(match G a with|some (.lst _)=>some ("list", "list.pop")|_=>none)|_=>none)
 |.reverse,_,_=>none
 |.index,_,_=>none
 |.join,_,_=>none
 |.get,x,G=>(match x with|.loc a=>(match G a with|some (.dK _)=>some ("dict", "dict.get")|some (.dT _)=>some ("dict", "dict.get")|_=>none)|_=>none)
 |.split,_,_=>none
 |.setd,_,_=>none
 |.clear,_,_=>none
 |.count,_,_=>none
 |.upper,_,_=>none
noncomputable def clsA  : List (Str×List Str):=[("PlanError",[]),("NoPaper",["word", "at"]),("TooMany",["word"]),("NoRing",["word"]),("NoText",["row", "word"]),("NoRow",["row"])]
def clsN  (c:Nat):Str:=(clsA.getD c ("",[])).1
def clsF  (c:Nat):List Str:=(clsA.getD c ("",[])).2
inductive HL where
 |is1 (c:Nat)|isi (cs:List Nat)|isiV|v (i:Nat)
inductive HA where
 |str (x:Str)|att (f:Str)
inductive HV where
 |cond (k:Bool) (a:Bool×HL) (as:List (Bool×HL))|one (a:HA)|bl (b:Bool)|tup (as:List HA)|lst (as:List HA)
inductive HS where
 |asg (i:Nat) (e:HV)|ifa (k:Bool) (a:Bool×HL) (as:List (Bool×HL)) (i:Nat) (e:HV)
section
variable (x:XV)
noncomputable def litH (ς:Sg):HL->Option Bool
 |.is1 c=>some (decide (x.c=c))
 |.isi cs=>some (cs.contains x.c)
 |.isiV=>some true
 |.v i=>match ς[i]? with
  |some (some (.bl b))=>some b
  |_=>none
def lit1 (ς:Sg)(p:Bool×HL):Option Bool:=match litH x ς p.2 with
 |some b=>some (if p.1=true then !b else b)
 |none=>none
noncomputable def jbU (ς:Sg)(k:Bool):Bool×HL->List (Bool×HL)->Option Bool
 |a,[]=>lit1 x ς a
 |a,b::r=>match lit1 x ς a with
  |some t=>if t=k then jbU ς k b r else some t
  |none=>none
def atH:HA->Option U
 |.str y=>some (.str y)
 |.att f=>((clsF x.c).zip x.fs).lookup f
noncomputable def atsH:List HA->Option (List U)
 |[]=>some []
 |a::r=>match atH x a,atsH r with
  |some u,some us=>some (u::us)
  |_,_=>none
def hvH (ς:Sg):HV->Gp->K1->Prop
 |.cond k a as,G,Q=>match jbU x ς k a as with
  |some b=>Q (.bl b) G
  |none=>False
 |.one a,G,Q=>match atH x a with
  |some u=>Q u G
  |none=>False
 |.bl b,G,Q=>Q (.bl b) G
 |.tup as,G,Q=>match atsH x as with
  |some us=>Q (.tup us) G
  |none=>False
 |.lst as,G,Q=>match atsH x as with
  |some us=>newO G (.lst us) Q
  |none=>False
def hsH:List HS->Sg->Gp->(Sg->Gp->Prop)->Prop
 |[],ς,G,k=>k ς G
 |.asg i e::r,ς,G,k=>hvH x ς e G λu G1=>hsH r (ς.set i (some u)) G1 k
 |.ifa q a as i e::r,ς,G,k=>match jbU x ς q a as with
  |some true=>hvH x ς e G λu G1=>hsH r (ς.set i (some u)) G1 k
  |some false=>hsH r ς G k
  |none=>False
end
mutual
inductive Tg where
 |n (i:Nat)|t (ts:Tgs)
inductive Tgs where
 |nil|cons (t:Tg) (ts:Tgs)
end
mutual
inductive E where
 |v (i:Nat)|non|bl (b:Bool)|int (i:Int)|str (x:Str)|g (n:Nat)|bin (o:Yd8) (a b:E)|neg (a:E)|not (a:E)|bop (k:Bool) (a:E) (es:Es)|cmp (o:CmpOp) (a b:E)|cmp2 (o p:CmpOp) (a b c:E)|ife (c a b:E)|tup (es:Es)|lst (es:Es)|dic (es:Es)|ix (a b:E)|sl (a:E) (lo hi:Eo)|rev (a st:E)|call (n:Nat) (es:Es)|app (i:Nat) (es:Es)|blt (b:Blt) (es:Es)|meth (m:Mth) (o:E) (es:Es)|ty (n:String)|lc (pick:List (Option Nat)) (t:Tg) (it:It) (ifs:Es) (e:E)|mkL (e:E)|mkT (e:E)|rngL (a:E)
inductive Eo where
 |no|so (e:E)
inductive Es where
 |nil|cons (e:E) (es:Es)
inductive It where
 |e (e:E)|r1 (e:E)|r2 (a b:E)
end
mutual
inductive S where
 |expr (e:E)|asg (t:Tg) (e:E)|asgC (i:Nat) (e:E)|setS (o i e:E)|par (is:List Nat) (es:Es)|aug (i:Nat) (o:Yd8) (e:E)|ite (c:E) (a b:Ss)|fr (t:Tg) (it:It) (b:Ss)|wh (c:E) (b:Ss)|ret (e:E)|raise (c:Nat) (es:Es)|tr (b:Ss) (c:Nat) (n:Nat) (h:List HS)
inductive Ss where
 |nil|cons (s:S) (ss:Ss)
end
mutual
noncomputable def tgU:Tg->U->Sg->(Sg->Prop)->Prop
 |.n i,u,ς,k=>k (ς.set i (some u))
 |.t ts,u,ς,k=>match u with
  |.tup us=>tgsU ts us ς k
  |_=>False
noncomputable def tgsU:Tgs->List U->Sg->(Sg->Prop)->Prop
 |.nil,us,ς,k=>us=[]/\k ς
 |.cons t ts,us,ς,k=>match us with
  |[]=>False
  |u::r=>tgU t u ς λς'=>tgsU ts r ς' k
end
abbrev Cl:=Nat->List U->Gp->K1->KX->Prop
def slot  (ς:Sg)(i:Nat)(k:U->Prop):Prop:=match ς[i]? with
 |some (some u)=>k u
 |_=>False
noncomputable def jcQ  (pick:List (Option Nat))(ς:Sg):Sg:=pick.map λo=>o.bind λj=>(ς[j]?).join
def jfL  (ok:Gp->Prop)(b:U->Gp->(Option U->Gp->Prop)->Prop):List U->List U->Gp->(List U->Gp->Prop)->Prop
 |[],acc,G,k=>ok G/\k acc G
 |x::xs,acc,G,k=>ok G/\b x G λo G'=>jfL ok b xs (match o with|some u=>acc++[u]|none=>acc) G' k
def forL  (ok:Gp->Prop)(b:U->Sg->Gp->(Sg->Gp->Prop)->Prop):List U->Sg->Gp->(Sg->Gp->Prop)->Prop
 |[],ς,G,k=>ok G/\k ς G
 |x::xs,ς,G,k=>ok G/\b x ς G λς' G'=>forL ok b xs ς' G' k
noncomputable def rngU  (i:Int)(n:Nat):List U:=(YaO n).map λk:Nat=>.int (i+k)
def itU  : U->Gp->(List U->(Gp->Prop)->Prop)->Prop
 |.tup xs,_,k=>k xs λ_=>True
 |.loc a,G,k=>match lsG G a with
  |some xs=>k xs λG'=>lsG G' a=some xs
  |none=>False
 |_,_,_=>False
def fpU  : U->(Str->Prop)->Prop
 |.str z,k=>z.length<=10000/\k z
 |.int i,k=>i.natAbs.log2<1920/\k (toString i:String)
 |_,_=>False
def glU  (gs:List U)(n:Nat)(k:U->Prop):Prop:=match gs[n]? with
 |some u=>k u
 |none=>False
abbrev UE:=Sg->Gp->K1->KX->Prop
abbrev UT:=Sg->Gp->(Bool->Gp->Prop)->KX->Prop
abbrev UA:=Sg->Gp->(List U->Gp->Prop)->KX->Prop
def truT  (t:UE):UT:=λς G Q X=>t ς G (λx G1=>truU x G1 λb=>Q b G1) X
noncomputable abbrev tp  (t:UE):UE×UT:=(t,truT t)
noncomputable def comb  : Bool->UE×UT->UE×UT->UE×UT
 |true,p,q=>(λς G Q X=>p.1 ς G (λx G1=>truU x G1 λc=>if c=true then q.1 ς G1 Q X else Q x G1) X,λς G Q X=>p.2 ς G (λc G1=>if c=true then q.2 ς G1 Q X else Q false G1) X)
 |false,p,q=>(λς G Q X=>p.1 ς G (λx G1=>truU x G1 λc=>if c=true then Q x G1 else q.1 ς G1 Q X) X,λς G Q X=>p.2 ς G (λc G1=>if c=true then Q true G1 else q.2 ς G1 Q X) X)
section
variable (gs:List U)(Δ:Cl)
mutual
noncomputable def den:E->UE×UT
 |.v i=>tp λς G Q _=>slot ς i λu=>Q u G
 |.non=>tp λ_ G Q _=>Q .non G
 |.bl b=>tp λ_ G Q _=>Q (.bl b) G
 |.int i=>tp λ_ G Q _=>Q (.int i) G
 |.str x=>tp λ_ G Q _=>Q (.str x) G
 |.g n=>tp λ_ G Q _=>glU gs n λu=>Q u G
 |.bin o a b=>tp λς G Q X=>(den a).1 ς G (λx G1=>(den b).1 ς G1 (λy G2=>binU o x y G2 Q) X) X
 |.neg a=>tp λς G Q X=>(den a).1 ς G (λx G1=>negU x G1 Q) X
 |.not a=>(λς G Q X=>(den a).1 ς G (λx G1=>truU x G1 λb=>Q (.bl (!b)) G1) X,
   λς G Q X=>(den a).2 ς G (λb G1=>Q (!b) G1) X)
 |.bop k a es=>denB k (den a) es
 |.cmp o a b=>tp λς G Q X=>(den a).1 ς G (λx G1=>(den b).1 ς G1 (λy G2=>cmpU o x y G2 λc=>Q (.bl c) G2) X) X
 |.cmp2 o p a b c=>tp λς G Q X=>(den a).1 ς G (λx G1=>(den b).1 ς G1 (λy G2=>cmpU o x y G2 λt=>if t=true then (den c).1 ς G2 (λz G3=>cmpU p y z G3 λt'=>Q (.bl t') G3) X else Q (.bl false) G2) X) X
 |.ife c a b=>(λς G Q X=>(den c).2 ς G (λt G1=>if t=true then (den a).1 ς G1 Q X else (den b).1 ς G1 Q X) X,
   λς G Q X=>(den c).2 ς G (λt G1=>if t=true then (den a).2 ς G1 Q X else (den b).2 ς G1 Q X) X)
 |.tup es=>tp λς G Q X=>jaw es ς G (λus G1=>us.length<=Yag/\Q (.tup us) G1) X
 |.lst es=>tp λς G Q X=>jaw es ς G (λus G1=>us.length<=Yag/\newO G1 (.lst us) Q) X
 |.dic es=>tp λς G Q X=>denD es ς G (λkvs G1=>kvs.length<=15/\newO G1 (.dK (jd9 kvs)) Q) X
 |.ix a b=>tp λς G Q X=>(den a).1 ς G (λx G1=>(den b).1 ς G1 (λy G2=>ixU x y G2 Q) X) X
 |.sl a lo hi=>tp λς G Q X=>(den a).1 ς G (λx G1=>denO lo ς G1 (λl G2=>denO hi ς G2 (λh G3=>slU x l h G3 Q) X) X) X
 |.rev a b=>tp λς G Q X=>(den a).1 ς G (λx G1=>(den b).1 ς G1 (λy G2=>revU x y G2 Q) X) X
 |.call n es=>tp λς G Q X=>jaw es ς G (λus G1=>Δ n us G1 Q X) X
 |.app _ _=>tp λ_ _ _ _=>False
 |.blt b es=>tp λς G Q X=>jaw es ς G (λus G1=>bltU b us G1 Q) X
 |.meth m o es=>tp λς G Q X=>(den o).1 ς G (λx G1=>match mtU m x G1 with
   |some _=>jaw es ς G1 (λus G2=>jaI m x us G2 Q) X
   |none=>False) X
 |.ty n=>tp λ_ G Q _=>Q (.ty n) G
 |.lc pick t it ifs e=>tp λς G Q X=>denI it ς G (λxs ok G1=>xs.length<=Yag/\jfL ok (λx G2 k=>tgU t x (jcQ pick ς) λτ=>denC ifs τ G2 (λb G3=>if b=true then (den e).1 τ G3 (λu G4=>k (some u) G4) (λ_ _=>False) else k none G3)) xs [] G1
   λus G5=>newO G5 (.lst us) Q) X
 |.mkL e=>tp λς G Q X=>(den e).1 ς G (λx G1=>itU x G1 λxs _=>newO G1 (.lst xs) Q) X
 |.mkT e=>tp λς G Q X=>(den e).1 ς G (λx G1=>itU x G1 λxs _=>Q (.tup xs) G1) X
 |.rngL e=>tp λς G Q X=>(den e).1 ς G (λx G1=>match x with
   |.int j=>0<=j/\j<=1000000/\newO G1 (.lst (rngU 0 j.toNat)) Q
   |_=>False) X
noncomputable def denB (k:Bool)(p:UE×UT):Es->UE×UT
 |.nil=>p
 |.cons e es=>comb k p (denB k (den e) es)
noncomputable def denC:Es->Sg->Gp->(Bool->Gp->Prop)->Prop
 |.nil,_,G,Q=>Q true G
 |.cons e es,ς,G,Q=>(den e).2 ς G (λb G1=>if b=true then denC es ς G1 Q else Q false G1) (λ_ _=>False)
noncomputable def denO:Eo->Sg->Gp->(Option Int->Gp->Prop)->KX->Prop
 |.no,_,G,Q,_=>Q none G
 |.so e,ς,G,Q,X=>(den e).1 ς G (λx G1=>match x with|.int i=>Q (some i) G1|_=>False) X
noncomputable def jaw:Es->Sg->Gp->(List U->Gp->Prop)->KX->Prop
 |.nil,_,G,Q,_=>Q [] G
 |.cons e es,ς,G,Q,X=>(den e).1 ς G (λx G1=>jaw es ς G1 (λxs G2=>Q (x::xs) G2) X) X
noncomputable def denF:Es->Sg->Gp->(List Str->Gp->Prop)->KX->Prop
 |.nil,_,G,Q,_=>Q [] G
 |.cons e es,ς,G,Q,X=>(den e).1 ς G (λx G1=>fpU x λz=>denF es ς G1 (λzs G2=>Q (z::zs) G2) X) X
noncomputable def denD:Es->Sg->Gp->(List (Key×U)->Gp->Prop)->KX->Prop
 |.nil,_,G,Q,_=>Q [] G
 |.cons e (.cons f es),ς,G,Q,X=>(den e).1 ς G (λx G1=>(den f).1 ς G1 (λy G2=>match kU x with
   |some k=>denD es ς G2 (λkvs G3=>Q ((k,y)::kvs) G3) X
   |none=>False) X) X
 |.cons _ .nil,_,_,_,_=>False
noncomputable def denI:It->Sg->Gp->(List U->(Gp->Prop)->Gp->Prop)->KX->Prop
 |.e e,ς,G,Q,X=>(den e).1 ς G (λx G1=>itU x G1 λxs ok=>Q xs ok G1) X
 |.r1 e,ς,G,Q,X=>(den e).1 ς G (λx G1=>match x with
   |.int j=>-(2 ^ 62)<=j/\j<2 ^ 62/\Q (rngU 0 j.toNat) (λ_=>True) G1
   |_=>False) X
 |.r2 a b,ς,G,Q,X=>(den a).1 ς G (λx G1=>(den b).1 ς G1 (λy G2=>match x,y with
   |.int i,.int j=>-(2 ^ 62)<=i/\i<2 ^ 62/\-(2 ^ 62)<=j/\j<2 ^ 62/\Q (rngU i (j-i).toNat) (λ_=>True) G2
   |_,_=>False) X) X
end
def denE (e:E):UE:=(den gs Δ e).1
def denT (e:E):UT:=(den gs Δ e).2
mutual
noncomputable def denS:S->En->Sg->Gp->Prop
 |.expr e,D,ς,G=>denE gs Δ e ς G (λ_ G1=>D.nx ς G1) λx G1=>D.ex x ς G1
 |.asg t e,D,ς,G=>denE gs Δ e ς G (λu G1=>tgU t u ς λς'=>D.nx ς' G1) λx G1=>D.ex x ς G1
 |.asgC i e,D,ς,G=>denE gs Δ e ς G (λu G1=>D.nx (ς.set i (some u)) G1) λx G1=>D.ex x ς G1
 |.setS o i e,D,ς,G=>denE gs Δ e ς G (λv G1=>denE gs Δ o ς G1 (λx G2=>denE gs Δ i ς G2 (λy G3=>setU x y v G3 λG4=>D.nx ς G4) λx G1=>D.ex x ς G1) λx G1=>D.ex x ς G1) λx G1=>D.ex x ς G1
 |.par is es,D,ς,G=>jaw gs Δ es ς G (λus G1=>us.length=is.length/\D.nx ((is.zip us).foldl (λs p=>s.set p.1 (some p.2)) ς) G1) λx G1=>D.ex x ς G1
 |.aug i o e,D,ς,G=>slot ς i λx=>denE gs Δ e ς G (λy G1=>jgt o x y G1 λz G2=>D.nx (ς.set i (some z)) G2) λx G1=>D.ex x ς G1
 |.ite c a b,D,ς,G=>denT gs Δ c ς G (λt G1=>if t=true then jal a D ς G1 else jal b D ς G1) λx G1=>D.ex x ς G1
 |.fr t it b,D,ς,G=>denI gs Δ it ς G (λxs ok G1=>forL ok (λx ς1 G2 k=>tgU t x ς1 λς2=>jal b { D with nx:=k } ς2 G2) xs ς G1 D.nx) λx G1=>D.ex x ς G1
 |.wh c b,D,ς,G=>∃W:Nat->Sg->Gp->Prop,(∃m,W m ς G)/\∀m ς1 G1,W m ς1 G1->
   denT gs Δ c ς1 G1 (λt G2=>if t=true then jal b { D with nx:=λς' G'=>∃m',m'<m/\W m' ς' G' } ς1 G2 else D.nx ς1 G2) λx G1=>D.ex x ς1 G1
 |.ret e,D,ς,G=>denE gs Δ e ς G D.rt λx G1=>D.ex x ς G1
 |.raise c es,D,ς,G=>jaw gs Δ es ς G (λus G1=>us.length=(clsF c).length/\D.ex ⟨c,us⟩ ς G1) λx G1=>D.ex x ς G1
 |.tr b c n h,D,ς,G=>jal b { D with ex:=λx ς1 G1=>(c=0\/x.c=c)/\hsH x h (ς1.set n none) G1 λς2 G2=>D.nx (ς2.set n none) G2 } ς G
noncomputable def jal:Ss->En->Sg->Gp->Prop
 |.nil,D,ς,G=>D.nx ς G
 |.cons s ss,D,ς,G=>denS s { D with nx:=λς' G'=>jal ss D ς' G' } ς G
end
end
structure Fun where
 name:Str
 ps:List Str
 N:List Str
 body:Ss
structure Nst where
 P:Addr
 ff:Nat
 vi:Nat
 fi:Nat
 si:Nat
 caps:List Nat
 fni:Nat
 fn:Str
 as':List Str
 sn:Str
 e1:E
 e2:E
structure Tab where
 funs:List Fun
 gs:List U
 gn:List Str:=[]
 cs:List Nat:=[]
 vf:List Fun:=[]
 ns:List (Nat×Nst):=[]
noncomputable def jad  (n:Nat)(us:List U):Sg:=us.map some++Yaa (n-us.length) none
def jab  (T:Tab):Nat->Cl
 |0,_,_,_,_,_=>False
 |k+1,n,us,G,Q,X=>match (T.funs++T.vf)[n]? with
  |some d=>us.length=d.ps.length/\jal T.gs (jab T k) d.body ⟨λ_ G'=>Q .non G',Q,λx _ G'=>X x G'⟩ (jad d.N.length us) G
  |none=>False
mutual
noncomputable def RU (K:Yac)(H:Hp):U->V->Prop
 |.non,v=>v=.non
 |.bl b,v=>v=.bl b
 |.int i,v=>v=.int i
 |.str x,v=>v=.str x
 |.tup xs,v=>∃a vs,v=.ref a/\H a=some (.tup vs)/\RUs K H xs vs
 |.loc a,v=>v=.ref a
 |.fn _,_=>False
 |.ty n,v=>v=.ty n
 |.exc _ _,_=>False
 |.own _,_=>False
 |.clo _ _,_=>False
noncomputable def RUs (K:Yac)(H:Hp):List U->List V->Prop
 |[],vs=>vs=[]
 |u::us,vs=>∃v vr,vs=v::vr/\RU K H u v/\RUs K H us vr
end
def RKs  {κ:Type}(K:Yac)(H:Hp):List (κ×U)->List (κ×V)->Prop
 |[],l=>l=[]
 |(k,u)::r,l=>∃v l',l=(k,v)::l'/\RU K H u v/\RKs K H r l'
def MOk  (K:Yac)(H:Hp)(a:Addr):MO->Prop
 |.lst us=>∃vs,H a=some (.lst vs)/\RUs K H us vs
 |.fro us=>∃o vs,H a=some (.frz o (.lst vs))/\RUs K H us vs
 |.dK kvs=>∃l,H a=some (.dK l)/\RKs K H kvs l
 |.dT kvs=>∃l,H a=some (.dT l)/\RKs K H kvs l
 |.frd o kvs=>∃l,H a=some (.frz o (.dT l))/\RKs K H kvs l
 |.frk o kvs=>∃l,H a=some (.frz o (.dK l))/\RKs K H kvs l
noncomputable def tabs  : List (Addr×Pos×Str):=[(251,⟨120,4,121,68⟩,("lets_none_with" : Str) ++ ".<locals>." ++ "fault_of")]
def jfW  (H:Hp):Prop:=∀t∈tabs,jle H t.1 t.2.1 t.2.2
structure HR (K:Yac)(H:Hp)(G:Gp):Prop where
 mo:∀a o,G a=some o->MOk K H a o
 tab:jfW H
instance {K:Yac} {H:Hp} {G:Gp}:CoeFun (HR K H G) λ_=>∀a o,G a=some o->MOk K H a o:=⟨HR.mo⟩
noncomputable def noTb  : HO->Bool
 |.tbl _=>false
 |_=>true
structure Fr (H:Hp)(G:Gp)(H':Hp)(G':Gp):Prop where
 go:∀a o,H a=some o->G a=none->(nt:noTb o=true:=by rfl)->H' a=some o/\G' a=none
instance {H H':Hp} {G G':Gp}:CoeFun (Fr H G H' G') λ_=>∀a o,H a=some o->G a=none->(nt:noTb o=true:=by rfl)->H' a=some o/\G' a=none:=⟨@Fr.go H G H' G'⟩
def SR  (K:Yac)(H:Hp)(ς:Sg)(σ:St):Prop:=ς.length=σ.length/\∀(i:Nat) (u:U),ς[i]?=some (some u)->∃v,σ[i]?=some (some v)/\RU K H u v
section
variable {K:Yac}{H H' H1 H2:Hp}{G G' G1 G2:Gp}
def Fr.refl   H G:Fr H G H G:=⟨λ_ _ h g _=>⟨h,g⟩⟩
def Fr.trans  (a:Fr H G H1 G1)(b:Fr H1 G1 H2 G2):Fr H G H2 G2:=⟨λc o h g nt=>let ⟨h1,g1⟩:=a c o h g nt;b c o h1 g1 nt⟩
structure TS (H H':Hp):Prop where
 tup:∀a xs,H a=some (.tup xs)->H' a=some (.tup xs)
 cod:∀a o,H a=some (frzC o)->H' a=some (frzC o)
instance:CoeFun (TS H H') λ_=>∀a xs,H a=some (.tup xs)->H' a=some (.tup xs):=⟨TS.tup⟩
def TS.trans  (a:TS H H1)(b:TS H1 H2):TS H H2:=⟨λc xs h=>b.tup c xs (a.tup c xs h),λc o h=>b.cod c o (a.cod c o h)⟩
mutual
theorem RU.ts (t:TS H H'):∀{u:U} {v:V},RU K H u v->RU K H' u v
 |.non,_,h=>h
 |.bl _,_,h=>h
 |.int _,_,h=>h
 |.str _,_,h=>h
 |.tup xs,_,h=>by
  obtain⟨a,vs,e,q,r⟩:=h
  exact⟨a,vs,e,t _ _ q,RUs.ts t r⟩
 |.loc _,_,h=>h
 |.fn _,_,h=>h
 |.ty _,_,h=>h
 |.exc _ _,_,h=>h
 |.own _,_,h=>h
 |.clo _ _,_,h=>h
theorem RUs.ts (t:TS H H'):∀{us:List U} {vs:List V},RUs K H us vs->RUs K H' us vs
 |[],_,h=>h
 |_::_,_,h=>by
  obtain⟨v,vr,e,r,rs⟩:=h
  exact⟨v,vr,e,RU.ts t r,RUs.ts t rs⟩
end
theorem RKs.ts   (t:TS H H'):∀{kvs:List (κ×U)} {l },RKs K H kvs l->RKs K H' kvs l
 |[],_,h=>h
 |(_,_)::_,_,h=>by
  obtain⟨v,l',e,r,rs⟩:=h;exact⟨v,l',e,r.ts t,RKs.ts t rs⟩
def SR.ts    (t:TS H H')(h:SR K H ς σ):SR K H' ς σ:=⟨h.1,λi u e=>let ⟨v,e1,r⟩:=h.2 i u e;⟨v,e1,r.ts t⟩⟩
def HR.tupNone  (h:HR K H G)(e:H a=some (.tup xs)):G a=none:=by
 cases q:G a with
 |none=>rfl
 |some o=>
  have m:=h a o q;cases o with
  |lst us=>obtain⟨_,e2,_⟩:=m;lia
  |fro us=>obtain⟨_,_,e2,_⟩:=m;lia
  |dK us=>obtain⟨_,e2,_⟩:=m;lia
  |dT us=>obtain⟨_,e2,_⟩:=m;lia
  |frd _ us=>obtain⟨_,e2,_⟩:=m;lia
  |frk _ us=>obtain⟨_,e2,_⟩:=m;lia
def HR.codNone  (h:HR K H G)(e:H a=some (frzC ob)):G a=none:=by
 cases q:G a with
 |none=>rfl
 |some o=>
  have m:=h a o q;cases o with
  |lst us=>obtain⟨_,e2,_⟩:=m;lia
  |fro us=>obtain⟨_,_,e2,_⟩:=m;lia
  |dK us=>obtain⟨_,e2,_⟩:=m;lia
  |dT us=>obtain⟨_,e2,_⟩:=m;lia
  |frd _ us=>obtain⟨_,e2,_⟩:=m;lia
  |frk _ us=>obtain⟨_,e2,_⟩:=m;lia
def HR.tblNone  (h:HR K H G)(e:H a=some (.tbl ps)):G a=none:=by
 cases q:G a with
 |none=>rfl
 |some o=>
  have m:=h a o q;cases o with
  |lst us=>obtain⟨_,e2,_⟩:=m;lia
  |fro us=>obtain⟨_,_,e2,_⟩:=m;lia
  |dK us=>obtain⟨_,e2,_⟩:=m;lia
  |dT us=>obtain⟨_,e2,_⟩:=m;lia
  |frd _ us=>obtain⟨_,e2,_⟩:=m;lia
  |frk _ us=>obtain⟨_,e2,_⟩:=m;lia
def Fr.ts  (f:Fr H G H' G')(h:HR K H G):TS H H':=⟨λa xs e=>(f a _ e (h.tupNone e)).1,λa o e=>(f a _ e (h.codNone e)).1⟩
def jfW.upd  (h:jfW H)(h1:∀ps,H p≠some (.tbl ps))(h2:∀ob,H p≠some (frzC ob)):jfW (L2.upd H p o):=λt ht=>by
 rcases h t ht with e|⟨c,oc,e1,e2,q⟩
 ·exact .inl (by rw[jae (λz=>h1 _ (z ▸ e))];exact e)
 ·exact .inr ⟨c,oc,by rw[jae (λz=>h1 _ (z ▸ e1))];exact e1,by rw[jae (λz=>h2 _ (z ▸ e2))];exact e2,q⟩
def jfW.new  (h:jfW H)(e:H p=none):jfW (L2.upd H p o):=h.upd (λps z=>by lia) λob z=>by lia
def HR.tabW  (h:HR K H G){mo:MO}(g:G p=some mo):jfW (L2.upd H p o):=h.tab.upd (λps z=>by rw[h.tblNone z]at g;cases g) λob z=>by rw[h.codNone z]at g;cases g
def MOk.there    (m:MOk K H a o):∃ho,H a=some ho:=by
 cases o with
 |lst _=>obtain⟨_,e,_⟩:=m;simp_all
 |fro _=>obtain⟨_,_,e,_⟩:=m;simp_all
 |dK _=>obtain⟨_,e,_⟩:=m;simp_all
 |dT _=>obtain⟨_,e,_⟩:=m;simp_all
 |frd _ _=>obtain⟨_,e,_⟩:=m;simp_all
 |frk _ _=>obtain⟨_,e,_⟩:=m;simp_all
def MOk.keep    (m:MOk K H a o)(e:H' a=H a)(t:TS H H'):MOk K H' a o:=by
 cases o with
 |lst _=>obtain⟨vs,q,r⟩:=m;exact⟨vs,e.trans q,r.ts t⟩
 |fro _=>obtain⟨ob,vs,q,r⟩:=m;exact⟨ob,vs,e.trans q,r.ts t⟩
 |dK _=>obtain⟨l,q,r⟩:=m;exact⟨l,e.trans q,r.ts t⟩
 |dT _=>obtain⟨l,q,r⟩:=m;exact⟨l,e.trans q,r.ts t⟩
 |frd _ _=>obtain⟨l,q,r⟩:=m;exact⟨l,e.trans q,r.ts t⟩
 |frk _ _=>obtain⟨l,q,r⟩:=m;exact⟨l,e.trans q,r.ts t⟩
def HR.nope  (h:HR K H G)(e:H a=none):G a=none:=by
 cases q:G a with
 |none=>rfl
 |some o=>
  obtain⟨_,e2⟩:=(h a o q).there
  lia
def jaD    : gup G a o a=some o:=by unfold gup;lia
def jbH    (h:b≠a):gup G a o b=G b:=by unfold gup;lia
def TS.new    (e:H p=none):TS H (upd H p o):=⟨λa xs h=>by rw[jae (jak h e)];exact h,λa ob h=>by rw[jae (jak h e)];exact h⟩
def HR.newT  (h:HR K H G)(e:H p=none):HR K (upd H p (.tup xs)) G:=⟨λa o q=>by
 have m:=h a o q;obtain⟨ho,e2⟩:=m.there;exact m.keep (jae (jak e2 e)) (TS.new e),h.tab.new e⟩
def Fr.new    (e:H p=none):Fr H G (upd H p o) G:=⟨λa ob h g _=>⟨by rw[jae (jak h e)];exact h,g⟩⟩
def HR.newO  (h:HR K H G){mo:MO}(e:H p=none)(m:MOk K (upd H p o) p mo):HR K (upd H p o) (gup G p mo):=⟨λa ob q=>by
 by_cases z:a=p
 ·subst z;rw[jaD]at q
  lia
 ·rw[jbH z]at q;exact(h a ob q).keep (jae z) (TS.new e),h.tab.new e⟩
def Fr.newO     (e:H p=none):Fr H G (upd H p o) (gup G p mo):=⟨λa ob h g _=>by
 have z:a≠p:=jak h e;exact⟨by rw[jae z];exact h,by rw[jbH z];exact g⟩⟩
def TS.write  (h:HR K H G)(g:G p=some mo):TS H (upd H p o):=⟨λa xs e=>by
 have z:a≠p:=λz=>by subst z;rw[h.tupNone e]at g;cases g
 rw[jae z];exact e,λa ob e=>by
 have z:a≠p:=λz=>by subst z;rw[h.codNone e]at g;cases g
 rw[jae z];exact e⟩
def HR.write  (h:HR K H G){mo mo':MO}(g:G p=some mo)(m:MOk K (upd H p o) p mo'):HR K (upd H p o) (gup G p mo'):=⟨λa ob q=>by
 by_cases z:a=p
 ·subst z;rw[jaD]at q
  lia
 ·rw[jbH z]at q;exact(h a ob q).keep (jae z) (TS.write h g),h.tabW g⟩
def Fr.write     (g:G p=some mo):Fr H G (upd H p o) (gup G p mo'):=⟨λa ob h n _=>by
 have z:a≠p:=λz=>by lia
 exact⟨by rw[jae z];exact h,by rw[jbH z];exact n⟩⟩
theorem RUs.length  : ∀{us } {vs },RUs K H us vs->us.length=vs.length
 |[],_,h=>by cases h;rfl
 |_::_,_,h=>by
  obtain⟨v,vr,rfl,_,rs⟩:=h;simp[rs.length]
theorem RUs.append  : ∀{us ws } {vs xs },RUs K H us vs->RUs K H ws xs->RUs K H (us++ws) (vs++xs)
 |[],_,_,_,h,h'=>by cases h;exact h'
 |_::_,_,_,_,h,h'=>by
  obtain⟨v,vr,rfl,r,rs⟩:=h;exact⟨v,vr++_,rfl,r,rs.append h'⟩
theorem RUs.get  : ∀{us } {vs } {i:Nat} {u },RUs K H us vs->us[i]?=some u->∃v,vs[i]?=some v/\RU K H u v
 |[],_,_,_,_,e=>by simp at e
 |_::_,_,0,_,h,e=>by
  obtain⟨v,vr,rfl,r,_⟩:=h
  simp_all
 |_::_,_,i+1,_,h,e=>by
  obtain⟨v,vr,rfl,_,rs⟩:=h;obtain⟨w,h1,h2⟩:=rs.get (i:=i) (by simpa using e)
  simp_all
theorem RUs.take  : ∀{us } {vs } n ,RUs K H us vs->RUs K H (us.take n) (vs.take n)
 |_,_,0,_=>rfl
 |[],_,_+1,h=>by cases h;rfl
 |_::_,_,n+1,h=>by
  obtain⟨v,vr,rfl,r,rs⟩:=h;exact⟨v,vr.take n,rfl,r,rs.take n⟩
theorem RUs.drop  : ∀{us } {vs } n ,RUs K H us vs->RUs K H (us.drop n) (vs.drop n)
 |_,_,0,h=>h
 |[],_,_+1,h=>by cases h;rfl
 |_::_,_,n+1,h=>by
  obtain⟨v,vr,rfl,_,rs⟩:=h;exact rs.drop n
theorem RUs.set    (r:RU K H u v):∀{us } {vs } i ,RUs K H us vs->RUs K H (us.set i u) (vs.set i v)
 |[],_,_,h=>by cases h;rfl
 |_::_,_,0,h=>by
  obtain⟨w,vr,rfl,_,rs⟩:=h;exact⟨v,vr,rfl,r,rs⟩
 |_::_,_,i+1,h=>by
  obtain⟨w,vr,rfl,q,rs⟩:=h;exact⟨w,vr.set i v,rfl,q,rs.set r i⟩
theorem RUs.reverse  : ∀{us } {vs },RUs K H us vs->RUs K H us.reverse vs.reverse
 |[],_,h=>by cases h;rfl
 |_::_,_,h=>by
  obtain⟨v,vr,rfl,r,rs⟩:=h;rw[Ycp,Ycp];exact rs.reverse.append ⟨v,[],rfl,r,rfl⟩
theorem RUs.rep    (h:RUs K H us vs):∀k ,RUs K H (Yaa k us).flatten (Yaa k vs).flatten
 |0=>rfl
 |k+1=>by
  rw[Ya4,Ya4,Yb3,Yb3];exact h.append (h.rep k)
theorem RUs.erase  : ∀{us } {vs } i ,RUs K H us vs->RUs K H (us.eraseIdx i) (vs.eraseIdx i)
 |[],_,_,h=>by cases h;rfl
 |_::_,_,0,h=>by
  obtain⟨v,vr,rfl,_,rs⟩:=h;exact rs
 |_::_,_,i+1,h=>by
  obtain⟨v,vr,rfl,r,rs⟩:=h;exact⟨v,_,rfl,r,rs.erase i⟩
def RUs.dropLast    (h:RUs K H us vs):RUs K H us.dropLast vs.dropLast:=by
 rw[YeZ,YeZ,h.length];exact h.take _
theorem RUs.atI {us:List U}{vs:List V}{i:Int}{u:U}(h:RUs K H us vs)(e:atI us i=some u):∃v,L2.atI vs i=some v/\RU K H u v:=by
 unfold L2.atI at e ⊢;rw[h.length]at e;cases q:ixN vs.length i with
 |none=>simp_all
 |some j=>
  rw[q]at e;exact h.get e
def RUs.cut    (h:RUs K H us vs) lo hi:RUs K H (Z.cut us lo hi) (cutV vs lo hi):=by
 unfold Z.cut cutV;rw[h.length];exact(h.drop _).take _
theorem RUs.isEmpty    (h:RUs K H us vs):us.isEmpty=vs.isEmpty:=by
 cases us with
 |nil=>cases h;rfl
 |cons u us=>obtain⟨v,vr,rfl,_⟩:=h;rfl
theorem RUs.ints  : ∀{us } {vs } {ns },RUs K H us vs->jfA us=some ns->vs=ns.map V.int
 |[],_,_,h,e=>by cases h;cases e;rfl
 |u::us,_,ns,h,e=>by
  obtain⟨v,vr,rfl,r,rs⟩:=h;cases u with
  |int i=>
   cases r;rw[jfA]at e;cases q:jfA us with
   |none=>lia
   |some l=>rw[q]at e;cases e;rw[rs.ints q];rfl
  |_=>cases e
theorem RUs.strs  : ∀{us } {vs } {ns },RUs K H us vs->jhx us=some ns->vs=ns.map V.str
 |[],_,_,h,e=>by cases h;cases e;rfl
 |u::us,_,ns,h,e=>by
  obtain⟨v,vr,rfl,r,rs⟩:=h;cases u with
  |str i=>
   cases r;rw[jhx]at e;cases q:jhx us with
   |none=>lia
   |some l=>rw[q]at e;cases e;rw[rs.strs q];rfl
  |_=>cases e
theorem RUs.bools  : ∀{us } {vs } {ns },RUs K H us vs->jed us=some ns->vs=ns.map V.bl
 |[],_,_,h,e=>by cases h;cases e;rfl
 |u::us,_,ns,h,e=>by
  obtain⟨v,vr,rfl,r,rs⟩:=h;cases u with
  |bl i=>
   cases r;rw[jed]at e;cases q:jed us with
   |none=>lia
   |some l=>rw[q]at e;cases e;rw[rs.bools q];rfl
  |_=>cases e
def HR.lst  (h:HR K H G)(e:G a=some (.lst us)):∃vs,H a=some (.lst vs)/\RUs K H us vs:=h a _ e
def HR.ls  (h:HR K H G)(e:lsG G a=some us):∃vs,SqL K H a vs/\RUs K H us vs:=by
 unfold lsG at e;split at e
 ·rename_i xs q;cases e;obtain⟨vs,q2,r⟩:=h a _ q;exact⟨vs,.inl (.inl q2),r⟩
 ·rename_i xs q;cases e;obtain⟨o,vs,q2,r⟩:=h a _ q;exact⟨vs,.inl (.inr ⟨o,q2⟩),r⟩
 lia
def HR.rd  (h:HR K H G)(e:lsG G a=some us):∃vs,Rd H a (.lst vs)/\RUs K H us vs:=by
 unfold lsG at e;split at e
 ·rename_i xs q;cases e;obtain⟨vs,q2,r⟩:=h a _ q;exact⟨vs,.inl q2,r⟩
 ·rename_i xs q;cases e;obtain⟨o,vs,q2,r⟩:=h a _ q;exact⟨vs,.inr ⟨o,q2⟩,r⟩
 lia
end
mutual
theorem DU.dv {K:Yac}{H:Hp}{G:Gp}(h:HR K H G):∀{u:U} {d:PyData} {v:V},DU G u d->RU K H u v->DV K H v d
 |_,_,_,.non,r=>by cases r;exact .non
 |_,_,_,.bl b,r=>by cases r;exact .bl b
 |_,_,_,.int i,r=>by cases r;exact .int i
 |_,_,_,.str x,r=>by cases r;exact .str x
 |_,_,_,.tup q,r=>by
  obtain⟨a,vs,rfl,s,rs⟩:=r
  exact .tup (.of s) (DUs.dv h q rs)
 |_,_,_,.lst e q,r=>by
  cases r
  obtain⟨vs,s,rs⟩:=h.rd e
  exact .lst s (DUs.dv h q rs)
 |_,_,_,.dic e,r=>by
  cases r
  obtain⟨l,q,rs⟩:=h _ _ e
  cases rs
  exact .dic q
theorem DUs.dv {K:Yac}{H:Hp}{G:Gp}(h:HR K H G):∀{us:List U} {ds:List PyData} {vs:List V},DUs G us ds->RUs K H us vs->DVs K H vs ds
 |_,_,_,.nil,r=>by cases r;exact .nil
 |_,_,_,.cons a b,r=>by
  obtain⟨v,vr,rfl,r1,rs⟩:=r
  exact .cons (DU.dv h a r1) (DUs.dv h b rs)
end
end Z

namespace L2
open PySem
def PE.imp     (h:PE X e t)(i:∀σ H Q,t' σ H Q->t σ H Q):PE X e t':=λpins s σ H Q I q=>h pins s σ H Q I (i σ H Q q)
def PT.imp     (h:PT X e t)(i:∀σ H Q,t' σ H Q->t σ H Q):PT X e t':=λpins s σ H Q I q=>h pins s σ H Q I (i σ H Q q)
def PW.imp     (h:PW X e t)(i:∀σ H Q,t' σ H Q->t σ H Q):PW X e t':=λw pins s σ H Q I q=>h w pins s σ H Q I (i σ H Q q)
def PA.imp     (h:PA X e t)(i:∀σ H Q,t' σ H Q->t σ H Q):PA X e t':=λpos pins s σ H Q I q=>h pos pins s σ H Q I (i σ H Q q)
def PO.imp     (h:PO X e t)(i:∀σ H Q,t' σ H Q->t σ H Q):PO X e t':=λpins s σ H Q I q=>h pins s σ H Q I (i σ H Q q)
def PS.imp     (h:PS X e t)(i:∀D σ H,t' D σ H->t D σ H):PS X e t':=λpins s σ H D I q=>h pins s σ H D I (i D σ H q)
def PSs.imp     (h:PSs X e t)(i:∀D σ H,t' D σ H->t D σ H):PSs X e t':=λpins s σ H D I q=>h pins s σ H D I (i D σ H q)
end L2
namespace Z
open PySem L2
noncomputable def gK  (K:Yac):Str->Option Value:=λx=>(Ya6 K Yax x).join
def XD  (K:Yac)(H:Hp)(C dx:Addr)(x:XV):Prop:=1<=x.c/\x.c<6/\XCls K (gK K) (clsN x.c) (clsF x.c) C/\∃l,H dx=some (.xd l)/\l.map (·.1)=clsF x.c/\RUs K H x.fs (l.map (·.2))
def XAt  (X:Cx)(H:Hp)(s:Shared)(e:Value)(x:XV):Prop:=∃ea C dx,e=.ref ea/\Lies X.s₀.heap.objs.size X.pn H s.heap ea (.ref C) (some dx)/\XD X.K H C dx x
section
variable (X:Cx)
def LX (σ:St)(H:Hp)(G:Gp)(E:KX):Prop:=∀(pins:List (Addr×Obj)) (e:Value) (s':Shared) (x:XV) (G':Gp) (H':Hp),Inv X pins σ H' s'->XAt X H' s' e x->HR X.K H' G'->Fr H G H' G'->E x G'->X.xe e s'
def LV (H:Hp)(G:Gp)(Q:K1)(Q0:VK):Prop:=∀w v G' H',RU X.K H' w v->HR X.K H' G'->Fr H G H' G'->Q w G'->Q0 v H'
def lE (t:UE):TE:=λσ H Q0=>∃ς G Q E,SR X.K H ς σ/\HR X.K H G/\t ς G Q E/\LV X H G Q Q0/\LX X σ H G E
def lT (t:UT):TT:=λσ H Q0=>∃ς G Q E,SR X.K H ς σ/\HR X.K H G/\t ς G Q E/\(∀b G' H',HR X.K H' G'->Fr H G H' G'->Q b G'->Q0 b H')/\LX X σ H G E
def lA (t:UA):TA:=λσ H Q0=>∃ς G Q E,SR X.K H ς σ/\HR X.K H G/\t ς G Q E/\(∀ws vs G' H',RUs X.K H' ws vs->HR X.K H' G'->Fr H G H' G'->Q ws G'->Q0 vs H')/\LX X σ H G E
def lO (t:Sg->Gp->(Option Int->Gp->Prop)->KX->Prop):TO:=λσ H Q0=>∃ς G Q E,SR X.K H ς σ/\HR X.K H G/\t ς G Q E/\(∀o G' H',HR X.K H' G'->Fr H G H' G'->Q o G'->Q0 o H')/\LX X σ H G E
end
section
variable {X:Cx}{σ:St}{H H1 H2:Hp}{G G1 G2:Gp}
def LX.fr  {E:KX}(h:LX X σ H G E)(f:Fr H G H1 G1):LX X σ H1 G1 E:=λpins e s' x G' H' I a hr f' q=>h pins e s' x G' H' I a hr (f.trans f') q
def LV.fr    (h:LV X H G Q Q0)(f:Fr H G H1 G1):LV X H1 G1 Q Q0:=λw v G' H' r hr f' q=>h w v G' H' r hr (f.trans f') q
def LV.here    (h:LV X H G Q Q0)(r:RU X.K H w v)(hr:HR X.K H G)(q:Q w G):Q0 v H:=h w v G H r hr (Fr.refl _ _) q
def LV.bl    (h:LV X H G Q Q0)(hr:HR X.K H G)(q:Q (.bl b) G):Q0 (.bl b) H:=h.here (w:=.bl b) rfl hr q
def LV.int    (h:LV X H G Q Q0)(hr:HR X.K H G)(q:Q (.int b) G):Q0 (.int b) H:=h.here (w:=.int b) rfl hr q
def LV.str    (h:LV X H G Q Q0)(hr:HR X.K H G)(q:Q (.str b) G):Q0 (.str b) H:=h.here (w:=.str b) rfl hr q
def LV.tup    (h:LV X H G Q Q0)(e:H p=none)(r:RUs X.K H us vs)(hr:HR X.K H G)(q:Q (.tup us) G):Q0 (.ref p) (upd H p (.tup vs)):=
 h (.tup us) (.ref p) G _ ⟨p,vs,rfl,jaj,r.ts (TS.new e)⟩ (hr.newT e) (Fr.new e) q
def LV.lst    (h:LV X H G Q Q0)(e:H p=none)(r:RUs X.K H us vs)(hr:HR X.K H G)(q:newO G (.lst us) Q):Q0 (.ref p) (upd H p (.lst vs)):=
 h (.loc p) (.ref p) _ _ rfl (hr.newO (mo:=.lst us) e ⟨vs,jaj,r.ts (TS.new e)⟩) (Fr.newO e) (q.at p (hr.nope e))
def LV.wl    (h:LV X H G Q Q0)(g:G p=some mo)(r:RUs X.K H us vs)(hr:HR X.K H G)(rw':RU X.K H w v)(q:putO G p (.lst us) (Q w)):Q0 v (upd H p (.lst vs)):=
 h w v _ _ (rw'.ts (TS.write hr g)) (hr.write (mo':=.lst us) g ⟨vs,jaj,r.ts (TS.write hr g)⟩) (Fr.write g) q.at
end

def lE.two  {R:V->V->Hp->Prop}{k:U->U->Gp->K1->Prop}(h:lE X (λς G Q E=>ta ς G (λx G1=>tb ς G1 (λy G2=>k x y G2 Q) E) E) σ H Q0)
  (f:∀x y v v' G H' Q,RU X.K H' x v->RU X.K H' y v'->HR X.K H' G->k x y G Q->LV X H' G Q Q0->R v v' H'):lE X ta σ H λv H1=>lE X tb σ H1 λv' H2=>R v v' H2:=by
 obtain⟨ς,G,Q,E,hς,hG,h,lv,lx⟩:=h;refine⟨ς,G,_,E,hς,hG,h,λx v G1 H1 rx hG1 f1 h1=>?_,lx⟩;refine⟨ς,G1,_,E,hς.ts (f1.ts hG),hG1,h1,λy v' G2 H2 ry hG2 f2 h2=>?_,lx.fr f1⟩;exact f x y v v' G2 H2 Q (rx.ts (f2.ts hG1)) ry hG2 h2 (lv.fr (f1.trans f2))
def lE.one  {R:V->Hp->Prop}{k:U->Gp->K1->Prop}(h:lE X (λς G Q E=>ta ς G (λx G1=>k x G1 Q) E) σ H Q0)
  (f:∀x v G H' Q,RU X.K H' x v->HR X.K H' G->k x G Q->LV X H' G Q Q0->R v H'):lE X ta σ H R:=by
 obtain⟨ς,G,Q,E,hς,hG,h,lv,lx⟩:=h;exact⟨ς,G,_,E,hς,hG,h,λx v G1 H1 rx hG1 f1 h1=>f x v G1 H1 Q rx hG1 h1 (lv.fr f1),lx⟩
def lE.many    {k:List U->Gp->K1->Prop}(h:lE X (λς G Q E=>ta ς G (λx G1=>k x G1 Q) E) σ H Q0)
  (f:∀x v G H' Q,RUs X.K H' x v->HR X.K H' G->k x G Q->LV X H' G Q Q0->R v H'):lA X ta σ H R:=by
 obtain⟨ς,G,Q,E,hς,hG,h,lv,lx⟩:=h;exact⟨ς,G,_,E,hς,hG,h,λx v G1 H1 rx hG1 f1 h1=>f x v G1 H1 Q rx hG1 h1 (lv.fr f1),lx⟩

def jo6    (hN:X.N[i]?=some x)(hv:Vis X.env.scope x)(hd:(x==("__debug__" : Str))=false)(hcd:(x==("__classdict__" : Str))=false):PE X (.Name x pos) (lE X λς G Q _=>slot ς i λu=>Q u G):=by
 refine(jbC hN hv hd hcd).imp λσ H Q0 h=>?_;obtain⟨ς,G,Q,E,hς,hG,h,lv,_⟩:=h;unfold slot at h;split at h
 ·rename_i u e;obtain⟨v,e1,r⟩:=hς.2 i u e;exact⟨v,e1,lv.here r hG h⟩
 lia
def jcL     (h:PE X e (tC v))(r:∀H,RU X.K H u v):PE X e (lE X λ_ G Q _=>Q u G):=
 h.imp λ_ _ _ ⟨_,_,_,_,_,hG,q,lv,_⟩=>lv.here (r _) hG q
def OpU  (X:Cx)(f:Value->Value->Sem Value)(b:U->U->Gp->K1->Prop):Prop:=
 ∃r:R2,OpR X f r/\∀x y v v' G H Q Q0,RU X.K H x v->RU X.K H y v'->HR X.K H G->b x y G Q->LV X H G Q Q0->r v v' H Q0

def jpl    (ho:OpU X (Yba o) k)(ha:PE X a (lE X ta))(hb:PE X b (lE X tb)) :
  PE X (.BinOp a o b pos) (lE X λς G Q E=>ta ς G (λx G1=>tb ς G1 (λy G2=>k x y G2 Q) E) E):=by
 obtain⟨r,h1,h2⟩:=ho;exact(jpN h1 ha hb).imp λσ H Q0 h=>lE.two h λx y v v' G H' Q rx ry hG q lv=>h2 x y v v' G H' Q Q0 rx ry hG q lv
def jnY  : OpU X (Yba .Add) addU:=by
 refine⟨_,job.or (jhE.or ((jl7 (X:=X)).or (joa.or jl8))),?_⟩;intro x y v v' G H Q Q0 rx ry hG h lv;cases x<;>try exact h.elim
 ·cases y<;>try exact h.elim
  cases rx;cases ry;exact .inr (.inr (.inr (.inr ⟨_,_,rfl,rfl,lv.int hG h⟩)))
 ·cases y<;>try exact h.elim
  cases rx;cases ry;exact .inl ⟨_,_,rfl,rfl,lv.int hG h⟩
 ·cases y<;>try exact h.elim
  cases rx;cases ry;exact .inr (.inl ⟨_,_,rfl,rfl,h.1,lv.str hG h.2⟩)
 ·cases y<;>try exact h.elim
  rename_i xs ys;obtain⟨a,vs,rfl,s1,r1⟩:=rx;obtain⟨b,ws,rfl,s2,r2⟩:=ry;obtain⟨hl,q⟩:=h;refine .inr (.inr (.inl ⟨a,b,vs,ws,rfl,rfl,.of s1,.of s2,by rw[<- r1.length,<- r2.length];exact hl,λz=>?_,λ_ z=>?_,λ_ _ p hp=>?_⟩))
  ·have:xs=[]:=by have:=r1.length;simp_all
   subst this;exact lv.here (w:=.tup ys) ⟨b,ws,rfl,s2,r2⟩ hG q
  ·have:ys=[]:=by have:=r2.length;simp_all
   subst this;rw[Ya7]at q;exact lv.here (w:=.tup xs) ⟨a,vs,rfl,s1,r1⟩ hG q
  ·exact lv.tup hp (r1.append r2) hG q
 ·cases y<;>try exact h.elim
  cases rx;cases ry;obtain⟨xs,ys,g1,g2,hl,q⟩:=h;obtain⟨vs,e1,r1⟩:=hG.lst g1;obtain⟨ws,e2,r2⟩:=hG.lst g2;exact .inr (.inr (.inr (.inl ⟨_,_,vs,ws,rfl,rfl,e1,e2,by rw[<- r1.length,<- r2.length];exact hl,λp hp=>lv.lst hp (r1.append r2) hG q⟩)))
def jnT  : OpU X (Yba .Sub) subU:=by
 refine⟨_,jnZ.or (jl2 (X:=X)),?_⟩;intro x y v v' G H Q Q0 rx ry hG h lv;cases x<;>try exact h.elim
 all_goals cases y<;>try exact h.elim
 all_goals cases rx;cases ry
 ·exact .inr (.inl ⟨_,_,rfl,rfl,lv.int hG h⟩)
 ·exact .inr (.inr ⟨_,_,rfl,rfl,lv.int hG h⟩)
 ·exact .inl ⟨_,_,rfl,rfl,lv.int hG h⟩
def jnV  : OpU X (Yba .Mult) mulU:=by
 refine⟨_,jn3.or (jn0.or ((jl3 (X:=X)).or jl4)),?_⟩;intro x y v v' G H Q Q0 rx ry hG h lv;cases x<;>try exact h.elim
 all_goals cases y<;>try exact h.elim
 ·cases rx;cases ry;exact .inl ⟨_,_,rfl,rfl,h.1,lv.int hG h.2⟩
 ·cases rx;cases ry;exact .inr (.inr (.inr ⟨_,_,rfl,rfl,h.1,h.2.1,h.2.2.1,lv.str hG h.2.2.2⟩))
 ·rename_i xs k;obtain⟨a,vs,rfl,s1,r1⟩:=rx;cases ry;obtain⟨h0,h1,h2,hl,q⟩:=h;refine .inr (.inr (.inl ⟨a,k,vs,rfl,rfl,.of s1,?_,h1,h2,by rw[<- r1.length];exact hl,λz=>?_,λ_ p hp=>lv.tup hp (r1.rep _) hG q⟩))
  ·intro z;subst z;exact h0 (by have:=r1.length;simp_all)
  ·subst z;have e:(Yaa (Int.toNat 1) xs).flatten=xs:=by simp
   rw[e]at q;exact lv.here (w:=.tup xs) ⟨a,vs,rfl,s1,r1⟩ hG q
 ·cases rx;cases ry;obtain⟨xs,g1,h1,h2,hl,q⟩:=h;obtain⟨vs,e1,r1⟩:=hG.lst g1;exact .inr (.inl ⟨_,_,vs,rfl,rfl,e1,h1,h2,by rw[<- r1.length];exact hl,λp hp=>lv.lst hp (r1.rep _) hG q⟩)
def jl1  : OpU X (Yba .FloorDiv) joM:=by
 refine⟨_,jl5,?_⟩;intro x y v v' G H Q Q0 rx ry hG h lv;cases x<;>try exact h.elim
 cases y<;>try exact h.elim
 ·cases rx;cases ry;exact⟨_,_,rfl,rfl,⟨h.1,h.2.1⟩,lv.int hG h.2.2⟩
def jnW  : OpU X (Yba .Mod) modU:=by
 refine⟨_,jn4,?_⟩;intro x y v v' G H Q Q0 rx ry hG h lv;cases x<;>try exact h.elim
 cases y<;>try exact h.elim
 ·cases rx;cases ry;exact⟨_,_,rfl,rfl,h.1,lv.int hG h.2⟩
def jnU  : OpU X (Yba .Pow) powU:=by
 refine⟨_,jn1,?_⟩;intro x y v v' G H Q Q0 rx ry hG h lv;cases x<;>try exact h.elim
 cases y<;>try exact h.elim
 ·cases rx;cases ry;exact⟨_,_,rfl,rfl,h.1,lv.int hG h.2⟩
def jnX   o:OpU X (Yba o) (binU o):=by
 cases o with
 |Add=>exact jnY
 |Sub=>exact jnT
 |Mult=>exact jnV
 |FloorDiv=>exact jl1
 |Mod=>exact jnW
 |Pow=>exact jnU
 |_=>exact⟨λ_ _ _ _=>False,λ_ _ _ _ _ _ _ _ _ _ _ _ h=>h.elim,λ_ _ _ _ _ _ _ _ _ _ _ h _=>h⟩
def jpd  (ha:PE X a (lE X ta)):PE X (.UnaryOp .USub a pos) (lE X λς G Q E=>ta ς G (λx G1=>negU x G1 Q) E):=by
 refine(jpL jmZ ha).imp λσ H Q0 h=>lE.one h λx v G H' Q rx hG q lv=>?_;cases x<;>try exact q.elim
 cases rx;exact⟨_,rfl,lv.int hG q⟩
def CmU  (X:Cx)(o:CmpOp):Prop:=
 ∃r:R2,OpR X (YaG o) r/\∀x y v v' G H (k:Bool->Prop) (Q0:VK),RU X.K H x v->RU X.K H y v'->HR X.K H G->cmpU o x y G k->(∀c,k c->Q0 (.bl c) H)->r v v' H Q0

def rIs  (neg:Bool):R2:=λx y H Q=>((x=.non\/∃b,x=.bl b)\/(y=.non\/∃b,y=.bl b))/\Q (.bl (if neg then !decide (x=y) else decide (x=y))) H
def jg0    (rx:RelV x v)(ry:RelV y u)(h:(x=.non\/∃b,x=.bl b)\/(y=.non\/∃b,y=.bl b)):plainIs v u=true/\(v==u)=decide (x=y):=by
 rcases h with(rfl|⟨b,rfl⟩)|(rfl|⟨b,rfl⟩)
 ·cases rx;cases y with
  |non=>cases ry;exact⟨rfl,by simp⟩
  |bl c=>cases ry;exact⟨rfl,by simp⟩
  |int _=>obtain⟨t,rfl⟩:=ry;exact⟨rfl,by simp⟩
  |str _=>obtain⟨t,rfl⟩:=ry;exact⟨rfl,by simp⟩
  |byt _=>obtain⟨t,rfl⟩:=ry;exact⟨rfl,by simp⟩
  |flt _=>obtain⟨t,rfl⟩:=ry;exact⟨rfl,by simp⟩
  |ref _=>cases ry;exact⟨rfl,by simp⟩
  |ty _=>cases ry;exact⟨rfl,by simp⟩
 ·cases rx;cases y with
  |non=>cases ry;exact⟨rfl,by simp⟩
  |bl c=>cases ry;exact⟨rfl,by lia⟩
  |int _=>obtain⟨t,rfl⟩:=ry;exact⟨rfl,by simp⟩
  |str _=>obtain⟨t,rfl⟩:=ry;exact⟨rfl,by simp⟩
  |byt _=>obtain⟨t,rfl⟩:=ry;exact⟨rfl,by simp⟩
  |flt _=>obtain⟨t,rfl⟩:=ry;exact⟨rfl,by simp⟩
  |ref _=>cases ry;exact⟨rfl,by simp⟩
  |ty _=>cases ry;exact⟨rfl,by simp⟩
 ·cases ry;cases x with
  |non=>cases rx;exact⟨rfl,by simp⟩
  |bl c=>cases rx;exact⟨rfl,by simp⟩
  |int _=>obtain⟨t,rfl⟩:=rx;exact⟨rfl,by simp⟩
  |str _=>obtain⟨t,rfl⟩:=rx;exact⟨rfl,by simp⟩
  |byt _=>obtain⟨t,rfl⟩:=rx;exact⟨rfl,by simp⟩
  |flt _=>obtain⟨t,rfl⟩:=rx;exact⟨rfl,by simp⟩
  |ref _=>cases rx;exact⟨rfl,by simp⟩
  |ty _=>cases rx;exact⟨rfl,by simp⟩
 ·cases ry;cases x with
  |non=>cases rx;exact⟨rfl,by simp⟩
  |bl c=>cases rx;exact⟨rfl,by lia⟩
  |int _=>obtain⟨t,rfl⟩:=rx;exact⟨rfl,by simp⟩
  |str _=>obtain⟨t,rfl⟩:=rx;exact⟨rfl,by simp⟩
  |byt _=>obtain⟨t,rfl⟩:=rx;exact⟨rfl,by simp⟩
  |flt _=>obtain⟨t,rfl⟩:=rx;exact⟨rfl,by simp⟩
  |ref _=>cases rx;exact⟨rfl,by simp⟩
  |ty _=>cases rx;exact⟨rfl,by simp⟩
def jn5  : OpR X (YaG .Is) (rIs false):=by
 intro pins s σ H x y v u Q I rx ry h;obtain⟨c,q⟩:=h;obtain⟨h1,h2⟩:=jg0 rx ry c;refine wpAny_is_plain h1 ⟨.bl _,H,I,?_,q⟩;rw[h2];rfl
def jiD  : OpR X (YaG .IsNot) (rIs true):=by
 intro pins s σ H x y v u Q I rx ry h;obtain⟨c,q⟩:=h;obtain⟨h1,h2⟩:=jg0 rx ry c;refine wpAny_isNot_plain h1 ⟨.bl _,H,I,?_,q⟩;rw[h2];rfl
def jkZ       (rx:RU K H x v)(ry:RU K H y v')(h:isU x y k):((v=.non\/∃b,v=.bl b)\/(v'=.non\/∃b,v'=.bl b))/\k (decide (v=v')):=by
 have e:∀{a b:V},a≠b->k false->k (decide (a=b)):=λn q=>by lia
 cases x<;>try exact h.elim
 ·cases y
  case non=>have h':k true:=h;cases rx;cases ry;lia
  all_goals first
   |exact h.elim
   |(cases rx;obtain⟨a,vs,rfl,_⟩:=ry;exact⟨.inl (.inl rfl),e (λz=>nomatch z) h⟩)
   |(cases rx;cases ry;exact⟨.inl (.inl rfl),e (λz=>nomatch z) h⟩)
 ·cases y<;>first
   |exact h.elim
   |(cases rx;cases ry;exact⟨.inr (.inl rfl),e (λz=>nomatch z) h⟩)
   |(cases rx;cases ry;rename_i b c;exact⟨.inl (.inr ⟨_,rfl⟩),by rw[decide_eq_decide.mpr (⟨λz=>V.bl.inj z,λz=>z ▸ rfl⟩:V.bl b=.bl c↔b=c)];exact h⟩)
 ·cases y<;>first
   |exact h.elim
   |(cases rx;cases ry;exact⟨.inr (.inl rfl),e (λz=>nomatch z) h⟩)
   |(cases rx;cases ry;exact⟨.inr (.inr ⟨_,rfl⟩),e (λz=>nomatch z) h⟩)
 ·cases y<;>first
   |exact h.elim
   |(cases rx;cases ry;exact⟨.inr (.inl rfl),e (λz=>nomatch z) h⟩)
   |(cases rx;cases ry;exact⟨.inr (.inr ⟨_,rfl⟩),e (λz=>nomatch z) h⟩)
 ·cases y<;>first
   |exact h.elim
   |(cases ry;obtain⟨a,vs,rfl,_⟩:=rx;exact⟨.inr (.inl rfl),e (λz=>nomatch z) h⟩)
   |(cases ry;obtain⟨a,vs,rfl,_⟩:=rx;exact⟨.inr (.inr ⟨_,rfl⟩),e (λz=>nomatch z) h⟩)
 ·cases y<;>first
   |exact h.elim
   |(cases rx;cases ry;exact⟨.inr (.inl rfl),e (λz=>nomatch z) h⟩)
   |(cases rx;cases ry;exact⟨.inr (.inr ⟨_,rfl⟩),e (λz=>nomatch z) h⟩)
def jk7  {X: Cx}(rx:RU X.K H x v)(ry:RU X.K H y v')(hG:HR X.K H G)(h:eqU x y G k) :
  (scal v v'=true/\k (decide (v=v')))\/∃d e,DV X.K H v d/\DV X.K H v' e/\d.canLay0=true/\e.canLay0=true/\d.depth<=100/\k (YaR d e):=by
 have g:(∃d e,DU G x d/\DU G y e/\Small d/\Small e/\k (YaR d e))->(scal v v'=true/\k (decide (v=v')))\/∃d e,DV X.K H v d/\DV X.K H v' e/\d.canLay0=true/\e.canLay0=true/\d.depth<=100/\k (YaR d e):=
  λ⟨d,e,h1,h2,⟨s1,s2⟩,⟨s3,_⟩,q⟩=>.inr ⟨d,e,h1.dv hG rx,h2.dv hG ry,s1,s3,s2,q⟩
 have e:∀{p:Prop} [Decidable p],¬p->k false->k (decide p):=λn q=>by lia
 cases x<;>try exact g h
 all_goals
  cases y<;>first
   |exact g h
   |(cases rx;cases ry;exact .inl ⟨rfl,e (λz=>V.noConfusion z) h⟩)
   |(cases rx;cases ry;exact .inl ⟨rfl,by simp only[V.bl.injEq,V.int.injEq,V.str.injEq];exact h⟩)
def jdA      (r:RUs K H us vs):vs.isEmpty=us.isEmpty:=by
 have:=r.length;cases us<;>cases vs<;>simp_all
def jmM  {X: Cx}(rx:RU X.K H x v)(ry:RU X.K H y v')(hG:HR X.K H G)(h:eqQ x y G k):eqU x y G k\/(∃a z kvs,v=.ref a/\v'=.str z/\H a=some (.dK kvs)/\k false)\/(∃a b xs,v=.ref a/\v'=.ref b/\SqT X.K H a xs/\SqT X.K H b []/\k xs.isEmpty)\/∃a z xs,v=.ref a/\v'=.str z/\(SqT X.K H a xs\/SqL X.K H a xs)/\k false:=by
 cases x<;>try exact .inl h
 all_goals cases y<;>try exact .inl h
 ·obtain⟨a,vs,rfl,s1,r1⟩:=rx;cases ry;exact .inr (.inr (.inr ⟨a,_,vs,rfl,rfl,.inl (.of s1),h⟩))
 ·rename_i ys;cases ys<;>try exact .inl h
  obtain⟨a,vs,rfl,s1,r1⟩:=rx;obtain⟨b,ws,rfl,s2,r2⟩:=ry;cases r2;refine .inr (.inr (.inl ⟨a,b,vs,rfl,rfl,.of s1,.of s2,?_⟩));rw[jdA r1];exact h
 ·rcases h with⟨kvs,g,q⟩|⟨xs,g,q⟩|h
  ·cases rx;cases ry;obtain⟨l,e,rs⟩:=hG _ _ g;exact .inr (.inl ⟨_,_,l,rfl,rfl,e,q⟩)
  ·cases rx;cases ry;obtain⟨vs,e,rs⟩:=hG.lst g;exact .inr (.inr (.inr ⟨_,_,vs,rfl,rfl,.inr (.of e),q⟩))
  ·exact .inl h
def jml  {X: Cx}(rx:RU X.K H x v)(ry:RU X.K H y v')(hG:HR X.K H G)(h:neQ x y G k):eqU x y G k\/(∃a b xs,v=.ref a/\v'=.ref b/\SqT X.K H a xs/\SqT X.K H b []/\k xs.isEmpty)\/∃a b xs,v=.ref a/\v'=.ref b/\SqL X.K H a xs/\SqL X.K H b []/\k xs.isEmpty:=by
 cases x<;>try exact .inl h
 case loc a=>
  cases y<;>try exact .inl h
  rcases h with⟨us,g1,g2,q⟩|h
  ·obtain⟨vs,e1,r1⟩:=hG.lst g1;obtain⟨ws,e2,r2⟩:=hG.lst g2;cases r2;cases rx;cases ry;refine .inr (.inr ⟨_,_,vs,rfl,rfl,.of e1,.of e2,?_⟩);rw[jdA r1];exact q
  ·exact .inl h
 cases y<;>try exact .inl h
 rename_i ys;cases ys<;>try exact .inl h
 obtain⟨a,vs,rfl,s1,r1⟩:=rx;obtain⟨b,ws,rfl,s2,r2⟩:=ry;cases r2;refine .inr (.inl ⟨a,b,vs,rfl,rfl,.of s1,.of s2,?_⟩);rw[jdA r1];exact h
def jfy       (r:RU K H x v)(e:kU x=some k):v=kV k:=by
 cases x with
 |int i=>cases r;cases e;rfl
 |str i=>cases r;cases e;rfl
 |_=>cases e
theorem jhb    : ∀{xs } {vs } {ks },RUs K H xs vs->kUs xs=some ks->vs=ks.map kV
 |[],_,_,r,e=>by cases r;cases e;rfl
 |x::xs,_,ks,r,e=>by
  obtain⟨v,vr,rfl,r1,rs⟩:=r;rw[kUs]at e;cases h1:kU x with
  |none=>lia
  |some k=>
   cases h2:kUs xs with
   |none=>lia
   |some l=>
    rw[h1,h2]at e;cases e;rw[jfy r1 h1,jhb rs h2];rfl
def je6      (r:RU K H x v)(e:flat x=true):jdm v=true:=by
 cases x<;>first|(cases r;rfl)|exact absurd (show false=true from e) (by decide)
theorem jdr    : ∀{xs } {vs },RUs K H xs vs->xs.all flat=true->vs.all jdm=true
 |[],_,r,_=>by cases r;rfl
 |x::xs,_,r,e=>by
  obtain⟨v,vr,rfl,r1,rs⟩:=r;rw[Ybd,Yaf]at e;rw[Ybd,je6 r1 e.1,jdr rs e.2];rfl
def joP      (r:RU K H x v)(r':RU K H y v')(e:flat x=true)(e':flat y=true):eqV v v'=eqF x y:=by
 cases x<;>first|(exact absurd (show false=true from e) (by decide))|(cases y<;>first|(exact absurd (show false=true from e') (by decide))|(cases r;cases r';rfl))
theorem jhp      (r:RU K H x v)(e:flat x=true):∀{xs } {vs },RUs K H xs vs->xs.all flat=true->inV v vs=xs.any λy=>eqF y x
 |[],_,rs,_=>by cases rs;rfl
 |y::xs,_,rs,e'=>by
  obtain⟨v',vr,rfl,r1,rs⟩:=rs;rw[Ybd,Yaf]at e';have ih:=jhp r e rs e'.2;unfold inV at ih ⊢;rw[Ybc,Ybc,joP r1 r e'.1 e,ih]
theorem jcK {κ:Type}[DecidableEq κ]{K:Yac}{H:Hp}(k:κ):∀{kvs:List (κ×U)} {l:List (κ×V)},RKs K H kvs l->match dGet kvs k with|some u=>∃v,valV l k=some v/\RU K H u v|none=>valV l k=none
 |[],_,r=>by cases r;exact rfl
 |(k',u)::kvs,_,r=>by
  obtain⟨v,l',rfl,r1,rs⟩:=r;by_cases e:k'=k
  ·subst e;have:dGet ((k',u)::kvs) k'=some u:=by simp[dGet,Ybo]
   rw[this];exact⟨v,jdn rfl,r1⟩
  ·have:dGet ((k',u)::kvs) k=dGet kvs k:=by simp[dGet,Ybo,e]
   rw[this,jdo (p:=(k',v)) e];exact jcK k rs
def jdR   [DecidableEq κ](k:κ)(r:RKs K H kvs l):(valV l k).isSome=(dGet kvs k).isSome:=by
 have:=jcK k r
 grind
def rDIn  (neg:Bool):R2:=λx y H Q=>∃a o,y=.ref a/\DGet H a x o/\Q (.bl (if neg then !o.isSome else o.isSome)) H
def jn9  (hu:X.A.units+1<cLine):OpR X (YaG .In) (rDIn false):=by
 intro pins s σ H x y v u Q I rx ry h;obtain⟨a,o,rfl,g,q⟩:=h;cases ry;exact d_in hu I g rx λs' I'=>⟨.bl o.isSome,H,I',rfl,q⟩
def jiG  (hu:X.A.units+1<cLine):OpR X (YaG .NotIn) (rDIn true):=by
 intro pins s σ H x y v u Q I rx ry h;obtain⟨a,o,rfl,g,q⟩:=h;cases ry;exact jmN hu I g rx λs' I'=>⟨.bl (!o.isSome),H,I',rfl,q⟩
def jk0  {X: Cx}(rx:RU X.K H x v)(ry:RU X.K H y v')(hG:HR X.K H G)(h:inU x y G k) :
  (∃i j,v=.str i/\v'=.str j/\k (!(Yb5 j i 0 j.length 1).isEmpty))\/(∃p xs,v'=.ref p/\(SqL X.K H p xs\/SqT X.K H p xs)/\jdm v=true/\xs.all jdm=true/\k (inV v xs))\/
   (∃a o,v'=.ref a/\DGet H a v o/\k o.isSome)\/(∃(p:Addr) (vs:List V) (d:PyData) (ds:List PyData),v'=.ref p/\(SqL X.K H p vs\/SqT X.K H p vs)/\DV X.K H v d/\DVs X.K H vs ds/\d.canLay0=true/\d.depth<=100/\(∀e∈ds,e.canLay0=true)/\k (ds.any λe=>YaR e d))\/∃(a p:Addr) (zs:List Str),v=.ref a/\((∃xs,SqT X.K H a xs\/SqL X.K H a xs)\/∃kvs,H a=some (.dK kvs))/\v'=.ref p/\SqT X.K H p (zs.map V.str)/\k false:=by
 unfold inU at h;split at h
 ·cases rx;cases ry;exact .inl ⟨_,_,rfl,rfl,h⟩
 ·obtain⟨a,vs,rfl,e,rs⟩:=ry;rcases h with⟨hz,q⟩|⟨d,ds,hd,hds,sd,sds,q⟩
  ·obtain⟨zs,hz⟩:=Option.isSome_iff_exists.mp hz;obtain⟨b,ws,rfl,e2,_⟩:=rx;exact .inr (.inr (.inr (.inr ⟨b,a,zs,rfl,.inl ⟨ws,.inl (.of e2)⟩,rfl,rs.strs hz ▸ .of e,q⟩)))
  ·exact .inr (.inr (.inr (.inl ⟨a,vs,d,ds,rfl,.inr (.of e),hd.dv hG rx,hds.dv hG rs,sd.1,sd.2,λe he=>(sds e he).1,q⟩)))
 ·obtain⟨a,vs,rfl,e,rs⟩:=ry;obtain⟨hz,hl,q⟩:=h;obtain⟨zs,hz⟩:=Option.isSome_iff_exists.mp hz;cases rx;refine .inr (.inr (.inr (.inr ⟨_,a,zs,rfl,?_,rfl,rs.strs hz ▸ .of e,q⟩)));rcases hl with⟨xs,g⟩|⟨kvs,g⟩
  ·obtain⟨ws,e2,_⟩:=hG.lst g;exact .inl ⟨ws,.inr (.of e2)⟩
  ·obtain⟨l,e2,_⟩:=hG _ _ g;exact .inr ⟨l,e2⟩
 ·obtain⟨a,vs,rfl,e,rs⟩:=ry;obtain⟨f1,f2,q⟩:=h;exact .inr (.inl ⟨a,vs,rfl,.inr (.of e),je6 rx f1,jdr rs f2,by rw[jhp rx f1 rs f2];exact q⟩)
 ·cases ry;rename_i a;split at h
  ·rename_i ys g;obtain⟨vs,e,rs⟩:=hG.lst g;rcases h with⟨f1,f2,q⟩|⟨d,ds,hd,hds,sd,sds,q⟩
   ·exact .inr (.inl ⟨a,vs,rfl,.inl (.of e),je6 rx f1,jdr rs f2,by rw[jhp rx f1 rs f2];exact q⟩)
   ·exact .inr (.inr (.inr (.inl ⟨a,vs,d,ds,rfl,.inl (.of e),hd.dv hG rx,hds.dv hG rs,sd.1,sd.2,λe he=>(sds e he).1,q⟩)))
  ·rename_i ys g;obtain⟨ob,vs,e,rs⟩:=hG a _ g;obtain⟨f1,f2,q⟩:=h;exact .inr (.inl ⟨a,vs,rfl,.inl (.inl (.inr ⟨ob,e⟩)),je6 rx f1,jdr rs f2,by rw[jhp rx f1 rs f2];exact q⟩)
  ·rename_i kvs g;obtain⟨l,e,rs⟩:=hG a _ g;split at h
   ·rename_i y ek;have:=jfy rx ek;subst this;exact .inr (.inr (.inl ⟨a,_,rfl,DGet.k e,by rw[jdR y rs];exact h⟩))
   lia
  ·rename_i kvs g;obtain⟨l,e,rs⟩:=hG a _ g;split at h
   ·rename_i xs;obtain⟨b,vs,rfl,eb,rb⟩:=rx;split at h
    ·rename_i y ek;have:=jhb rb ek;subst this;exact .inr (.inr (.inl ⟨a,_,rfl,DGet.t e eb,by rw[jdR y rs];exact h⟩))
    lia
   lia
  ·rename_i o kvs g;obtain⟨l,e,rs⟩:=hG a _ g;split at h
   ·rename_i y ek;have:=jfy rx ek;subst this;exact .inr (.inr (.inl ⟨a,_,rfl,.inl ⟨l,y,.inr ⟨o,e⟩,rfl,rfl⟩,by rw[jdR y rs];exact h⟩))
   lia
  lia
 lia
def jeW     (h:ordU o x y k):(∃i j,x=.int i/\y=.int j)\/(o=.LtE/\∃i j,x=.str i/\y=.str j):=by
 cases o<;>try exact h.elim
 all_goals cases x<;>try exact h.elim
 all_goals cases y<;>try exact h.elim
 all_goals lia
def jeL   (hr:Room k X.A) o:CmU X o:=by
 have hu:X.A.units+1<cLine:=by have:=hr.un;lia
 cases o with
 |Eq=>
  refine⟨_,jpV.or ((jn8 hr).or ((jeX hr).or ((jhD hr).or (jfo hr)))),λx y v v' G H k Q0 rx ry hG h q=>?_⟩;rcases jmM rx ry hG h with h|⟨a,z,kvs,h1,h2,h3,h4⟩|⟨a,b,xs,h1,h2,h3,h4,h5⟩|⟨a,z,xs,h1,h2,h3,h4⟩
  ·rcases jk7 rx ry hG h with⟨h1,h2⟩|⟨d,e,h1,h2,h3,h4,h5,h6⟩
   ·exact .inl ⟨h1,q _ h2⟩
   ·exact .inr (.inl ⟨d,e,h1,h2,h3,h4,h5,q _ h6⟩)
  ·exact .inr (.inr (.inl ⟨a,z,kvs,h1,h2,h3,q _ h4⟩))
  ·exact .inr (.inr (.inr (.inl ⟨a,b,xs,h1,h2,h3,h4,q _ h5⟩)))
  ·exact .inr (.inr (.inr (.inr ⟨a,z,xs,h1,h2,h3,q _ h4⟩)))
 |NotEq=>
  refine⟨_,jpQ.or ((jn2 hr).or ((jhB hr).or (jhC hr))),λx y v v' G H k Q0 rx ry hG h q=>?_⟩;rcases jml rx ry hG h with h|⟨a,b,xs,h1,h2,h3,h4,h5⟩|⟨a,b,xs,h1,h2,h3,h4,h5⟩
  ·rcases jk7 rx ry hG h with⟨h1,h2⟩|⟨d,e,h1,h2,h3,h4,h5,h6⟩
   ·exact .inl ⟨h1,q _ h2⟩
   ·exact .inr (.inl ⟨d,e,h1,h2,h3,h4,h5,q _ h6⟩)
  ·exact .inr (.inr (.inl ⟨a,b,xs,h1,h2,h3,h4,q _ h5⟩))
  ·exact .inr (.inr (.inr ⟨a,b,xs,h1,h2,h3,h4,q _ h5⟩))
 |Is=>
  refine⟨_,jn5,λx y v v' G H k Q0 rx ry hG h q=>?_⟩;obtain⟨h1,h2⟩:=jkZ rx ry h;exact⟨h1,q _ h2⟩
 |IsNot=>
  refine⟨_,jiD,λx y v v' G H k Q0 rx ry hG h q=>?_⟩;obtain⟨h1,h2⟩:=jkZ rx ry h;exact⟨h1,q _ h2⟩
 |In=>
  refine⟨_,jiE.or ((jiF (X:=X)).or ((jn9 hu).or ((jn7 hr).or (jn6 hr)))),λx y v v' G H k Q0 rx ry hG h q=>?_⟩;rcases jk0 rx ry hG h with⟨i,j,h1,h2,h3⟩|⟨p,xs,h1,h2,h3,h4,h5⟩|⟨a,o,h1,h2,h3⟩|⟨p,vs,d,ds,h1,h2,h3,h4,h5,h6,h7,h8⟩|⟨a,p,zs,h1,h2,h3,h4,h5⟩
  ·grind
  ·exact .inr (.inl ⟨p,xs,h1,h2,h3,h4,q _ h5⟩)
  ·exact .inr (.inr (.inl ⟨a,o,h1,h2,q _ h3⟩))
  ·exact .inr (.inr (.inr (.inl ⟨p,vs,d,ds,h1,h2,h3,h4,h5,h6,h7,q _ h8⟩)))
  ·exact .inr (.inr (.inr (.inr ⟨a,p,zs,h1,h2,h3,h4,q _ h5⟩)))
 |NotIn=>
  refine⟨_,jfm.or ((jfn (X:=X)).or ((jiG hu).or ((jiB hr).or (jiA hr)))),λx y v v' G H k Q0 rx ry hG h q=>?_⟩;rcases jk0 rx ry hG h with⟨i,j,h1,h2,h3⟩|⟨p,xs,h1,h2,h3,h4,h5⟩|⟨a,o,h1,h2,h3⟩|⟨p,vs,d,ds,h1,h2,h3,h4,h5,h6,h7,h8⟩|⟨a,p,zs,h1,h2,h3,h4,h5⟩
  ·grind
  ·exact .inr (.inl ⟨p,xs,h1,h2,h3,h4,q _ h5⟩)
  ·exact .inr (.inr (.inl ⟨a,o,h1,h2,q _ h3⟩))
  ·exact .inr (.inr (.inr (.inl ⟨p,vs,d,ds,h1,h2,h3,h4,h5,h6,h7,q _ h8⟩)))
  ·exact .inr (.inr (.inr (.inr ⟨a,p,zs,h1,h2,h3,h4,q _ h5⟩)))
 |Lt=>
  refine⟨_,jpR,λx y v v' G H k Q0 rx ry hG h q=>?_⟩;obtain⟨i,j,rfl,rfl⟩|⟨z,_⟩:=jeW h
  rotate_left
  ·cases z
  cases rx;cases ry;exact⟨_,_,rfl,rfl,q _ h⟩
 |LtE=>
  refine⟨_,jpS.or jiC,λx y v v' G H k Q0 rx ry hG h q=>?_⟩;obtain⟨i,j,rfl,rfl⟩|⟨_,i,j,rfl,rfl⟩:=jeW h
  ·cases rx;cases ry;exact .inl ⟨_,_,rfl,rfl,q _ h⟩
  ·cases rx;cases ry;exact .inr ⟨_,_,rfl,rfl,q _ h⟩
 |Gt=>
  refine⟨_,jpT,λx y v v' G H k Q0 rx ry hG h q=>?_⟩;obtain⟨i,j,rfl,rfl⟩|⟨z,_⟩:=jeW h
  rotate_left
  ·cases z
  cases rx;cases ry;exact⟨_,_,rfl,rfl,q _ h⟩
 |GtE=>
  refine⟨_,jpU,λx y v v' G H k Q0 rx ry hG h q=>?_⟩;obtain⟨i,j,rfl,rfl⟩|⟨z,_⟩:=jeW h
  rotate_left
  ·cases z
  cases rx;cases ry;exact⟨_,_,rfl,rfl,q _ h⟩

def jpj   (ho:CmU X o)(ha:PE X a (lE X ta))(hb:PE X b (lE X tb))(hm:Yd3 o b=false) :
  PE X (.Compare a [o] [b] pos) (lE X λς G Q E=>ta ς G (λx G1=>tb ς G1 (λy G2=>cmpU o x y G2 λc=>Q (.bl c) G2) E) E):=by
 obtain⟨r,h1,h2⟩:=ho;exact(jlY h1 ha hb hm).imp λσ H Q0 h=>lE.two h λx y v v' G H' Q rx ry hG q lv=>h2 x y v v' G H' _ Q0 rx ry hG q λc q=>lv.bl hG q
def jm6   (ho:CmU X o)(ho':CmU X o')(ha:PE X a (lE X ta))(hb:PE X b (lE X tb))(hc:PE X c (lE X tc))(hm:YfL [o,o'] [b,c]=false) :
  PE X (.Compare a [o,o'] [b,c] pos) (lE X λς G Q E=>ta ς G (λx G1=>tb ς G1 (λy G2=>cmpU o x y G2 λt=>if t=true then tc ς G2 (λz G3=>cmpU o' y z G3 λt'=>Q (.bl t') G3) E else Q (.bl false) G2) E) E):=by
 obtain⟨r,h1,h2⟩:=ho;obtain⟨r',h1',h2'⟩:=ho';refine(jj5 h1 h1' ha hb hc hm).imp λσ H Q0 h=>?_;obtain⟨ς,G,Q,E,hς,hG,h,lv,lx⟩:=h;refine⟨ς,G,_,E,hς,hG,h,λx v G1 H1 rx hG1 f1 h1=>?_,lx⟩;refine⟨ς,G1,_,E,hς.ts (f1.ts hG),hG1,h1,λy v' G2 H2 ry hG2 f2 h3=>?_,lx.fr f1⟩;refine h2 x y v v' G2 H2 _ _ (rx.ts (f2.ts hG1)) ry hG2 h3 λt q=>⟨t,rfl,?_⟩;cases t with
 |false=>
  rw[if_neg Yaj]at q ⊢;exact(lv.fr (f1.trans f2)).bl hG2 q
 |true=>
  rw[if_pos rfl]at q ⊢;refine⟨ς,G2,_,E,(hς.ts (f1.ts hG)).ts (f2.ts hG1),hG2,q,λz v3 G3 H3 rz hG3 f3 h4=>?_,lx.fr (f1.trans f2)⟩;exact h2' y z v' v3 G3 H3 _ Q0 (ry.ts (f3.ts hG2)) rz hG3 h4 λc q=>(lv.fr ((f1.trans f2).trans f3)).bl hG3 q
def jeP  {X: Cx}(rx:RU X.K H x v)(hG:HR X.K H G)(h:truU x G k):∃b,TruV X.K v H b/\k b:=by
 cases x<;>try exact h.elim
 ·cases rx;exact⟨_,rfl,h⟩
 ·cases rx;exact⟨_,rfl,h⟩
 ·cases rx;exact⟨_,rfl,h⟩
 ·cases rx;exact⟨_,⟨h.1,rfl⟩,h.2⟩
 ·obtain⟨a,vs,rfl,e,rs⟩:=rx;exact⟨_,.inr (.inl ⟨vs,.of e,rfl⟩),by rw[<- rs.isEmpty];exact h⟩
 ·cases rx;unfold truU at h;dsimp only at h;split at h
  ·rename_i g;obtain⟨vs,e,rs⟩:=hG.lst g;exact⟨_,.inl ⟨vs,.of e,rfl⟩,by rw[<- rs.isEmpty];exact h⟩
  ·rename_i g;obtain⟨ob,vs,e,rs⟩:=hG _ _ g;exact⟨_,.inl ⟨vs,.inl (.inr ⟨ob,e⟩),rfl⟩,by rw[<- rs.isEmpty];exact h⟩
  ·rename_i kvs g;obtain⟨l,e,rs⟩:=hG _ _ g;refine⟨_,.inr (.inr ⟨l,e,rfl⟩),?_⟩;cases kvs with
   |nil=>cases rs;exact h
   |cons p r=>obtain⟨v,l',rfl,_⟩:=rs;exact h
  lia
def jpa  (ha:PE X a (lE X ta))(he:∀whole,isTrue a X.env whole=(do let v <- whole;standAt a.pos;holding [v] (truthy v))):PT X a (lT X λς G Q E=>ta ς G (λx G1=>truU x G1 λb=>Q b G1) E):=by
 refine(jjT ha he).imp λσ H Q0 h=>?_;obtain⟨ς,G,Q,E,hς,hG,h,lv,lx⟩:=h;refine⟨ς,G,_,E,hς,hG,h,λx v G1 H1 rx hG1 f1 h1=>?_,lx⟩;obtain⟨b,h2,h3⟩:=jeP rx hG1 h1
 grind
def jm5   (ho:CmU X o)(ha:PE X a (lE X ta))(hb:PE X b (lE X tb))(hm:Yd3 o b=false) :
  PT X (.Compare a [o] [b] pos) (lT X λς G Q E=>ta ς G (λx G1=>tb ς G1 (λy G2=>cmpU o x y G2 λc=>truU (.bl c) G2 λc=>Q c G2) E) E):=by
 obtain⟨r,h1,h2⟩:=ho;refine(jlK h1 ha hb hm).imp λσ H Q0 h=>?_;obtain⟨ς,G,Q,E,hς,hG,h,lv,lx⟩:=h;refine⟨ς,G,_,E,hς,hG,h,λx v G1 H1 rx hG1 f1 h1=>?_,lx⟩;refine⟨ς,G1,_,E,hς.ts (f1.ts hG),hG1,h1,λy v' G2 H2 ry hG2 f2 h3=>?_,lx.fr f1⟩;exact h2 x y v v' G2 H2 _ _ (rx.ts (f2.ts hG1)) ry hG2 h3 λt q=>⟨t,rfl,lv t G2 H2 hG2 (f1.trans f2) q⟩
def jlp   (ho:CmU X o)(ho':CmU X o')(ha:PE X a (lE X ta))(hb:PE X b (lE X tb))(hc:PE X c (lE X tc))(hm:YfL [o,o'] [b,c]=false) :
  PT X (.Compare a [o,o'] [b,c] pos) (lT X λς G Q E=>ta ς G (λx G1=>tb ς G1 (λy G2=>cmpU o x y G2 λt=>if t=true then tc ς G2 (λz G3=>cmpU o' y z G3 λt'=>truU (.bl t') G3 λc=>Q c G3) E else truU (.bl false) G2 λc=>Q c G2) E) E):=by
 obtain⟨r,h1,h2⟩:=ho;obtain⟨r',h1',h2'⟩:=ho';refine(jjU h1 h1' ha hb hc hm).imp λσ H Q0 h=>?_;obtain⟨ς,G,Q,E,hς,hG,h,lv,lx⟩:=h;refine⟨ς,G,_,E,hς,hG,h,λx v G1 H1 rx hG1 f1 h1=>?_,lx⟩;refine⟨ς,G1,_,E,hς.ts (f1.ts hG),hG1,h1,λy v' G2 H2 ry hG2 f2 h3=>?_,lx.fr f1⟩;refine h2 x y v v' G2 H2 _ _ (rx.ts (f2.ts hG1)) ry hG2 h3 λt q=>⟨t,rfl,?_⟩;cases t with
 |false=>
  rw[if_neg Yaj]at q ⊢;exact⟨false,rfl,lv false G2 H2 hG2 (f1.trans f2) q⟩
 |true=>
  rw[if_pos rfl]at q ⊢;refine⟨ς,G2,_,E,(hς.ts (f1.ts hG)).ts (f2.ts hG1),hG2,q,λz v3 G3 H3 rz hG3 f3 h4=>?_,lx.fr (f1.trans f2)⟩;exact h2' y z v' v3 G3 H3 _ _ (ry.ts (f3.ts hG2)) rz hG3 h4 λc q=>⟨c,rfl,lv c G3 H3 hG3 ((f1.trans f2).trans f3) q⟩
def jlZ  {rest:List Expr}(ha:PE X a sa)(hb:PE X (.BoolOp .And (b::rest) pos) sb):PE X (.BoolOp .And (a::b::rest) pos) (λσ H Q=>sa σ H λx H1=>∃k,TruV X.K x H1 k/\if k=true then sb σ H1 Q else Q x H1):=by
 intro pins s σ H Q I h;refine PyProof.Rows.BoolOp_and (thn (ha pins s σ H _ I h) λv s1 ⟨x,H1,I1,r1,k,hk,q1⟩=>?_);refine thn (jgR pins s1 σ H1 x v (λc H2=>c=k/\H2=H1) I1 r1 ⟨k,hk,rfl,rfl⟩) λc s2 ⟨H2,I2,e1,e2⟩=>?_;subst e1 e2;cases c with
 |true=>exact hb pins s2 σ H2 Q I2 q1
 |false=>exact⟨x,H2,I2,r1,q1⟩
def jnK  {rest:List Expr}(ha:PE X a sa)(hb:PE X (.BoolOp .Or (b::rest) pos) sb):PE X (.BoolOp .Or (a::b::rest) pos) (λσ H Q=>sa σ H λx H1=>∃k,TruV X.K x H1 k/\if k=true then Q x H1 else sb σ H1 Q):=by
 intro pins s σ H Q I h;refine PyProof.Rows.BoolOp_or (thn (ha pins s σ H _ I h) λv s1 ⟨x,H1,I1,r1,k,hk,q1⟩=>?_);refine thn (jgR pins s1 σ H1 x v (λc H2=>c=k/\H2=H1) I1 r1 ⟨k,hk,rfl,rfl⟩) λc s2 ⟨H2,I2,e1,e2⟩=>?_;subst e1 e2;cases c with
 |true=>exact⟨x,H2,I2,r1,q1⟩
 |false=>exact hb pins s2 σ H2 Q I2 q1
def jpn  {rest:List Expr}(ha:PE X a (lE X ta))(hb:PE X (.BoolOp .And (b::rest) pos) (lE X tb)):PE X (.BoolOp .And (a::b::rest) pos) (lE X λς G Q E=>ta ς G (λx G1=>truU x G1 λc=>if c=true then tb ς G1 Q E else Q x G1) E):=by
 refine(jlZ ha hb).imp λσ H Q0 h=>?_;obtain⟨ς,G,Q,E,hς,hG,h,lv,lx⟩:=h;refine⟨ς,G,_,E,hς,hG,h,λx v G1 H1 rx hG1 f1 h1=>?_,lx⟩;obtain⟨k,h2,h3⟩:=jeP rx hG1 h1;refine⟨k,h2,?_⟩;cases k with
 |true=>rw[if_pos rfl]at h3 ⊢;exact⟨ς,G1,Q,E,hς.ts (f1.ts hG),hG1,h3,lv.fr f1,lx.fr f1⟩
 |false=>rw[if_neg Yaj]at h3 ⊢;exact(lv.fr f1).here rx hG1 h3
def u_or  {rest:List Expr}(ha:PE X a (lE X ta))(hb:PE X (.BoolOp .Or (b::rest) pos) (lE X tb)):PE X (.BoolOp .Or (a::b::rest) pos) (lE X λς G Q E=>ta ς G (λx G1=>truU x G1 λc=>if c=true then Q x G1 else tb ς G1 Q E) E):=by
 refine(jnK ha hb).imp λσ H Q0 h=>?_;obtain⟨ς,G,Q,E,hς,hG,h,lv,lx⟩:=h;refine⟨ς,G,_,E,hς,hG,h,λx v G1 H1 rx hG1 f1 h1=>?_,lx⟩;obtain⟨k,h2,h3⟩:=jeP rx hG1 h1;refine⟨k,h2,?_⟩;cases k with
 |true=>rw[if_pos rfl]at h3 ⊢;exact(lv.fr f1).here rx hG1 h3
 |false=>rw[if_neg Yaj]at h3 ⊢;exact⟨ς,G1,Q,E,hς.ts (f1.ts hG),hG1,h3,lv.fr f1,lx.fr f1⟩
def jpc  (ha:PE X a (lE X ta)):PE X (.UnaryOp .Not a pos) (lE X λς G Q E=>ta ς G (λx G1=>truU x G1 λb=>Q (.bl (!b)) G1) E):=by
 intro pins s σ H Q0 I h;obtain⟨ς,G,Q,E,hς,hG,h,lv,lx⟩:=h;refine PyProof.Rows.UnaryOp_ (thn (ha pins s σ H (λv H1=>∃k,TruV X.K v H1 k/\Q0 (.bl (!k)) H1) I ⟨ς,G,_,E,hς,hG,h,λx v G1 H1 rx hG1 f1 h1=>?_,lx⟩) λv s1 ⟨x,H1,I1,r1,k,hk,q1⟩=>?_)
 ·obtain⟨k,h2,h3⟩:=jeP rx hG1 h1;exact⟨k,h2,(lv.fr f1).bl hG1 h3⟩
 ·refine PyProof.Rows.not_of (thn (jgR pins s1 σ H1 x v (λc H2=>c=k/\H2=H1) I1 r1 ⟨k,hk,rfl,rfl⟩) λc s2 ⟨H2,I2,e1,e2⟩=>?_);subst e1 e2;exact⟨.bl (!c),H2,I2,rfl,q1⟩
def jm3  {tB: UT}(hc:PT X c (lT X tA)){tC:UT}(ha:PT X a (lT X tB))(hb:PT X b (lT X tC)):PT X (.IfExp c a b pos) (lT X λς G Q E=>tA ς G (λt G1=>if t=true then tB ς G1 Q E else tC ς G1 Q E) E):=by
 intro pins s σ H Q0 I h;obtain⟨ς,G,Q,E,hς,hG,h,lv,lx⟩:=h;show wpAny _ _ (do if <- isTrue c X.env (eval c X.env) then isTrue a X.env (eval a X.env) else isTrue b X.env (eval b X.env)) _ _ s
 refine Yad (thn (hc pins s σ H (λt H1=>∃G1,HR X.K H1 G1/\Fr H G H1 G1/\if t=true then tB ς G1 Q E else tC ς G1 Q E) I ⟨ς,G,_,E,hς,hG,h,λt G1 H1 hG1 f1 h1=>⟨G1,hG1,f1,h1⟩,lx⟩) λt s1 ⟨H1,I1,G1,hG1,f1,h1⟩=>?_)
 cases t with
 |true=>exact ha pins s1 σ H1 Q0 I1 ⟨ς,G1,Q,E,hς.ts (f1.ts hG),hG1,h1,λb G2 H2 hG2 f2 h2=>lv b G2 H2 hG2 (f1.trans f2) h2,lx.fr f1⟩
 |false=>exact hb pins s1 σ H1 Q0 I1 ⟨ς,G1,Q,E,hς.ts (f1.ts hG),hG1,h1,λb G2 H2 hG2 f2 h2=>lv b G2 H2 hG2 (f1.trans f2) h2,lx.fr f1⟩
def jm2  (ha:PT X a (lT X tA)):PT X (.UnaryOp .Not a pos) (lT X λς G Q E=>tA ς G (λb G1=>Q (!b) G1) E):=by
 refine(jkK ha).imp λσ H Q0 h=>?_;obtain⟨ς,G,Q,E,hς,hG,h,lv,lx⟩:=h;exact⟨ς,G,_,E,hς,hG,h,λb G1 H1 hG1 f1 h1=>lv (!b) G1 H1 hG1 f1 h1,lx⟩
def jm8  {tB: UT}{rest:List Expr}(ha:PT X a (lT X tA))(hb:PW X (.BoolOp .And (b::rest) pos) (lT X tB)):PW X (.BoolOp .And (a::b::rest) pos) (lT X λς G Q E=>tA ς G (λc G1=>if c=true then tB ς G1 Q E else Q false G1) E):=by
 refine(pw_and ha hb).imp λσ H Q0 h=>?_;obtain⟨ς,G,Q,E,hς,hG,h,lv,lx⟩:=h;refine⟨ς,G,_,E,hς,hG,h,λc G1 H1 hG1 f1 h1=>?_,lx⟩;cases c with
 |false=>grind
 |true=>rw[if_pos rfl]at h1 ⊢;exact⟨ς,G1,Q,E,hς.ts (f1.ts hG),hG1,h1,λb G2 H2 hG2 f2 h2=>lv b G2 H2 hG2 (f1.trans f2) h2,lx.fr f1⟩
def jpb  {tB: UT}{rest:List Expr}(ha:PT X a (lT X tA))(hb:PW X (.BoolOp .Or (b::rest) pos) (lT X tB)):PW X (.BoolOp .Or (a::b::rest) pos) (lT X λς G Q E=>tA ς G (λc G1=>if c=true then Q true G1 else tB ς G1 Q E) E):=by
 refine(pw_or ha hb).imp λσ H Q0 h=>?_;obtain⟨ς,G,Q,E,hς,hG,h,lv,lx⟩:=h;refine⟨ς,G,_,E,hς,hG,h,λc G1 H1 hG1 f1 h1=>?_,lx⟩;cases c with
 |true=>grind
 |false=>rw[if_neg Yaj]at h1 ⊢;exact⟨ς,G1,Q,E,hς.ts (f1.ts hG),hG1,h1,λb G2 H2 hG2 f2 h2=>lv b G2 H2 hG2 (f1.trans f2) h2,lx.fr f1⟩
def jph  (hc:PT X c (lT X tA))(ha:PE X a (lE X ta))(hb:PE X b (lE X tb)):PE X (.IfExp c a b pos) (lE X λς G Q E=>tA ς G (λt G1=>if t=true then ta ς G1 Q E else tb ς G1 Q E) E):=by
 refine(jj3 hc ha hb).imp λσ H Q0 h=>?_;obtain⟨ς,G,Q,E,hς,hG,h,lv,lx⟩:=h;refine⟨ς,G,_,E,hς,hG,h,λc G1 H1 hG1 f1 h1=>?_,lx⟩;cases c with
 |true=>rw[if_pos rfl]at h1 ⊢;exact⟨ς,G1,Q,E,hς.ts (f1.ts hG),hG1,h1,lv.fr f1,lx.fr f1⟩
 |false=>rw[if_neg Yaj]at h1 ⊢;exact⟨ς,G1,Q,E,hς.ts (f1.ts hG),hG1,h1,lv.fr f1,lx.fr f1⟩
end Z

namespace L2
open PySem PySem.Spec PyProof.Rows

def jpp  (K:Yac)(te tst:TE):TE:=λσ H Q=>te σ H λx H1=>tst σ H1 λy H2=>(∃a xs,x=.ref a/\SqL K H2 a xs/\
 ((y=.int 1/\∀p,H2 p=none->Q (.ref p) (upd H2 p (.lst xs)))\/(y=.int (-1)/\∀p,H2 p=none->Q (.ref p) (upd H2 p (.lst xs.reverse)))))\/
 ∃a xs,x=.ref a/\SqT K H2 a xs/\y=.int (-1)/\∀p,H2 p=none->Q (.ref p) (upd H2 p (.tup xs.reverse))
def jlW  {st: Expr}(he:PE X e te)(hs:PE X st tst):PE X (.Subscript e (.Slice none none (some st) p2) pos) (jpp X.K te tst):=by
 intro pins s σ H Q I h;refine Subscript_ (thn (he pins s σ H _ I h) λv s1 ⟨x,H1,I1,r1,q1⟩=>?_);refine wpAny_Slice ?_;rw[Yfp,evalPart_some];refine Yal (Yal ?_);refine thn (hs pins s1 σ H1 _ I1 q1) λu s3 ⟨y,H3,I3,r3,q3⟩=>?_;have I4:Inv X pins σ H3 { s3 with heap:=s3.heap.push { cls:=.type "slice",data:=.fields #[.none,.none,u] } }:=I3.kept (t':=s3.toks) λb ob q=>Yae _ q
 rcases q3 with⟨a,xs,rfl,hx,q3⟩|⟨a,xs,rfl,hx,rfl,q⟩
 ·cases r1;obtain⟨its,r,ht,hz⟩:=I4.list hx;have hlen:=r.length;show wpAny (model X.prog X.w) X.A (YdZ e (.Slice none none (some st) p2) (.ref a) (.ref s3.heap.objs.size)) (EP X pins σ Q) X.xe { s3 with heap:=s3.heap.push { cls:=.type "slice",data:=.fields #[.none,.none,u] } }
  refine tail_any (ops:=[.ref a,.ref s3.heap.objs.size]) ht.isList.typeIs slot_list_getitem.lookup ?_ (by with_unfolding_all rfl)
  rcases q3 with⟨rfl,q⟩|⟨rfl,q⟩
  ·obtain⟨t,rfl⟩:=r3;refine Yc3 ht.isList (Heap.IsSliceOf.new ..) .none .none (.int 1 t) (by decide) ?_ (by simp_all)
   rw[jkz];refine⟨.ref _,_,I4.laid (t':=s3.toks) (o:=.lst xs) (λb ob q=>Yae _ q) (Yab _) ?_,rfl,q _ (I4.hok.fresh (Yab _))⟩;exact⟨hz,_,0,r,Yau _ rfl⟩
  ·obtain⟨t,rfl⟩:=r3;refine Yc3 ht.isList (Heap.IsSliceOf.new ..) .none .none (.int (-1) t) (by decide) ?_ (by simp_all)
   rw[jjR];refine⟨.ref _,_,I4.laid (t':=s3.toks) (o:=.lst xs.reverse) (λb ob q=>Yae _ q) (Yab _) ?_,rfl,q _ (I4.hok.fresh (Yab _))⟩;exact⟨by simp_all,_,0,r.rev,Yau _ rfl⟩
 ·cases r1;obtain⟨t,rfl⟩:=r3;obtain⟨its,r,ht,hz⟩:=I4.tuple hx;have hlen:=r.length;show wpAny (model X.prog X.w) X.A (YdZ e (.Slice none none (some st) p2) (.ref a) (.ref s3.heap.objs.size)) (EP X pins σ Q) X.xe { s3 with heap:=s3.heap.push { cls:=.type "slice",data:=.fields #[.none,.none,.int (-1) t] } }
  refine tail_any (ops:=[.ref a,.ref s3.heap.objs.size]) ht.typeIs YaT.lookup ?_ (by with_unfolding_all rfl)
  refine HT.getItem_tuple_rev ht (Heap.IsSliceOf.new ..) ?_ (by lia)
  refine⟨.ref _,_,I4.laid (t':=s3.toks) (o:=.tup xs.reverse) (λb ob q=>Yae _ q) (Yab _) ?_,rfl,q _ (I4.hok.fresh (Yab _))⟩;exact⟨by simp_all,_,r.rev,TupD.new _ _⟩
end L2
namespace Z
open PySem L2
section
variable {X:Cx}{pos:Pos}{a b e:Expr}{es:List Expr}{ta tb te:UE}{ts:UA}
def jf0  : PA X [] (lA X λ_ G Q _=>Q [] G):=by
 refine jdC.imp λσ H Q0 h=>?_;obtain⟨ς,G,Q,E,hς,hG,h,lv,lx⟩:=h;exact lv [] [] G H rfl hG (Fr.refl _ _) h
def jc0  (ha:PE X e (lE X te))(hr:PA X es (lA X ts))(hs:Yap (e::es) X.env=(false,eval e X.env)::Yap es X.env):PA X (e::es) (lA X λς G Q E=>te ς G (λx G1=>ts ς G1 (λxs G2=>Q (x::xs) G2) E) E):=by
 refine(jaH ha hr hs).imp λσ H Q0 h=>?_;obtain⟨ς,G,Q,E,hς,hG,h,lv,lx⟩:=h;refine⟨ς,G,_,E,hς,hG,h,λx v G1 H1 rx hG1 f1 h1=>?_,lx⟩;refine⟨ς,G1,_,E,hς.ts (f1.ts hG),hG1,h1,λxs vs G2 H2 rxs hG2 f2 h2=>?_,lx.fr f1⟩;exact lv (x::xs) (v::vs) G2 H2 ⟨v,vs,rfl,rx.ts (f2.ts hG1),rxs⟩ hG2 (f1.trans f2) h2
def jo7   (h:PA X es (lA X ts)):PE X (.Tuple es k pos) (lE X λς G Q E=>ts ς G (λus G1=>us.length<=Yag/\Q (.tup us) G1) E):=
 (jiy h).imp λσ H Q0 h=>lE.many h λus vs G H' Q r hG q lv=>⟨by rw[<- r.length];exact q.1,λp hp=>lv.tup hp r hG q.2⟩
def jpg  (h:PA X es (lA X ts)):PE X (.List es pos) (lE X λς G Q E=>ts ς G (λus G1=>us.length<=Yag/\newO G1 (.lst us) Q) E):=
 (jkN h).imp λσ H Q0 h=>lE.many h λus vs G H' Q r hG q lv=>⟨by rw[<- r.length];exact q.1,λp hp=>lv.lst hp r hG q.2⟩
def rDix  : R2:=λx y H Q=>∃a v,x=.ref a/\DGet H a y (some v)/\Q v H
def jmx  (hu:X.A.units+1<cLine):IxR X rDix:=by
 intro value slice pins s σ H x y v u Q I rx ry h hs;obtain⟨a,w,rfl,g,q⟩:=h;cases rx;exact PyProof.Rows.tail_any (jgD I g) PySem.F.slot_dict_getitem.lookup (jjo hu I g ry λw' s3 I3 rw'=>⟨w,H,I3,rw',q⟩) hs
def jkY {H:Hp}{G:Gp}{y:U}{v':V}{Q:K1}{Q0:VK}{a:Addr}{xs:List U}{vs:List V}(h:match y with|.int i=>(match atI xs i with|some u=>Q u G|none=>False)|_=>False)
  (ry:RU X.K H y v') (hG:HR X.K H G) (lv:LV X H G Q Q0) (sq:SqL X.K H a vs) (rs:RUs X.K H xs vs):rIx X.K (.ref a) v' H Q0:=by
 cases y with
 |int i=>
  cases ry;dsimp only at h;split at h
  ·rename_i u e;obtain⟨w,e2,r⟩:=rs.atI e;exact .inl ⟨_,vs,_,w,rfl,rfl,sq,e2,lv.here r hG h⟩
  lia
 |_=>lia
def joD        (rx:RU X.K H x v)(ry:RU X.K H y v')(hG:HR X.K H G)(h:ixU x y G Q)(lv:LV X H G Q Q0):rIx X.K v v' H Q0\/rDix v v' H Q0:=by
 cases x<;>try exact h.elim
 ·cases y<;>try exact h.elim
  cases rx;cases ry;obtain⟨h1,h⟩:=h;split at h
  ·rename_i c e1;exact .inl (.inr (.inr ⟨_,_,c,rfl,rfl,h1,e1,lv.str hG h⟩))
  lia
 ·cases y<;>try exact h.elim
  obtain⟨a,vs,rfl,e,rs⟩:=rx;cases ry;unfold ixU at h;dsimp only at h;split at h
  ·rename_i u e1;obtain⟨w,e2,r⟩:=rs.atI e1;exact .inl (.inr (.inl ⟨a,vs,_,w,rfl,rfl,.of e,e2,lv.here r hG h⟩))
  lia
 ·cases rx;unfold ixU at h;dsimp only at h;split at h
  ·rename_i g;obtain⟨vs,e,rs⟩:=hG.lst g;exact .inl (jkY h ry hG lv (.of e) rs)
  ·rename_i g;obtain⟨ob,vs,e,rs⟩:=hG _ _ g;exact .inl (jkY h ry hG lv (.inl (.inr ⟨ob,e⟩)) rs)
  ·rename_i kvs g;obtain⟨l,e,rs⟩:=hG _ _ g;split at h
   ·rename_i k ek;have:=jfy ry ek;subst this;split at h
    ·rename_i u eu;have:=jcK k rs;rw[eu]at this;obtain⟨w,e2,r⟩:=this;exact .inr ⟨_,w,rfl,by rw[<- e2];exact DGet.k e,lv.here r hG h⟩
    lia
   lia
  ·rename_i kvs g;obtain⟨l,e,rs⟩:=hG _ _ g;split at h
   ·rename_i ys;obtain⟨b,bs,rfl,eb,rb⟩:=ry;split at h
    ·rename_i k ek;have:=jhb rb ek;subst this;split at h
     ·rename_i u eu;have:=jcK k rs;rw[eu]at this;obtain⟨w,e2,r⟩:=this;exact .inr ⟨_,w,rfl,by rw[<- e2];exact DGet.t e eb,lv.here r hG h⟩
     lia
    lia
   lia
  ·rename_i o kvs g;obtain⟨l,e,rs⟩:=hG _ _ g;split at h
   ·rename_i k ek;have:=jfy ry ek;subst this;split at h
    ·rename_i u eu;have:=jcK k rs;rw[eu]at this;obtain⟨w,e2,r⟩:=this;exact .inr ⟨_,w,rfl,by rw[<- e2];exact .inl ⟨l,k,.inr ⟨o,e⟩,rfl,rfl⟩,lv.here r hG h⟩
    lia
   lia
  lia
def u_ix  (hu:X.A.units+1<cLine)(ha:PE X a (lE X ta))(hb:PE X b (lE X tb))(hs:jgL b):PE X (.Subscript a b pos) (lE X λς G Q E=>ta ς G (λx G1=>tb ς G1 (λy G2=>ixU x y G2 Q) E) E):=
 (jpP ((joC (X:=X)).or (jmx hu)) ha hb hs).imp λσ H Q0 h=>lE.two h λx y v v' G H' Q rx ry hG q lv=>joD rx ry hG q lv
def u_no  : PO X none (lO X λ_ G Q _=>Q none G):=jlR.imp λσ H Q0 h=>by
 obtain⟨ς,G,Q,E,hς,hG,h,lv,lx⟩:=h;exact lv none G H hG (Fr.refl _ _) h
def u_so (ha:PE X e (lE X te)):PO X (some e) (lO X λς G Q E=>te ς G (λx G1=>match x with|.int i=>Q (some i) G1|_=>False) E):=(jlQ ha).imp λσ H Q0 h=>by
 obtain⟨ς,G,Q,E,hς,hG,h,lv,lx⟩:=h;refine⟨ς,G,_,E,hς,hG,h,λx v G1 H1 rx hG1 f1 h1=>?_,lx⟩;dsimp only at h1;split at h1
 ·cases rx
  grind
 lia
def u_sl     (ha:PE X e (lE X te))(hl:PO X lo (lO X tl))(hh:PO X hi (lO X th)) :
  PE X (.Subscript e (.Slice lo hi none p2) pos) (lE X λς G Q E=>te ς G (λx G1=>tl ς G1 (λl G2=>th ς G2 (λh G3=>slU x l h G3 Q) E) E) E):=by
 refine(jj2 (SlR.or (jlz (X:=X)) (SlR.or jlA jnm)) ha hl hh).imp λσ H Q0 h=>?_;obtain⟨ς,G,Q,E,hς,hG,h,lv,lx⟩:=h;refine⟨ς,G,_,E,hς,hG,h,λx v G1 H1 rx hG1 f1 h1=>?_,lx⟩;refine⟨ς,G1,_,E,hς.ts (f1.ts hG),hG1,h1,λl G2 H2 hG2 f2 h2=>?_,lx.fr f1⟩;refine⟨ς,G2,_,E,(hς.ts (f1.ts hG)).ts (f2.ts hG1),hG2,h2,λu G3 H3 hG3 f3 h3=>?_,lx.fr (f1.trans f2)⟩;have lv3:=lv.fr ((f1.trans f2).trans f3);have rx3:=rx.ts ((f2.ts hG1).trans (f3.ts hG2));cases x<;>try exact h3.elim
 ·cases rx3;exact .inr (.inr ⟨_,rfl,h3.1,lv3.str hG3 h3.2⟩)
 ·obtain⟨a,vs,rfl,ea,rs⟩:=rx3;by_cases z:HT.sIx vs.length 0 l=0/\HT.sIx vs.length vs.length u=vs.length
  ·refine .inl (.inr ⟨a,vs,rfl,.of ea,z,?_⟩);refine lv3.here (w:=.tup _) ⟨a,vs,rfl,ea,?_⟩ hG3 h3;have e2:cutV vs l u=vs:=by unfold cutV;simp_all
   have:=rs.cut l u
   lia
  ·exact .inl (.inl ⟨a,vs,rfl,.of ea,z,λp hp=>lv3.tup hp (rs.cut l u) hG3 h3⟩)
 ·cases rx3;unfold slU at h3;dsimp only at h3;split at h3
  ·rename_i us eu;obtain⟨vs,sq,rs⟩:=hG3.ls eu;exact .inr (.inl ⟨_,vs,rfl,sq,λp hp=>lv3.lst hp (rs.cut l u) hG3 h3⟩)
  lia
def jm1    (ha:PE X a (lE X ta))(hb:PE X st (lE X tb)):PE X (.Subscript a (.Slice none none (some st) p2) pos) (lE X λς G Q E=>ta ς G (λx G1=>tb ς G1 (λy G2=>revU x y G2 Q) E) E):=by
 refine(jlW ha hb).imp λσ H Q0 h=>lE.two h λx y v v' G H' Q rx ry hG q lv=>?_;cases x<;>try exact q.elim
 all_goals cases y<;>try exact q.elim
 ·obtain⟨a,vs,rfl,ea,rs⟩:=rx;cases ry;obtain⟨rfl,q⟩:=q;exact .inr ⟨a,vs,rfl,.of ea,rfl,λp hp=>lv.tup hp rs.reverse hG q⟩
 ·cases rx;cases ry;unfold revU at q;dsimp only at q;split at q
  ·rename_i us eu;obtain⟨vs,sq,rs⟩:=hG.ls eu;obtain⟨hi,q⟩:=q;rcases hi with rfl|rfl
   ·exact .inl ⟨_,vs,rfl,sq,.inl ⟨rfl,λp hp=>lv.lst hp rs hG q⟩⟩
   ·exact .inl ⟨_,vs,rfl,sq,.inr ⟨rfl,λp hp=>lv.lst hp rs.reverse hG q⟩⟩
  lia
end
end Z

namespace L2
open PySem PySem.Spec PyProof.Rows
section
variable {X:Cx}
def jkv  (hc:X.calm=true):jaN X (.builtin "all") (λxs H Q=>∃(p:Addr) (bs:List Bool),xs=[.ref p]/\SqL X.K H p (bs.map V.bl)/\Q (.bl (bs.all id)) H):=by
 rintro pins s σ H xs us Q I r ⟨p,bs,rfl,hq,q⟩;obtain⟨u,rfl,rx⟩:=jcJ r;cases rx;obtain⟨its,fp,wr,P,S,hl,W,st,tr,kp⟩:=jh2 hc I hq true;exact call_all_walk (Yei hl ⟨_,fp,wr,_,P,S,_,rfl,W,st,tr,λh' tk hk=>⟨.bl _,H,I.kept (kp h' hk),congrArg Yeq (LSm.range_all bs),q⟩⟩)
end
end L2
namespace Z
open PySem L2
noncomputable def bltN  : Blt->Str
 |.len => "len" |.repr => "repr" |.min => "min" |.max => "max" |.sum => "sum" |.all => "all" |.any => "any" |.sorted => "sorted" |.int => "int" |.str => "str" |.isi => "isinstance"
noncomputable def bltV  : Blt->Value
 |.len=>.builtin "len" |.repr=>.builtin "repr" |.min=>.builtin "min" |.max=>.builtin "max" |.sum=>.builtin "sum" |.all=>.builtin "all" |.any=>.builtin "any" |.sorted=>.builtin "sorted" |.int=>.type "int" |.str=>.type "str" |.isi=>.builtin "isinstance"

def RUs.one      (r:RUs K H [u] vs):∃v,vs=[v]/\RU K H u v:=by
 obtain⟨v,vr,rfl,r1,rs⟩:=r;cases rs
 lia
def RUs.two      (r:RUs K H [u,w] vs):∃v v',vs=[v,v']/\RU K H u v/\RU K H w v':=by
 obtain⟨v,vr,rfl,r1,rs⟩:=r;obtain⟨v',rfl,r2⟩:=rs.one
 lia
def jmt   K:∀t∈["NoneType", "bool", "int", "str", "list", "tuple", "dict"],∀c∈["bool", "int", "str", "list", "tuple", "dict"],Yc6 K (.type t) (.type c)=some (t==c||(t == "bool" && c == "int")):=by
 simp only[List.forall_mem_cons,YaE,false_implies,implies_true,and_true];refine⟨?_,?_,?_,?_,?_,?_,?_⟩<;>refine⟨?_,?_,?_,?_,?_,?_⟩<;>rfl
def jlr     (h:tyN x G=some n):n∈["NoneType", "bool", "int", "str", "list", "tuple", "dict"]:=by
 unfold tyN at h;split at h<;>first|(cases h;decide)|(split at h<;>first|(cases h;decide)|cases h)|cases h
def jmy  {X: Cx}(r:RU X.K H x v)(hG:HR X.K H G)(h:isiU x G t=some b):∃tv,TyOf X.K H v tv/\Yc6 X.K tv (.type t)=some b:=by
 unfold isiU at h;split at h
 ·rename_i n en;split at h
  ·rename_i ht;cases h;refine⟨.type n,?_,jmt X.K n (jlr en) t ht⟩;unfold tyN at en;split at en
   ·cases en;cases r;exact .non
   ·cases en;cases r;exact .bl _
   ·cases en;cases r;exact .int _
   ·cases en;cases r;exact .str _
   ·cases en;obtain⟨a,ws,rfl,e,_⟩:=r;exact .tup e
   ·cases r;split at en
    ·rename_i g;cases en;obtain⟨ws,e,_⟩:=hG.lst g;exact .lst e
    ·rename_i g;cases en;obtain⟨ws,e,_⟩:=hG _ _ g;exact .dK e
    ·rename_i g;cases en;obtain⟨ws,e,_⟩:=hG _ _ g;exact .dT e
    lia
   lia
  lia
 lia
def BlU  (X:Cx)(b:Blt):Prop:=∃r,jaN X (bltV b) r/\∀us vs G H Q Q0,RUs X.K H us vs->HR X.K H G->bltU b us G Q->LV X H G Q Q0->r vs H Q0
def jo0   (hr:Room k X.A)(hc:X.calm=true) b:BlU X b:=by
 cases b with
 |len=>
  refine⟨_,jaN.or (jku (X:=X)) jjy,λus vs G H Q Q0 r hG h lv=>?_⟩
  change lenU us G Q at h
  obtain _|⟨x,t⟩:=us<;>try exact h.elim
  cases x<;>try exact h.elim
  all_goals obtain _|⟨_,_⟩:=t<;>try exact h.elim
  all_goals obtain⟨v,rfl,r1⟩:=r.one
  ·cases r1;exact .inl ⟨_,_,rfl,⟨h.1,rfl⟩,lv.int hG h.2⟩
  ·obtain⟨a,ws,rfl,e,rs⟩:=r1;exact .inl ⟨_,_,rfl,.inr ⟨ws,.of e,rfl⟩,by rw[<- rs.length];exact lv.int hG h⟩
  ·cases r1;unfold lenU at h;dsimp only at h;split at h
   ·rename_i g;obtain⟨ws,e,rs⟩:=hG.lst g;exact .inl ⟨_,_,rfl,.inl ⟨ws,.of e,rfl⟩,by rw[<- rs.length];exact lv.int hG h⟩
   ·rename_i g;obtain⟨ob,ws,e,rs⟩:=hG _ _ g;exact .inl ⟨_,_,rfl,.inl ⟨ws,.inl (.inr ⟨ob,e⟩),rfl⟩,by rw[<- rs.length];exact lv.int hG h⟩
   ·rename_i kvs g;obtain⟨l,e,rs⟩:=hG _ _ g;refine .inr ⟨_,l,rfl,e,?_⟩;have:∀{kvs:List (Key×U)} {l:List (Key×V)},RKs X.K H kvs l->kvs.length=l.length:=by
     intro kvs
     induction kvs with
     |nil=>intro l r;cases r;rfl
     |cons p q ih=>intro l r;obtain⟨v,l',rfl,_,rs⟩:=r;simp[ih rs]
    rw[<- this rs];exact lv.int hG h
   ·exact h.elim
 |repr=>
  refine⟨_,jh1 hr,λus vs G H Q Q0 r hG h lv=>?_⟩
  change jip us G Q at h
  obtain _|⟨x,_|⟨_,_⟩⟩:=us<;>try exact h.elim
  obtain⟨v,rfl,r1⟩:=r.one;obtain⟨d,h1,h2,h3⟩:=h;exact⟨v,d,rfl,h1.dv hG r1,h2,lv.str hG h3⟩
 |min=>
  refine⟨_,jjv hc,λus vs G H Q Q0 r hG h lv=>?_⟩
  change minU us G Q at h
  obtain _|⟨x,t⟩:=us<;>try exact h.elim
  cases x<;>try exact h.elim
  obtain _|⟨y,t⟩:=t<;>try exact h.elim
  cases y<;>try exact h.elim
  obtain _|⟨_,_⟩:=t<;>try exact h.elim
  obtain⟨v,v',rfl,r1,r2⟩:=r.two;cases r1;cases r2;exact⟨_,_,rfl,lv.int hG h⟩
 |max=>
  refine⟨_,(jjw hc).or (jjx hc),λus vs G H Q Q0 r hG h lv=>?_⟩
  change maxU us G Q at h
  unfold maxU at h;split at h<;>first|exact h.elim|skip
  ·obtain⟨v,v',rfl,r1,r2⟩:=r.two;cases r1;cases r2;exact .inl ⟨_,_,rfl,lv.int hG h⟩
  ·obtain⟨v,rfl,r1⟩:=r.one;cases r1;split at h
   ·rename_i g;obtain⟨ws,e,rs⟩:=hG.lst g;unfold jkj at h;split at h
    ·rename_i ns en;have:=rs.ints en;subst this;exact .inr ⟨_,ns,rfl,.inl (.of e),h.1,λz hz hy=>lv.int hG (h.2 z hz hy)⟩
    ·exact h.elim
   ·exact h.elim
  ·obtain⟨v,rfl,r1⟩:=r.one;obtain⟨a,ws,rfl,e,rs⟩:=r1;unfold jkj at h;split at h
   ·rename_i ns en;have:=rs.ints en;subst this;exact .inr ⟨_,ns,rfl,.inr (.of e),h.1,λz hz hy=>lv.int hG (h.2 z hz hy)⟩
   ·exact h.elim
 |sum=>
  refine⟨_,jkt hc,λus vs G H Q Q0 r hG h lv=>?_⟩
  change sumU us G Q at h
  obtain _|⟨x,t⟩:=us<;>try exact h.elim
  cases x<;>try exact h.elim
  all_goals obtain _|⟨_,_⟩:=t<;>try exact h.elim
  obtain⟨v,rfl,r1⟩:=r.one;cases r1;unfold sumU at h;dsimp only at h;split at h
  ·rename_i g;obtain⟨ws,e,rs⟩:=hG.lst g;split at h
   ·rename_i ns en;have:=rs.ints en;subst this;exact⟨_,ns,rfl,.of e,lv.int hG h⟩
   ·exact h.elim
  ·exact h.elim
 |any=>exact⟨λ_ _ _=>False,λ_ _ _ _ _ _ _ _ _ h=>h.elim,λ_ _ _ _ _ _ _ _ h _=>h.elim⟩
 |all=>
  refine⟨_,jkv hc,λus vs G H Q Q0 r hG h lv=>?_⟩
  change allU us G Q at h
  obtain _|⟨x,t⟩:=us<;>try exact h.elim
  cases x<;>try exact h.elim
  all_goals obtain _|⟨_,_⟩:=t<;>try exact h.elim
  obtain⟨v,rfl,r1⟩:=r.one;cases r1;unfold allU at h;dsimp only at h;split at h
  ·rename_i g;obtain⟨ws,e,rs⟩:=hG.lst g;split at h
   ·rename_i ns en;have:=rs.bools en;subst this;exact⟨_,ns,rfl,.of e,lv.bl hG h⟩
   ·exact h.elim
  ·exact h.elim
 |sorted=>exact⟨λ_ _ _=>False,λ_ _ _ _ _ _ _ _ _ h=>h.elim,λ_ _ _ _ _ _ _ _ h _=>h.elim⟩
 |int=>
  refine⟨_,jjC.or jfa,λus vs G H Q Q0 r hG h lv=>?_⟩
  change intU us G Q at h
  obtain _|⟨x,t⟩:=us<;>try exact h.elim
  cases x<;>try exact h.elim
  all_goals obtain _|⟨_,_⟩:=t<;>try exact h.elim
  all_goals obtain⟨v,rfl,r1⟩:=r.one
  all_goals cases r1
  ·exact .inl (.inr ⟨_,rfl,lv.int hG h⟩)
  ·exact .inl (.inl ⟨_,rfl,lv.int hG h⟩)
  ·obtain⟨n,h1,h2,h⟩:=h;exact .inr ⟨_,n,rfl,h1,h2,lv.int hG h⟩
 |str=>
  refine⟨_,jfO.or (jju (X:=X)),λus vs G H Q Q0 r hG h lv=>?_⟩
  change strU us G Q at h
  obtain _|⟨x,t⟩:=us<;>try exact h.elim
  cases x<;>try exact h.elim
  all_goals obtain _|⟨_,_⟩:=t<;>try exact h.elim
  all_goals obtain⟨v,rfl,r1⟩:=r.one
  all_goals cases r1
  ·exact .inr ⟨_,rfl,lv.str hG h⟩
  ·exact .inl ⟨_,rfl,h.1,lv.str hG h.2⟩
 |isi=>
  refine⟨_,jgF,λus vs G H Q Q0 r hG h lv=>?_⟩
  change jhT us G Q at h
  obtain _|⟨x,_|⟨y,t⟩⟩:=us<;>try exact h.elim
  cases y<;>try exact h.elim
  obtain _|⟨_,_⟩:=t<;>try exact h.elim
  rename_i t;obtain⟨v,v',rfl,r1,r2⟩:=r.two;cases r2;unfold jhT at h;dsimp only at h;split at h
  ·rename_i b eb;obtain⟨tv,h1,h2⟩:=jmy r1 hG eb;exact⟨v,t,tv,b,rfl,h1,h2,lv.bl hG h⟩
  ·exact h.elim
def jkx   b:YbR (bltN b)=some (bltV b):=by
 cases b with
 |len=>exact PySem.boot_len
 |repr=>exact(by with_unfolding_all rfl)
 |min=>exact PyProof.Rows.boot_min
 |max=>exact PyProof.Rows.boot_max
 |sum=>exact PyProof.Rows.boot_sum
 |any=>exact PyProof.Rows.boot_any
 |all=>exact PyProof.Rows.boot_all
 |sorted=>exact PyProof.Rows.boot_sorted
 |int=>exact PyProof.Rows.boot_int
 |str=>exact PyProof.Rows.boot_str
 |isi=>exact Ydi
def jo1   b:bltN b ≠ "__name__" /\ (bltN b==("__debug__" : Str))=false:=by cases b<;>decide
def jpk       (hb:BlU X b)(hg:Gl X (bltN b))(hm:X.mg (bltN b)=none)(ha:PA X (e::es) (lA X ts))
  (he:Yap (e::es) X.env=(false,eval e X.env)::Yap es X.env) (hpl:(backTo pos (Yap es X.env)).any (·.1)=false) :
  PE X (.Call (.Name (bltN b) p) (e::es) [] pos) (lE X λς G Q E=>ts ς G (λus G1=>bltU b us G1 Q) E):=by
 obtain⟨r,h1,h2⟩:=hb;have fin:∀σ H Q0,lE X (λς G Q E=>ts ς G (λus G1=>bltU b us G1 Q) E) σ H Q0->tCB r (lA X ts) σ H Q0:=λσ H Q0 h=>lE.many h λus vs G H' Q rs hG q lv=>h2 us vs G H' Q Q0 rs hG q lv;have hv:=jkx b;obtain⟨n1,n2⟩:=jo1 b;cases b
 all_goals first
  |exact(jdp h1 hg hm hv ha n1 n2 he hpl).imp fin
  |exact(jdB h1 hg hm hv ha n1 n2 he hpl).imp fin
noncomputable def mthN  : Mth->Str
 |.append => "append" |.extend => "extend" |.insert => "insert" |.pop => "pop" |.reverse => "reverse" |.index => "index" |.join => "join" |.get => "get" |.split => "split" |.setd => "setdefault" |.clear => "clear" |.count => "count" |.upper => "upper"
section
variable {X:Cx}
def RUs.mk        (r:RU K H u v)(rs:RUs K H us vs):RUs K H (u::us) (v::vs):=⟨v,vs,rfl,r,rs⟩
structure MtK (X:Cx)(m:Mth)(T id:String):Prop where
 pa:PlainAttrs T
 sl:Slot T (mthN m) id
 ty:typeOf (.builtin id)=pure (.type "method_descriptor")
def MtU  (X:Cx)(m:Mth):Prop:=∀x G1 T id,mtU m x G1=some (T,id)->MtK X m T id/\(∀v H1,RU X.K H1 x v->HR X.K H1 G1->tyV X.K T v H1)/\
 ∃r,MtR X id r/\∀us v vs G H Q Q0,RU X.K H x v->RUs X.K H us vs->HR X.K H G->jaI m x us G Q->LV X H G Q Q0->r v vs H Q0
def jgQ     (g:G a=some (.lst us)):∀v H1,RU X.K H1 (.loc a) v->HR X.K H1 G->tyV X.K "list" v H1:=λv H1 r hG=>by
 cases r;obtain⟨vs,e,_⟩:=hG.lst g;exact .inl ⟨rfl,vs,.of e⟩
def jiR  : MtU X .append:=by
 intro x G1 T id h;dsimp only[mtU]at h;cases x<;>try (cases h;done)
 dsimp only at h;split at h
 ·rename_i g;cases h;refine⟨⟨Ycf,PySem.F.slot_list_append,PySem.F.type_list_append⟩,jgQ g,_,jfu,λus v vs G H Q Q0 rx rs hG h lv=>?_⟩;cases rx;dsimp only[jaI]at h;obtain _|⟨_,_|⟨_,_⟩⟩:=us<;>try exact h.elim
  unfold jgK at h;dsimp only at h;split at h
  ·rename_i g2;obtain⟨ws,e,r⟩:=hG.lst g2;obtain⟨y,rfl,ry⟩:=rs.one;refine⟨_,ws,y,rfl,rfl,e,by rw[<- r.length];exact h.1,?_⟩
   exact lv.wl g2 (r.append (RUs.mk (us:=[]) (vs:=[]) ry rfl)) hG (w:=.non) rfl h.2
  ·exact h.elim
 ·cases h
def jiQ  : MtU X .extend:=by
 intro x G1 T id h;dsimp only[mtU]at h;cases x<;>try (cases h;done)
 dsimp only at h;split at h
 ·rename_i g;cases h;refine⟨⟨Ycf,PySem.F.slot_list_extend,PySem.F.type_list_extend⟩,jgQ g,_,jiU,λus v vs G H Q Q0 rx rs hG h lv=>?_⟩;cases rx;dsimp only[jaI]at h;obtain _|⟨y0,t⟩:=us<;>try exact h.elim
  cases y0<;>try exact h.elim
  obtain _|⟨_,_⟩:=t<;>try exact h.elim
  unfold jgz at h;dsimp only at h;split at h
  ·rename_i g2 g3;obtain⟨ws,e,r⟩:=hG.lst g2;obtain⟨zs,e',r'⟩:=hG.lst g3;obtain⟨y,rfl,ry⟩:=rs.one;cases ry;refine⟨_,_,ws,zs,rfl,rfl,e,e',by rw[<- r.length,<- r'.length];exact h.1,?_⟩
   exact lv.wl g2 (r.append r') hG (w:=.non) rfl h.2
  ·exact h.elim
 ·cases h
def jiP  : MtU X .insert:=by
 intro x G1 T id h;dsimp only[mtU]at h;split at h<;>first|contradiction|skip
 split at h
 ·rename_i g;cases h;refine⟨⟨Ycf,PySem.F.slot_list_insert,PySem.F.type_list_insert⟩,jgQ g,_,jiT,λus v vs G H Q Q0 rx rs hG h lv=>?_⟩;cases rx;dsimp only[jaI]at h;unfold jgs at h;split at h<;>first|exact h.elim|skip
  rename_i e2;cases e2;split at h
  ·rename_i g2;obtain⟨ws,e,r⟩:=hG.lst g2;obtain⟨y,z,rfl,ry,rz⟩:=rs.two;cases ry;obtain⟨h1,h2,h3,h4⟩:=h;refine⟨_,ws,_,z,rfl,rfl,e,h1,by rw[<- r.length];exact h2,by rw[<- r.length];exact h3,?_⟩
   exact lv.wl g2 ((r.take _).append (RUs.mk rz (r.drop _))) hG (w:=.non) rfl h4
  ·exact h.elim
 ·cases h
def jof  : MtU X .pop:=by
 intro x G1 T id h;dsimp only[mtU]at h;cases x<;>try (cases h;done)
 dsimp only at h;split at h
 ·rename_i g;cases h;refine⟨⟨Ycf,PySem.F.slot_list_pop,PySem.F.type_list_pop⟩,jgQ g,_,MtR.or (mt_pop (X:=X)) jkh,λus v vs G H Q Q0 rx rs hG h lv=>?_⟩;cases rx;dsimp only[jaI]at h;obtain _|⟨y0,t⟩:=us
  ·unfold popU at h;dsimp only at h;split at h
   ·rename_i g2;obtain⟨ws,e,r⟩:=hG.lst g2;cases rs;split at h
    ·rename_i u eu;obtain⟨y,ey,ry⟩:=r.get eu;rw[r.length]at ey;exact .inl ⟨_,ws,y,rfl,rfl,e,ey,lv.wl g2 r.dropLast hG ry h⟩
    ·exact h.elim
   ·exact h.elim
  ·cases y0<;>try exact h.elim
   obtain _|⟨_,_⟩:=t<;>try exact h.elim
   unfold popU at h;dsimp only at h;split at h
   ·rename_i g2;obtain⟨ws,e,r⟩:=hG.lst g2;obtain⟨y,rfl,ry⟩:=rs.one;cases ry;obtain⟨h1,h2,h⟩:=h;split at h
    ·rename_i k ek;split at h
     ·rename_i u eu;obtain⟨y,ey,ry⟩:=r.get eu;exact .inr ⟨_,ws,_,k,y,rfl,rfl,e,h1,h2,by rw[<- r.length];exact ek,ey,lv.wl g2 (r.erase k) hG ry h⟩
     ·exact h.elim
    ·exact h.elim
   ·exact h.elim
 ·cases h
def RKs.put   [DecidableEq κ](r:RU K H u v):∀{kvs } {l:List (κ×V)},RKs K H kvs l->RKs K H (dPut kvs k u) (putK l k v):=by
 intro kvs l h;have any:∀{kvs:List (κ×U)} {l:List (κ×V)},RKs K H kvs l->(kvs.any λkv=>decide (kv.1=k))=l.any λkv=>decide (kv.1=k):=by
  intro kvs
  induction kvs with
  |nil=>intro l h;cases h;rfl
  |cons p q ih=>intro l h;obtain⟨w,l',rfl,_,rs⟩:=h;grind
 have repl:∀{kvs:List (κ×U)} {l:List (κ×V)},RKs K H kvs l->RKs K H (kvs.map λkv=>if kv.1=k then (kv.1,u) else kv) (l.map λkv=>if kv.1=k then (kv.1,v) else kv):=by
  intro kvs
  induction kvs with
  |nil=>intro l h;cases h;rfl
  |cons p q ih=>
   intro l h;obtain⟨k',u'⟩:=p;obtain⟨w,l',rfl,rw',rs⟩:=h;simp only[YaK];by_cases e:k'=k
   ·rw[if_pos e,if_pos e];exact⟨v,_,rfl,r,ih rs⟩
   ·rw[if_neg e,if_neg e];exact⟨w,_,rfl,rw',ih rs⟩
 have snoc:∀{kvs:List (κ×U)} {l:List (κ×V)},RKs K H kvs l->RKs K H (kvs++[(k,u)]) (l++[(k,v)]):=by
  intro kvs
  induction kvs with
  |nil=>intro l h;cases h;exact⟨v,[],rfl,r,rfl⟩
  |cons p q ih=>intro l h;obtain⟨k',u'⟩:=p;obtain⟨w,l',rfl,rw',rs⟩:=h;exact⟨w,_,rfl,rw',ih rs⟩
 unfold dPut putK
 grind
theorem RKs.length     : ∀{kvs:List (κ×U)} {l },RKs K H kvs l->kvs.length=l.length
 |[],_,h=>by cases h;rfl
 |(_,_)::_,_,h=>by obtain⟨v,l',rfl,_,rs⟩:=h;simp[rs.length]
theorem jgn    : ∀{k:List Key} {bs },RUs K H (k.map Ku) bs->bs=k.map kV
 |[],_,h=>h
 |.inl z::k,_,h=>by
  obtain⟨v,vr,rfl,r,rs⟩:=h;rw[show v=.int z from r,jgn rs];rfl
 |.inr x::k,_,h=>by
  obtain⟨v,vr,rfl,r,rs⟩:=h;rw[show v=.str x from r,jgn rs];rfl
def rGet  : V->List V->Hp->VK->Prop:=λx vs H Q=>∃a y d o,x=.ref a/\vs=[y,d]/\DGet H a y o/\Q (o.getD d) H
def jkS  (hu:X.A.units+1<cLine):MtR X "dict.get" rGet:=by
 intro pins s σ H x vs v0 us Q I rx rv h;obtain⟨a,y,d,o,rfl,rfl,g,q⟩:=h;cases(show v0=YaP a from rx);obtain⟨u,r,rfl,ru,rr⟩:=Vals.two rv;exact joV hu I g ru rr λw' s' I' r'=>⟨_,_,I',r',q⟩
def jio   [DecidableEq κ](k:κ)(rk:RKs K H kvs l)(rd:RU K H d w):RU K H ((dGet kvs k).getD d) ((valV l k).getD w):=by
 have hv:=jcK k rk;cases e:dGet kvs k with
 |none=>rw[e]at hv;rw[show valV l k=none from hv];exact rd
 |some u=>rw[e]at hv;obtain⟨v,h1,h2⟩:=hv;rw[h1];exact h2
def jog  (hu:X.A.units+1<cLine):MtU X .get:=by
 intro x G1 T id h;dsimp only[mtU]at h;split at h<;>first|contradiction|skip
 have fin:∀(us:List U) (v:V) (vs:List V) (G:Gp) (H:Hp) (Q:K1) (Q0:VK) (a:Addr),RU X.K H (.loc a) v->RUs X.K H us vs->HR X.K H G->getU (.loc a) us G Q->LV X H G Q Q0->rGet v vs H Q0:=λus v vs G H Q Q0 a rx rs hG h lv=>by
  cases rx;obtain _|⟨y,_|⟨w,_|⟨_,_⟩⟩⟩:=us<;>try exact h.elim
  unfold getU at h;dsimp only at h;obtain⟨y',vs1,rfl,ry,rs1⟩:=rs;obtain⟨w',rfl,rw'⟩:=rs1.one;split at h<;>first|exact h.elim|skip
  ·rename_i kvs g2;split at h<;>first|exact h.elim|skip
   rename_i k ek;obtain⟨l,e,rk⟩:=hG _ _ g2;have:=jfy ry ek;subst this;exact⟨_,_,_,_,rfl,rfl,.k e,lv.here (jio k rk rw') hG h⟩
  ·rename_i kvs g2;obtain⟨k,rfl,h⟩:=h;obtain⟨l,e,rk⟩:=hG _ _ g2;obtain⟨b,bs,rfl,eb,rb⟩:=ry;rw[jgn rb]at eb;exact⟨_,_,_,_,rfl,rfl,.t e eb,lv.here (jio k rk rw') hG h⟩
 split at h<;>first|contradiction|skip
 ·rename_i g;cases h;refine⟨⟨Yel,Yco,YeC⟩,λv H1 r hG=>?_,_,jkS hu,λus v vs G H Q Q0 rx rs hG h lv=>fin us v vs G H Q Q0 _ rx rs hG h lv⟩;cases r;obtain⟨l,e,_⟩:=hG _ _ g;exact .inr (.inr (.inl ⟨rfl,.inl ⟨l,e⟩⟩))
 ·rename_i g;cases h;refine⟨⟨Yel,Yco,YeC⟩,λv H1 r hG=>?_,_,jkS hu,λus v vs G H Q Q0 rx rs hG h lv=>fin us v vs G H Q Q0 _ rx rs hG h lv⟩;cases r;obtain⟨l,e,_⟩:=hG _ _ g;exact .inr (.inr (.inl ⟨rfl,.inr ⟨l,e⟩⟩))
def jiS  (hu:X.A.units+1<cLine) m:MtU X m:=by
 cases m with
 |append=>exact jiR
 |extend=>exact jiQ
 |insert=>exact jiP
 |pop=>exact jof
 |reverse=>intro x G1 T id h;cases h
 |index=>intro x G1 T id h;cases h
 |join=>intro x G1 T id h;cases h
 |split=>intro x G1 T id h;cases h
 |setd=>intro x G1 T id h;cases h
 |clear=>intro x G1 T id h;cases h
 |count=>intro x G1 T id h;cases h
 |upper=>intro x G1 T id h;cases h
 |get=>exact jog hu
variable {m:Mth}{o e:Expr}{es:List Expr}{to:UE}{ts:UA}{apos cpos:Pos}
def jkE (hm:MtU X m)(ho:PE X o (lE X to))(ha:PA X (e::es) (lA X ts))(hbase:YcG o (mthN m) X.env (eval o X.env)=eval o X.env)
  (hfew:((backTo cpos (Yap (e::es) X.env)).all (λx=>!x.1)&&(backToKw cpos (keywordEach [] X.env)).all (λx=>x.1.isSome)
   && decide ((e::es).length+([]:List Keyword).length+(if ([]:List Keyword).isEmpty then 0 else 1)<30))=true)
  (hline:(apos.endLine==cpos.line)=true) (hs:Yap (e::es) X.env=(false,eval e X.env)::Yap es X.env) (hplain:(backTo cpos (Yap es X.env)).any (·.1)=false) :
  PE X (.Call (.Attribute o (mthN m) apos) (e::es) [] cpos) (lE X λς G Q E=>to ς G (λx G1=>match mtU m x G1 with|some _=>ts ς G1 (λus G2=>jaI m x us G2 Q) E|none=>False) E):=by
 intro pins s σ H Q0 I h;obtain⟨ς,G,Q,E,hς,hG,h,lv,lx⟩:=h;refine PySem.wpAny_Call_method_late hbase hfew hline rfl (thn (ho pins s σ H (λv H1=>∃x G1 T id,RU X.K H1 x v/\HR X.K H1 G1/\Fr H G H1 G1/\mtU m x G1=some (T,id)/\ts ς G1 (λus G2=>jaI m x us G2 Q) E) I
  ⟨ς,G,_,E,hς,hG,h,λx v G1 H1 rx hG1 f1 h1=>?_,lx⟩) λv s1 ⟨xv,H1,I1,r1,x,G1,T,id,rx,hG1,f1,em,h1⟩=>?_)
 ·dsimp only at h1;split at h1
  ·rename_i p ep;exact⟨x,G1,p.1,p.2,rx,hG1,f1,ep,h1⟩
  ·exact h1.elim
 ·obtain⟨k,hty,r,hr1,hr2⟩:=hm x G1 T id em;obtain⟨t1,t2⟩:=jkF I1 r1 (hty xv H1 rx hG1);refine⟨T,id,k.pa,k.sl,k.ty,t1,t2,?_⟩;have hA:=ha cpos pins s1 σ H1 (λvs H2=>∃us G2,RUs X.K H2 us vs/\HR X.K H2 G2/\Fr H1 G1 H2 G2/\jaI m x us G2 Q) I1 ⟨ς,G1,_,E,hς.ts (f1.ts hG),hG1,h1,λus vs G2 H2 rs hG2 f2 h2=>⟨us,G2,rs,hG2,f2,h2⟩,lx.fr f1⟩;rw[hs]at hA ⊢;refine YeM (by simp_all) (Calls.evalArgs_plain ?_)
  exact thn hA λus s2 ⟨vs,H2,I2,r2,ws,G2,rs,hG2,f2,h2⟩=>hr1 pins s2 σ H2 xv vs v us Q0 I2 r1 r2 (hr2 ws xv vs G2 H2 Q Q0 (rx.ts (f2.ts hG1)) rs hG2 h2 (lv.fr (f1.trans f2)))
def jlo (hm:MtU X m)(ho:PE X o (lE X to))(hbase:YcG o (mthN m) X.env (eval o X.env)=eval o X.env)(hline:(apos.endLine==cpos.line)=true) :
  PE X (.Call (.Attribute o (mthN m) apos) [] [] cpos) (lE X λς G Q E=>to ς G (λx G1=>match mtU m x G1 with|some _=>jaI m x [] G1 Q|none=>False) E):=by
 intro pins s σ H Q0 I h;obtain⟨ς,G,Q,E,hς,hG,h,lv,lx⟩:=h;refine PySem.wpAny_Call_method0_late hbase hline (thn (ho pins s σ H (λv H1=>∃x G1 T id,RU X.K H1 x v/\HR X.K H1 G1/\Fr H G H1 G1/\mtU m x G1=some (T,id)/\jaI m x [] G1 Q) I
  ⟨ς,G,_,E,hς,hG,h,λx v G1 H1 rx hG1 f1 h1=>?_,lx⟩) λv s1 ⟨xv,H1,I1,r1,x,G1,T,id,rx,hG1,f1,em,h1⟩=>?_)
 ·dsimp only at h1;split at h1
  ·rename_i p ep;exact⟨x,G1,p.1,p.2,rx,hG1,f1,ep,h1⟩
  ·exact h1.elim
 ·obtain⟨k,hty,r,hr1,hr2⟩:=hm x G1 T id em;obtain⟨t1,t2⟩:=jkF I1 r1 (hty xv H1 rx hG1);exact⟨T,id,k.pa,k.sl,k.ty,t1,t2,YeM rfl (PySem.evalArgs_none (hr1 pins s1 σ H1 xv [] v [] Q0 I1 r1 .nil (hr2 [] xv [] G1 H1 Q Q0 rx rfl hG1 h1 (lv.fr f1))))⟩
end
end Z

namespace L2
open PySem PySem.Spec PyProof.Rows

def iSeq  (K:Yac)(tl:TE):TI:=λσ H R=>tl σ H λx H1=>∃a,x=.ref a/\(((∃xs,SqL K H1 a xs)/\R (Itl K a) H1)\/((∃xs,SqT K H1 a xs)/\R (Itt K a) H1))
def jnH    (hl:PE X l tl):PI X tg l (iSeq X.K tl):=by
 intro pins s σ H R I h;refine thn (hl pins s σ H _ I h) λv s1 ⟨x,H1,I1,r1,q1⟩=>?_;obtain⟨a,e,⟨⟨xs,hq⟩,q⟩|⟨⟨xs,hq⟩,q⟩⟩:=q1
 ·subst e;cases r1;obtain⟨its,rv,p,hz⟩:=I1.list hq;refine Yei p.isList ?_;refine⟨s1.heap.objs.size,[s1.heap.objs.size],_,_,H1,rfl,I1.kept (t':=s1.toks) λb o e=>Yae _ e,jh9 a _,⟨_,Yau _ rfl,rfl,rfl⟩,λb hb=>?_,q⟩;have e:b=s1.heap.objs.size:=by simp_all
  subst e;exact I1.fpOk (Yab _) (I1.hok.fresh (Yab _))
 ·subst e;cases r1;obtain⟨its,rv,p,hz⟩:=I1.tuple hq;refine wpAny_pyIter_tuple (show s1.heap.IsTuple a its.toArray from p) ?_;refine⟨s1.heap.objs.size,[s1.heap.objs.size],_,_,H1,rfl,I1.kept (t':=s1.toks) λb o e=>Yae _ e,jhs a _,⟨_,Yau _ rfl,rfl,rfl⟩,λb hb=>?_,q⟩;have e:b=s1.heap.objs.size:=by simp_all
  subst e;exact I1.fpOk (Yab _) (I1.hok.fresh (Yab _))
def PI.imp    (h:PI X tg iter t)(i:∀σ H R,t' σ H R->t σ H R):PI X tg iter t':=λpins s σ H R I q=>h pins s σ H R I (i σ H R q)
def PG.imp    (h:PG X target t)(i:∀v σ H Q,t' v σ H Q->t v σ H Q):PG X target t':=λpins s σ H v u Q I r q=>h pins s σ H v u Q I r (i v σ H Q q)
def PGs.imp    (h:PGs X ts t)(i:∀v σ H Q,t' v σ H Q->t v σ H Q):PGs X ts t':=λpins s σ H v u Q I r q=>h pins s σ H v u Q I r (i v σ H Q q)
def PIfs.imp    (h:PIfs X ifs t)(i:∀σ H Q,t' σ H Q->t σ H Q):PIfs X ifs t':=λpins s σ H Q I q=>h pins s σ H Q I (i σ H Q q)
end L2
namespace Z
open PySem L2
abbrev UI:=Sg->Gp->(List U->(Gp->Prop)->Gp->Prop)->KX->Prop
def jh5  (K:Yac)(J:L2.It)(H:Hp)(G:Gp)(xs:List U)(ok:Gp->Prop):Prop:=∀i H' G',TS H H'->HR K H' G'->ok G'->
 (∀u,xs[i]?=some u->J.go i H'/\∀v H'',J.yld i H' v H''->RU K H'' u v/\HR K H'' G'/\Fr H' G' H'' G')/\(i=xs.length->J.stop i H')
def jh5.mono        (h:jh5 K J H G xs ok)(t:TS H H2):jh5 K J H2 G2 xs ok:=λi H' G' t'=>h i H' G' (t.trans t')
section
variable (X:Cx)
def lI (t:UI):TI:=λσ H R=>∃ς G Q E,SR X.K H ς σ/\HR X.K H G/\t ς G Q E/\(∀xs ok G' H' J,HR X.K H' G'->Fr H G H' G'->jh5 X.K J H' G' xs ok->Q xs ok G'->R J H')/\LX X σ H G E
def lG  (K:Yac)(t:U->Sg->(Sg->Prop)->Prop):TG:=λv σ H Q0=>∃u ς k,RU K H u v/\SR K H ς σ/\t u ς k/\∀ς' σ',SR K H ς' σ'->k ς'->Q0 σ' H
def lGs  (K:Yac)(t:List U->Sg->(Sg->Prop)->Prop):TGs:=λvs σ H Q0=>∃us ς k,RUs K H us vs/\SR K H ς σ/\t us ς k/\∀ς' σ',SR K H ς' σ'->k ς'->Q0 σ' H
end
section
variable {X:Cx}{tg:Expr}{pos:Pos}{te ta tb:UE}
def u_ie   (hl:PE X l (lE X te)):PI X tg l (lI X λς G Q E=>te ς G (λx G1=>itU x G1 λxs ok=>Q xs ok G1) E):=by
 refine(jnH hl).imp λσ H R h=>?_;obtain⟨ς,G,Q,E,hς,hG,h,lv,lx⟩:=h;refine⟨ς,G,_,E,hς,hG,h,λx v G1 H1 rx hG1 f1 h1=>?_,lx⟩;dsimp only at h1;unfold itU at h1;split at h1
 ·obtain⟨a,vs,rfl,ea,rs⟩:=rx;refine⟨a,rfl,.inr ⟨⟨vs,.of ea⟩,lv _ _ _ H1 _ hG1 f1 (λi H' G' f hr _=>?_) h1⟩⟩;have e':H' a=some (.tup vs):=f a _ ea;refine⟨λu eu=>?_,λe=>⟨vs,.of e',by rw[e,rs.length];lia⟩⟩
  obtain⟨w,ew,rw'⟩:=rs.get eu;refine⟨⟨vs,w,.of e',ew⟩,λv H'' y=>?_⟩;obtain⟨rfl,y⟩:=y;have:=y vs (.of e');rw[ew]at this;cases this;exact⟨rw'.ts f,hr,Fr.refl _ _⟩
 ·cases rx;rename_i a;split at h1
  ·rename_i us eu;obtain⟨vs,sq,rs⟩:=hG1.ls eu;refine⟨_,rfl,.inl ⟨⟨vs,sq⟩,lv _ _ _ H1 _ hG1 f1 (λi H' G' f hr ok=>?_) h1⟩⟩;obtain⟨vs',sq',rs'⟩:=hr.ls ok;refine⟨λu eu=>?_,λe=>⟨vs',sq',by rw[e,rs'.length];lia⟩⟩
   obtain⟨w,ew,rw'⟩:=rs'.get eu;refine⟨⟨vs',w,sq',ew⟩,λv H'' y=>?_⟩;obtain⟨rfl,y⟩:=y;have:=y vs' sq';rw[ew]at this;cases this;exact⟨rw',hr,Fr.refl _ _⟩
  lia
 lia
def jgW      lo n:jh5 K (Itr lo n) H G (rngU lo n) λ_=>True:=by
 intro i H' G' f hr _;have hl:(rngU lo n).length=n:=by simp[rngU]
 refine⟨λu eu=>?_,λe=>by rw[hl]at e;exact YdW e.symm⟩
 have hi:i<n:=by grind
 refine⟨hi,λv H'' y=>?_⟩;obtain⟨rfl,rfl⟩:=y;have:(rngU lo n)[i]?=some (.int (lo+i)):=by simp[rngU,YaD,Ydo hi]
 rw[this]at eu;cases eu;exact⟨rfl,hr,Fr.refl _ _⟩
def u_r1 {a:Expr}{p:Pos}(hg:Gl X "range")(hm:X.mg "range" = none)(ha:PE X a (lE X ta))(hs:Yap [a] X.env=[(false,eval a X.env)]):PI X tg (.Call (.Name "range" p) [a] [] pos) (lI X λς G Q E=>ta ς G (λx G1=>match x with
   |.int j=>-(2 ^ 62)<=j/\j<2 ^ 62/\Q (rngU 0 j.toNat) (λ_=>True) G1
   |_=>False) E):=by
 refine(jix hg hm (jc0 ha jf0 hs) hs).imp λσ H R h=>?_;obtain⟨ς,G,Q,E,hς,hG,h,lv,lx⟩:=h;refine⟨ς,G,λus G1=>match us with|[x]=>(match x with|.int j=>-(2 ^ 62)<=j/\j<2 ^ 62/\Q (rngU 0 j.toNat) (λ_=>True) G1|_=>False)|_=>False,E,hς,hG,h,λus vs G1 H1 rs hG1 f1 h1=>?_,lx⟩
 dsimp only at h1;split at h1
 ·obtain⟨v,rfl,r⟩:=rs.one;split at h1
  ·cases r;exact⟨_,rfl,h1.1,h1.2.1,lv _ _ G1 H1 _ hG1 f1 (jgW 0 _) h1.2.2⟩
  lia
 lia
def u_r2 {a b:Expr}{p:Pos}(hg:Gl X "range")(hm:X.mg "range" = none)(ha:PE X a (lE X ta))(hb:PE X b (lE X tb))(hs:Yap [a,b] X.env=[(false,eval a X.env),(false,eval b X.env)])(hs2:Yap [b] X.env=[(false,eval b X.env)]) :
  PI X tg (.Call (.Name "range" p) [a,b] [] pos) (lI X λς G Q E=>ta ς G (λx G1=>tb ς G1 (λy G2=>match x,y with
   |.int i,.int j=>-(2 ^ 62)<=i/\i<2 ^ 62/\-(2 ^ 62)<=j/\j<2 ^ 62/\Q (rngU i (j-i).toNat) (λ_=>True) G2
   |_,_=>False) E) E):=by
 refine(jiw hg hm (jc0 ha (jc0 hb jf0 hs2) (by lia)) hs hs2).imp λσ H R h=>?_
 obtain⟨ς,G,Q,E,hς,hG,h,lv,lx⟩:=h;refine⟨ς,G,λus G1=>match us with|[x,y]=>(match x,y with|.int i,.int j=>-(2 ^ 62)<=i/\i<2 ^ 62/\-(2 ^ 62)<=j/\j<2 ^ 62/\Q (rngU i (j-i).toNat) (λ_=>True) G1|_,_=>False)|_=>False,E,hς,hG,h,λus vs G1 H1 rs hG1 f1 h1=>?_,lx⟩
 dsimp only at h1;split at h1
 ·obtain⟨v,v',rfl,r,r'⟩:=rs.two;split at h1
  ·cases r;cases r';exact⟨_,_,rfl,⟨h1.1,h1.2.1,h1.2.2.1,h1.2.2.2.1⟩,lv _ _ G1 H1 _ hG1 f1 (jgW _ _) h1.2.2.2.2⟩
  lia
 lia
def SR.set        (h:SR K H ς σ)(r:RU K H u v) i:SR K H (ς.set i (some u)) (σ.set i (some v)):=by
 refine⟨by simp[h.1],λj w e=>?_⟩
 by_cases hj:j=i
 ·subst hj;by_cases hl:j<ς.length
  ·rw[Ybp hl]at e;cases e;exact⟨v,Ybp (by rw[<- h.1];exact hl),r⟩
  simp_all
 ·rw[YaX (Ne.symm hj)]at e ⊢;exact h.2 j w e
def u_tn    (hN:X.N.Nodup)(hi:X.N[i]?=some x)(hx:Loc X.env.scope x)(hf:X.fn x=true\/X.env.scope.names.lookup x=some .local):PG X (.Name x pos) (lG X.K (tgU (.n i))):=by
 refine(jf9 hN hi hx hf).imp λv σ H Q h=>?_;obtain⟨u,ς,k,r,hς,h,q⟩:=h;exact q _ _ (hς.set r i) h
def u_tt {es:List Expr}{k n:Nat}{ts:Tgs}(hc:X.calm=true)(h:PGs X es (lGs X.K (tgsU ts)))(hn:(Ybg es X.env).length=n)(hst:(Ybg es X.env).findIdx? (·.1)=none)(hl:∀us ς k,tgsU ts us ς k->us.length=n) :
  PG X (.Tuple es k pos) (lG X.K (tgU (.t ts))):=by
 refine(jnI hc h hn hst).imp λv σ H Q h=>?_;obtain⟨u,ς,k,r,hς,h,q⟩:=h;cases u with
 |tup us=>
  obtain⟨a,vs,rfl,e,rs⟩:=r;have h':tgsU ts us ς k:=h;exact⟨a,vs,rfl,.of e,by rw[<- rs.length];grind,us,ς,k,rs,hς,h',q⟩
 |_=>exact h.elim
def jo8  : PGs X [] (lGs X.K (tgsU .nil)):=by
 refine jlU.imp λvs σ H Q h=>?_;obtain⟨us,ς,k,r,hς,h,q⟩:=h;obtain⟨rfl,h⟩:=h;cases r;exact⟨rfl,q _ _ hς h⟩
def jo9 {e:Expr}{es:List Expr}{t:Tg}{ts:Tgs}(h1:PG X e (lG X.K (tgU t)))(h2:PGs X es (lGs X.K (tgsU ts)))(hs:(Ybg (e::es) X.env).map (·.2)=assign e X.env::(Ybg es X.env).map (·.2)) :
  PGs X (e::es) (lGs X.K (tgsU (.cons t ts))):=by
 refine(jj1 h1 h2 hs).imp λvs σ H Q h=>?_;obtain⟨us,ς,k,r,hς,h,q⟩:=h;cases us with
 |nil=>exact h.elim
 |cons u us=>
  obtain⟨v,vr,rfl,r1,rs⟩:=r;exact⟨v,vr,rfl,u,ς,_,r1,hς,h,λς' σ' hs' h'=>⟨us,ς',k,rs,hs',h',q⟩⟩
end
def lE0  (K:Yac)(t:UE):TE:=λτ H Q0=>∃ς G Q,SR K H ς τ/\HR K H G/\t ς G Q (λ_ _=>False)/\∀w v G' H',RU K H' w v->HR K H' G'->Fr H G H' G'->Q w G'->Q0 v H'
def lT0  (K:Yac)(t:Sg->Gp->(Bool->Gp->Prop)->Prop):TT:=λτ H Q0=>∃ς G Q,SR K H ς τ/\HR K H G/\t ς G Q/\∀b G' H',HR K H' G'->Fr H G H' G'->Q b G'->Q0 b H'
def LX.no      : LX X σ H G λ_ _=>False:=λ_ _ _ _ _ _ _ _ _ _ h=>h.elim
def lE0.of     (h:PE X e (lE X t)):PE X e (lE0 X.K t):=h.imp λσ H Q0 ⟨ς,G,Q,h1,h2,h3,h4⟩=>⟨ς,G,Q,_,h1,h2,h3,h4,LX.no⟩
def lT0.of     (h:PT X e (lT X t)):PT X e (lT0 X.K λς G Q=>t ς G Q λ_ _=>False):=h.imp λσ H Q0 ⟨ς,G,Q,h1,h2,h3,h4⟩=>⟨ς,G,Q,_,h1,h2,h3,h4,LX.no⟩
mutual
noncomputable def tgS:Tg->List Nat
 |.n i=>[i]
 |.t ts=>tgsS ts
noncomputable def tgsS:Tgs->List Nat
 |.nil=>[]
 |.cons t ts=>tgS t++tgsS ts
end
def Ext  (ς0 ς:Sg):Prop:=ς0.length=ς.length/\∀(j:Nat) (w:U),ς0[j]?=some (some w)->ς[j]?=some (some w)
mutual
theorem jkG {ς0:Sg}:∀{t:Tg} {u:U} {ς:Sg} {k:Sg->Prop},(∀i∈tgS t,∀w,ς0[i]?≠some (some w))->Ext ς0 ς->tgU t u ς k->tgU t u ς λς'=>k ς'/\Ext ς0 ς'
 |.n i,u,ς,k,hf,he,h=>by
  refine⟨h,by simp[he.1],λj w e=>?_⟩
  have hj:j≠i:=λz=>hf i (by simp[tgS]) w (z ▸ e)
  rw[YaX (Ne.symm hj)]
  exact he.2 j w e
 |.t ts,u,ς,k,hf,he,h=>by
  cases u with
  |tup us=>exact jib (ts:=ts) (us:=us) (λi hi=>hf i hi) he h
  |_=>exact h
theorem jib {ς0:Sg}:∀{ts:Tgs} {us:List U} {ς:Sg} {k:Sg->Prop},(∀i∈tgsS ts,∀w,ς0[i]?≠some (some w))->Ext ς0 ς->tgsU ts us ς k->tgsU ts us ς λς'=>k ς'/\Ext ς0 ς'
 |.nil,us,ς,k,_,he,h=>⟨h.1,h.2,he⟩
 |.cons t ts,us,ς,k,hf,he,h=>by
  cases us with
  |nil=>exact h
  |cons u r=>
   have:=jkG (t:=t) (u:=u) (λi hi=>hf i (by simp[tgsS,hi])) he h
   refine jeQ this λς' ⟨h1,h2⟩=>jib (λi hi=>hf i (by simp[tgsS,hi])) h2 h1
theorem jeQ:∀{t:Tg} {u:U} {ς:Sg} {k k':Sg->Prop},tgU t u ς k->(∀ς,k ς->k' ς)->tgU t u ς k'
 |.n _,_,_,_,_,h,i=>i _ h
 |.t ts,u,ς,_,_,h,i=>by
  cases u with
  |tup us=>exact jgS (ts:=ts) (us:=us) h i
  |_=>exact h
theorem jgS:∀{ts:Tgs} {us:List U} {ς:Sg} {k k':Sg->Prop},tgsU ts us ς k->(∀ς,k ς->k' ς)->tgsU ts us ς k'
 |.nil,_,_,_,_,h,i=>⟨h.1,i _ h.2⟩
 |.cons t ts,us,ς,_,_,h,i=>by
  cases us with
  |nil=>exact h
  |cons u r=>exact jeQ (t:=t) h λς' h'=>jgS h' i
end
def SR.ext      (h:SR K H ς σ)(e:Ext ς0 ς):SR K H ς0 σ:=⟨e.1.trans h.1,λi u q=>h.2 i u (e.2 i u q)⟩
theorem SR.pick      (h:SR K H ς σ)(pick:List (Option Nat)):SR K H (jcQ pick ς) (pick.map λo=>o.bind λj=>(σ[j]?).join):=by
 refine⟨by simp[jcQ],λi u e=>?_⟩
 unfold jcQ at e;rw[YaD]at e ⊢;cases q:pick[i]? with
 |none=>simp_all
 |some o=>
  rw[q]at e;cases o with
  |none=>simp at e
  |some j=>
   simp only[Option.map_some,Option.bind_some,Option.some.injEq]at e ⊢;have e':ς[j]?=some (some u):=by
    grind
   obtain⟨v,ev,r⟩:=h.2 j u e'
   simp_all
section
variable {K:Yac}{H:Hp}{G:Gp}
def HR.newH  (h:HR K H G)(e:H p=none):HR K (upd H p o) G:=⟨λa ob q=>by
 have m:=h a ob q;obtain⟨ho,e2⟩:=m.there;exact m.keep (jae (jak e2 e)) (TS.new e),h.tab.new e⟩
def TS.hid     (e:H p=some (.lst ys)):TS H (upd H p o):=⟨λa xs h=>by
 have:a≠p:=λz=>by lia
 rw[jae this];exact h,λa ob h=>by
 have:a≠p:=λz=>by lia
 rw[jae this];exact h⟩
def HR.hid  (h:HR K H G)(e:H p=some (.lst ys))(g:G p=none):HR K (upd H p o) G:=⟨λa ob q=>by
 have:a≠p:=λz=>by lia
 exact(h a ob q).keep (jae this) (TS.hid e),h.tab.upd (λps z=>by lia) λob z=>by lia⟩
def HR.know  (h:HR K H G)(e:H p=some (.lst ys))(r:RUs K H us ys):HR K H (gup G p (.lst us)):=⟨λa ob q=>by
 by_cases z:a=p
 ·subst z;rw[jaD]at q;cases q;exact⟨ys,e,r⟩
 ·rw[jbH z]at q;exact h a ob q,h.tab⟩
end
section
variable {X:Cx}{pick:List (Option Nat)}{ti:UI}{t:Tg}{tc:Sg->Gp->(Bool->Gp->Prop)->Prop}{te:UE}{σ:St}{H:Hp}{Q0:VK}
abbrev lcD  (pick:List (Option Nat))(ti:UI)(t:Tg)(tc:Sg->Gp->(Bool->Gp->Prop)->Prop)(te:UE):UE:=λς G Q E=>ti ς G (λxs ok G1=>xs.length<=Yag/\jfL ok (λx G2 k=>tgU t x (jcQ pick ς) λτ=>tc τ G2 (λb G3=>if b=true then te τ G3 (λu G4=>k (some u) G4) (λ_ _=>False) else k none G3)) xs [] G1
   λus G5=>newO G5 (.lst us) Q) E
structure FrX (D:Addr)(H:Hp)(G:Gp)(H':Hp)(G':Gp):Prop where
 go:∀a o,a≠D->H a=some o->G a=none->(nt:noTb o=true:=by rfl)->H' a=some o/\G' a=none
instance {D:Addr} {H H':Hp} {G G':Gp}:CoeFun (FrX D H G H' G') λ_=>∀a o,a≠D->H a=some o->G a=none->(nt:noTb o=true:=by rfl)->H' a=some o/\G' a=none:=⟨@FrX.go D H G H' G'⟩
def joo            {kk:List U->Gp->Prop}{QQ:St->List V->Hp->Prop}
  (free:∀i∈tgS t,∀w,τu[i]?≠some (some w)) (wk:jh5 X.K J H1 G1 xs ok) (hG1:HR X.K H1 G1) (eD1:H1 D=some (.lst ys0)) (gD1:G1 D=none) (ra1:RUs X.K H1 acc0 ys0) (sr1:SR X.K H1 τu τ0) (hl:acc0.length+xs.length<=Yag)
  (h1:jfL ok (λx G2 k=>tgU t x τu λτ=>tc τ G2 (λb G3=>if b=true then te τ G3 (λu G4=>k (some u) G4) (λ_ _=>False) else k none G3)) xs acc0 G1 kk)
  (fin:∀τ' acc' ys' G' H',SR X.K H' τu τ'->HR X.K H' G'->FrX D H1 G1 H' G'->H' D=some (.lst ys')->G' D=none->RUs X.K H' acc' ys'->kk acc' G'->QQ τ' ys' H') :
  jhr J (lG X.K (tgU t)) (lT0 X.K tc) (emA (lE0 X.K te) D) QQ τ0 ys0 H1:=by
 refine⟨λi m τ ys H'=>m=xs.length-i/\i<=xs.length/\∃acc G',SR X.K H' τu τ/\HR X.K H' G'/\FrX D H1 G1 H' G'/\H' D=some (.lst ys)/\G' D=none/\RUs X.K H' acc ys/\acc.length<=acc0.length+i/\
  jfL ok (λx G2 k=>tgU t x τu λτ=>tc τ G2 (λb G3=>if b=true then te τ G3 (λu G4=>k (some u) G4) (λ_ _=>False) else k none G3)) (xs.drop i) acc G' kk,⟨xs.length,by simp,Ya8 _,acc0,G1,sr1,hG1,⟨λ_ _ _ a b _=>⟨a,b⟩⟩,eD1,gD1,ra1,by lia,by simp_all⟩,?_⟩
 rintro i m τ ys H' ⟨rfl,hi,acc,G',sr,hr,f,eD,gD',ra,hal,hc⟩;have ts:TS H1 H':=⟨λa zs e=>(f a _ (λz=>by lia) e (hG1.tupNone e)).1,λa zs e=>(f a _ (λz=>by lia) e (hG1.codNone e)).1⟩
 by_cases hlt:i<xs.length
 ·rw[YcN hlt]at hc;obtain⟨hok,hb⟩:=hc;obtain⟨w1,_⟩:=wk i H' G' ts hr hok;obtain⟨go,yl⟩:=w1 xs[i] (by simp[hlt])
  refine .inr ⟨go,λv H'' y=>?_⟩;obtain⟨rx,hr2,f2⟩:=yl v H'' y;have sr2:=sr.ts (f2.ts hr);refine⟨xs[i],τu,_,rx,sr2,jkG free ⟨rfl,λ_ _ e=>e⟩ hb,λτv σ' hs' ⟨hk,he⟩=>?_⟩;refine⟨τv,G',_,hs',hr2,hk,λb G3 H3 hr3 f3 h3=>?_⟩;have f13:FrX D H1 G1 H3 G3:=⟨λa o n h g nt=>let ⟨a1,a2⟩:=f a o n h g nt;let ⟨b1,b2⟩:=f2 a o a1 a2 nt;f3 a o b1 b2 nt⟩
  have hs3:SR X.K H3 τu σ':=(hs'.ext he).ts (f3.ts hr2);obtain⟨eD2,gD2⟩:=f2 D _ eD gD';obtain⟨eD3,gD3⟩:=f3 D _ eD2 gD2;have ra3:=(ra.ts (f2.ts hr)).ts (f3.ts hr2);cases b with
  |false=>
   rw[if_neg Yaj]at h3;dsimp only;rw[if_neg Yaj];exact⟨xs.length-(i+1),by lia,rfl,hlt,acc,G3,hs3,hr3,f13,eD3,gD3,ra3,by lia,h3⟩
  |true=>
   rw[if_pos rfl]at h3;dsimp only;rw[if_pos rfl];refine⟨τv,G3,_,hs'.ts (f3.ts hr2),hr3,h3,λu v G4 H4 ru hr4 f4 h4=>?_⟩;obtain⟨eD4,gD4⟩:=f4 D _ eD3 gD3;have ra4:=ra3.ts (f4.ts hr3);have tsn:=TS.hid (o:=.lst (ys++[v])) eD4;refine⟨eD4,by rw[<- ra.length];lia,xs.length-(i+1),by lia,rfl,hlt,acc++[u],G4,(hs3.ts (f4.ts hr3)).ts tsn,hr4.hid eD4 gD4,?_,jaj,gD4,(ra4.append (RUs.mk (us:=[]) (vs:=[]) ru rfl)).ts tsn,by grind,h4⟩
   refine⟨λa o n ha ga nt=>?_⟩;obtain⟨x1,x2⟩:=f13 a o n ha ga nt;obtain⟨y1,y2⟩:=f4 a o x1 x2 nt;exact⟨by rw[jae n];exact y1,y2⟩
 ·have e:i=xs.length:=by lia
  subst e;rw[YfT]at hc;obtain⟨hok,q⟩:=hc;obtain⟨_,w2⟩:=wk xs.length H' G' ts hr hok;exact .inl ⟨w2 rfl,fin τ acc ys G' H' sr hr f eD gD' ra q⟩
def jiv  {is:List Nat}(hp:is.all (λi=>(pick[i]?).join.isNone)=true) ς:∀i∈is,∀w,(jcQ pick ς)[i]?≠some (some w):=λi hi w e=>by
 have:=Yc1.mp hp i hi;unfold jcQ at e;rw[YaD]at e;cases q:pick[i]? with
 |none=>simp_all
 |some o=>
  simp_all
def jkW  (hp:(tgS t).all (λi=>(pick[i]?).join.isNone)=true)(h:lE X (lcD pick ti t tc te) σ H Q0):tLc pick (lI X ti) (lG X.K (tgU t)) (lT0 X.K tc) (lE0 X.K te) σ H Q0:=by
 obtain⟨ς,G,Q,E,hς,hG,h,lv,lx⟩:=h;refine⟨ς,G,_,E,hς,hG,h,λxs ok G1 H1 J hG1 f1 wk h1=>?_,lx⟩;obtain⟨hl,h1⟩:=h1;intro D hD;refine joo (acc0:=[]) (jiv hp ς) (wk.mono (TS.new hD)) (hG1.newH hD) jaj (hG1.nope hD) rfl (((hς.ts (f1.ts hG)).ts (TS.new hD)).pick pick) (by simp_all) h1 λτ' acc' ys' G' H' sr hr f eD gD' ra q=>?_
 refine lv (.loc D) (.ref D) _ H' rfl (hr.know eD ra) ?_ (q.at D gD');refine⟨λa o ha ga nt=>?_⟩;obtain⟨x1,x2⟩:=f1 a o ha ga nt;obtain⟨y1,y2⟩:=f a o (jak x1 hD) (by rw[jae (jak x1 hD)];exact x1) x2 nt
 exact⟨y1,by rw[jbH (jak x1 hD)];exact y2⟩

def u_lc  (hc:X.calm=true)(S:CScope X N pick scope)(hw:PI X tg iter (lI X ti))(hp:(tgS t).all (λi=>(pick[i]?).join.isNone)=true)
  (hg:∀cl C s₀ H₀ fp,PG (jaq X N scope cl C s₀ H₀ fp) tg (lG X.K (tgU t))) (hi:∀cl C s₀ H₀ fp,PIfs (jaq X N scope cl C s₀ H₀ fp) ifs (lT0 X.K tc)) (he:∀cl C s₀ H₀ fp,PE (jaq X N scope cl C s₀ H₀ fp) elt (lE0 X.K te))
  (hs:∀x,Ya0 iter X.env x=pure x):PE X (.ListComp elt [⟨tg,iter,ifs,0⟩] scope pos) (lE X (lcD pick ti t tc te)):=
 (jpO hc S hw hg hi he hs).imp λ_ _ _ h=>jkW hp h
end
section
variable {X:Cx}{e:Expr}{te ta tb:UE}{p pos:Pos}
def jpf  (hg:Gl X "list")(hm:X.mg "list" = none)(ha:PE X e (lE X te))(he:Yap [e] X.env=[(false,eval e X.env)]) :
  PE X (.Call (.Name "list" p) [e] [] pos) (lE X λς G Q E=>te ς G (λx G1=>itU x G1 λxs _=>newO G1 (.lst xs) Q) E):=by
 refine(jdB (jfP (X:=X)) hg hm PyProof.Rows.boot_list (jc0 ha jf0 he) (by decide) (by decide) he rfl).imp λσ H Q0 h=>?_
 obtain⟨ς,G,Q,E,hς,hG,h,lv,lx⟩:=h;refine⟨ς,G,λus G1=>match us with|[x]=>(itU x G1 λxs _=>newO G1 (.lst xs) Q)|_=>False,E,hς,hG,h,λus vs G1 H1 rs hG1 f1 h1=>?_,lx⟩
 dsimp only at h1;split at h1
 ·obtain⟨v,rfl,r⟩:=rs.one;unfold itU at h1;split at h1
  ·obtain⟨a,ws,rfl,ea,rr⟩:=r;exact⟨a,ws,rfl,.inr (.of ea),λl hl=>(lv.fr f1).lst hl rr hG1 h1⟩
  ·cases r;split at h1
   ·rename_i us eu;obtain⟨ws,sq,rr⟩:=hG1.ls eu;exact⟨_,ws,rfl,.inl sq,λl hl=>(lv.fr f1).lst hl rr hG1 h1⟩
   lia
  lia
 lia
def jpe  (hg:Gl X "tuple")(hm:X.mg "tuple" = none)(ha:PE X e (lE X te))(he:Yap [e] X.env=[(false,eval e X.env)]) :
  PE X (.Call (.Name "tuple" p) [e] [] pos) (lE X λς G Q E=>te ς G (λx G1=>itU x G1 λxs _=>Q (.tup xs) G1) E):=by
 refine(jdB (je9 (X:=X)) hg hm PyProof.Rows.boot_tuple (jc0 ha jf0 he) (by decide) (by decide) he rfl).imp λσ H Q0 h=>?_
 obtain⟨ς,G,Q,E,hς,hG,h,lv,lx⟩:=h;refine⟨ς,G,λus G1=>match us with|[x]=>(itU x G1 λxs _=>Q (.tup xs) G1)|_=>False,E,hς,hG,h,λus vs G1 H1 rs hG1 f1 h1=>?_,lx⟩
 dsimp only at h1;split at h1
 ·obtain⟨v,rfl,r⟩:=rs.one;unfold itU at h1;split at h1
  ·obtain⟨a,ws,rfl,ea,rr⟩:=r;exact⟨a,ws,rfl,.inr ⟨.of ea,(lv.fr f1).here (w:=.tup _) ⟨a,ws,rfl,ea,rr⟩ hG1 h1⟩⟩
  ·cases r;split at h1
   ·rename_i us eu;obtain⟨ws,sq,rr⟩:=hG1.ls eu;exact⟨_,ws,rfl,.inl ⟨sq,λl hl=>(lv.fr f1).tup hl rr hG1 h1⟩⟩
   lia
  lia
 lia
def jlF     i n:RUs K H (rngU i n) ((YaO n).map λk:Nat=>V.int (i+(k:Int))):=by
 unfold rngU
 induction (YaO n)with
 |nil=>rfl
 |cons a r ih=>exact⟨_,_,rfl,rfl,ih⟩
def jm0 {p2 pos2:Pos}{a:Expr}(hc:X.calm=true)(hgl:Gl X "list")(hml:X.mg "list" = none)(hgr:Gl X "range")(hmr:X.mg "range" = none)(ha:PE X a (lE X ta))(hs:Yap [a] X.env=[(false,eval a X.env)])
  (hs2:Yap [.Call (.Name "range" p2) [a] [] pos2] X.env=[(false,eval (.Call (.Name "range" p2) [a] [] pos2) X.env)]) :
  PE X (.Call (.Name "list" p) [.Call (.Name "range" p2) [a] [] pos2] [] pos) (lE X λς G Q E=>ta ς G (λx G1=>match x with
   |.int j=>0<=j/\j<=1000000/\newO G1 (.lst (rngU 0 j.toNat)) Q
   |_=>False) E):=by
 refine(jfl hc hgl hml hgr hmr (jc0 ha jf0 hs) hs hs2).imp λσ H Q0 h=>?_;obtain⟨ς,G,Q,E,hς,hG,h,lv,lx⟩:=h;refine⟨ς,G,λus G1=>match us with|[x]=>(match x with|.int j=>0<=j/\j<=1000000/\newO G1 (.lst (rngU 0 j.toNat)) Q|_=>False)|_=>False,E,hς,hG,h,λus vs G1 H1 rs hG1 f1 h1=>?_,lx⟩
 dsimp only at h1;split at h1
 ·obtain⟨v,rfl,r⟩:=rs.one;split at h1
  ·rename_i j;cases r;refine⟨_,rfl,h1.1,h1.2.1,λl hl=>?_⟩;have:=jlF (K:=X.K) (H:=H1) 0 j.toNat;simp only[Int.zero_add]at this;exact(lv.fr f1).lst hl this hG1 h1.2.2
  lia
 lia
def u_ty    (hg:Gl X x)(hm:X.mg x=none)(hv:YbR x=some (.type n))(hn:x ≠ "__name__")(hd:(x==("__debug__" : Str))=false):PE X (.Name x pos) (lE X λ_ G Q _=>Q (.ty n) G):=
 jcL (u:=.ty n) (jiz (v:=.ty n) hg hm hv rfl hn hd) λ_=>rfl
def u_gl      (hg:Gl X x)(hm:X.mg x=some w)(r:RelV v w)(hr:∀H,RU X.K H u v)(hd:(x==("__debug__" : Str))=false):PE X (.Name x pos) (lE X λ_ G Q _=>Q u G):=
 jcL (jga hg hm r hd) hr
def jm4  : PE X (.Dict [] [] pos) (lE X λ_ G Q _=>newO G (.dK []) Q):=by
 refine jj4.imp λσ H Q0 h p hp=>?_;obtain⟨ς,G,Q,E,hς,hG,h,lv,lx⟩:=h;exact lv (.loc p) (.ref p) _ _ rfl (hG.newO (mo:=.dK []) hp ⟨[],jaj,rfl⟩) (Fr.newO hp) (h.at p (hG.nope hp))
theorem RKs.merge    : ∀{more } {m },RKs K H more m->∀{kvs } {l },RKs K H kvs l->RKs K H (more.foldl (λacc kv=>dPut acc kv.1 kv.2) kvs) (jdN l m)
 |[],_,h,_,_,h'=>by cases h;exact h'
 |(k,u)::more,_,h,_,_,h'=>by
  obtain⟨v,l',rfl,r,rs⟩:=h;exact RKs.merge rs (h'.put r)
def lD  (X:Cx)(t:Sg->Gp->(List (Key×U)->Gp->Prop)->KX->Prop)(trs:List (TE×TE)):Prop:=
 ∀σ H ς G Q E (Q0:List (V×V)->Hp->Prop),SR X.K H ς σ->HR X.K H G->t ς G Q E->LX X σ H G E->
  (∀kvs (l:List (Key×V)) G' H',RKs X.K H' kvs l->HR X.K H' G'->Fr H G H' G'->Q kvs G'->Q0 (l.map λkv=>(kV kv.1,kv.2)) H')->jgT trs σ H Q0
def jpi      (hp:PPs X pos keys values trs)(hd:lD X t trs)(hall:keys.all (·.isSome)=true)(hl:keys.length=values.length)(h0:keys≠[])
  (h15:keys.length<=15):PE X (.Dict keys values pos) (lE X λς G Q E=>t ς G (λkvs G1=>kvs.length<=15/\newO G1 (.dK (jd9 kvs)) Q) E):=by
 refine(jlX hp hall hl h0 h15).imp λσ H Q0 h p hp=>?_;obtain⟨ς,G,Q,E,hς,hG,h,lv,lx⟩:=h;have gp:=hG.nope hp;refine hd σ _ ς G _ E _ (hς.ts (TS.new hp)) (hG.newH hp) h (lx.fr (Fr.new hp)) λkvs l G' H' r hG' f q=>?_;obtain⟨e,g⟩:=f p _ jaj gp;refine⟨e,l,rfl,by rw[<- r.length];exact q.1,?_⟩
 have ts:TS H' (upd H' p (.dK (jdN [] l))):=⟨λa xs h=>by
  have:a≠p:=λz=>by lia
  rw[jae this];exact h,λa xs h=>by
  have:a≠p:=λz=>by lia
  rw[jae this];exact h⟩
 refine lv (.loc p) (.ref p) (gup G' p (.dK (jd9 kvs))) _ rfl ⟨λa ob z=>?_,hG'.tab.upd (λps z=>by lia) λob z=>by lia⟩ ⟨λa o ha ga nt=>?_⟩ (q.2.at p g)
 ·by_cases ea:a=p
  ·subst ea;rw[jaD]at z;cases z;exact⟨_,jaj,(RKs.merge r (kvs:=[]) (l:=[]) rfl).ts ts⟩
  ·rw[jbH ea]at z;exact(hG' a ob z).keep (jae ea) ts
 ·have ea:a≠p:=jak ha hp;obtain⟨x1,x2⟩:=f a o (by rw[jae ea];exact ha) ga nt
  exact⟨by rw[jae ea];exact x1,by rw[jbH ea];exact x2⟩
def joq  : lD X (λ_ G Q _=>Q [] G) []:=λσ H ς G Q E Q0 hς hG h lx q=>q [] [] G H rfl hG (Fr.refl _ _) h
def jms {tk tv:UE}{t:Sg->Gp->(List (Key×U)->Gp->Prop)->KX->Prop}{trs:List (TE×TE)}(hr:lD X t trs):lD X (λς G Q E=>tk ς G (λx G1=>tv ς G1 (λy G2=>match kU x with
   |some k=>t ς G2 (λkvs G3=>Q ((k,y)::kvs) G3) E
   |none=>False) E) E) ((lE X tk,lE X tv)::trs):=by
 intro σ H ς G Q E Q0 hς hG h lx q;refine⟨ς,G,_,E,hς,hG,h,λx v G1 H1 rx hG1 f1 h1=>?_,lx⟩;refine⟨ς,G1,_,E,hς.ts (f1.ts hG),hG1,h1,λy v' G2 H2 ry hG2 f2 h2=>?_,lx.fr f1⟩;dsimp only at h2;split at h2
 ·rename_i k ek;have:=jfy rx ek;subst this;refine hr σ H2 ς G2 _ E _ ((hς.ts (f1.ts hG)).ts (f2.ts hG1)) hG2 h2 (lx.fr (f1.trans f2)) λkvs l G3 H3 r hG3 f3 h3=>?_;exact q ((k,y)::kvs) ((k,v')::l) G3 H3 ⟨v',l,rfl,ry.ts (f3.ts hG2),r⟩ hG3 ((f1.trans f2).trans f3) h3
 lia
end
end Z

namespace L2
open PySem
end L2
namespace Z
open PySem L2
structure LD (X:Cx)(H:Hp)(G:Gp)(De:En)(D:Ends):Prop where
 nx:∀ς' σ' G' H',SR X.K H' ς' σ'->HR X.K H' G'->Fr H G H' G'->De.nx ς' G'->D.nx σ' H'
 rt:∀w v G' H',RU X.K H' w v->HR X.K H' G'->Fr H G H' G'->De.rt w G'->D.rt v H'
 ex:∀(pins:List (Addr×Obj)) (e:Value) (s':Shared) (x:XV) ς' σ' G' H',Inv X pins σ' H' s'->SR X.K H' ς' σ'->XAt X H' s' e x->HR X.K H' G'->Fr H G H' G'->De.ex x ς' G'->X.xe e s'
abbrev US:=En->Sg->Gp->Prop
def lS  (X:Cx)(t:US):L2.TS:=λD σ H=>∃De ς G,SR X.K H ς σ/\HR X.K H G/\t De ς G/\LD X H G De D

def LD.fr  (h:LD X H G De D)(f:Fr H G H1 G1):LD X H1 G1 De D:=
 ⟨λς' σ' G' H' a b c=>h.nx ς' σ' G' H' a b (f.trans c),λw v G' H' a b c=>h.rt w v G' H' a b (f.trans c),λpins e s' x ς' σ' G' H' i a b c d=>h.ex pins e s' x ς' σ' G' H' i a b c (f.trans d)⟩
def LD.lx  (h:LD X H G De D)(hς:SR X.K H ς σ)(hG:HR X.K H G):LX X σ H G λx G1=>De.ex x ς G1:=λpins e s' x G' H' I a hr f q=>h.ex pins e s' x ς σ G' H' I (hς.ts (f.ts hG)) a hr f q
def LD.here  (h:LD X H G De D)(hς:SR X.K H ς σ)(hG:HR X.K H G)(q:De.nx ς G):D.nx σ H:=h.nx ς σ G H hς hG (Fr.refl _ _) q
def LD.with    (h:LD X H G De D)(hn:∀ς' σ' G' H',SR X.K H' ς' σ'->HR X.K H' G'->Fr H G H' G'->k ς' G'->D'.nx σ' H')(hr:D'.rt=D.rt):LD X H G { De with nx:=k } D':=
 ⟨hn,λw v G' H' a b c d=>by rw[hr];exact h.rt w v G' H' a b c d,h.ex⟩
section
variable {X:Cx}{st:Stmt}{rest:List Stmt}{pos:Pos}{e:Expr}{te:UE}{t u:US}
def s_nil  : PSs X [] (lS X λD ς G=>D.nx ς G):=jf8.imp λD σ H ⟨De,ς,G,hς,hG,h,ld⟩=>ld.here hς hG h
def s_cons  (h1:PS X st (lS X t))(h2:PSs X rest (lS X u)):PSs X (st::rest) (lS X λD ς G=>t { D with nx:=λς' G'=>u D ς' G' } ς G):=by
 refine(jeU h1 h2).imp λD σ H ⟨De,ς,G,hς,hG,h,ld⟩=>?_;exact⟨_,ς,G,hς,hG,h,ld.with (λς' σ' G' H' a b c d=>⟨De,ς',G',a,b,d,ld.fr c⟩) rfl⟩
def s_expr  (he:PE X e (lE X te))(hs:Ycg e none pos.line X.env=pure false):PS X (.Expr e pos) (lS X λD ς G=>te ς G (λ_ G1=>D.nx ς G1) λx G1=>D.ex x ς G1):=
 (jlN he hs).imp λD σ H ⟨De,ς,G,hς,hG,h,ld⟩=>⟨ς,G,_,_,hς,hG,h,λw v G' H' _ hr f q=>ld.nx ς σ G' H' (hς.ts (f.ts hG)) hr f q,ld.lx hς hG⟩
def s_ret  (he:PE X e (lE X te)):PS X (.Return (some e) pos) (lS X λD ς G=>te ς G D.rt λx G1=>D.ex x ς G1):=
 (jnB he).imp λD σ H ⟨De,ς,G,hς,hG,h,ld⟩=>⟨ς,G,_,_,hς,hG,h,λw v G' H' r hr f q=>ld.rt w v G' H' r hr f q,ld.lx hς hG⟩
def s_if     (hc:PT X c (lT X tc))(ha:PSs X a (lS X t))(hb:PSs X b (lS X u)):PS X (.If c a b pos) (lS X λD ς G=>tc ς G (λx G1=>if x=true then t D ς G1 else u D ς G1) λx G1=>D.ex x ς G1):=by
 refine(jnE hc ha hb).imp λD σ H ⟨De,ς,G,hς,hG,h,ld⟩=>⟨ς,G,_,_,hς,hG,h,λb G' H' hr f q=>?_,ld.lx hς hG⟩;cases b with
 |true=>rw[if_pos rfl]at q ⊢;exact⟨De,ς,G',hς.ts (f.ts hG),hr,q,ld.fr f⟩
 |false=>rw[if_neg Yaj]at q ⊢;exact⟨De,ς,G',hς.ts (f.ts hG),hr,q,ld.fr f⟩
def jmV      (h:lS X (λD ς G=>te ς G (λu G1=>tgU g u ς λς'=>D.nx ς' G1) λx G1=>D.ex x ς G1) D σ H) :
  lE X te σ H λx H1=>lG X.K (tgU g) x σ H1 D.nx:=by
 obtain⟨De,ς,G,hς,hG,h,ld⟩:=h;exact⟨ς,G,_,_,hς,hG,h,λw v G' H' r hr f q=>⟨w,ς,_,r,hς.ts (f.ts hG),q,λς' σ' hs hk=>ld.nx ς' σ' G' H' hs hr f hk⟩,ld.lx hς hG⟩
def s_asg {tg:Expr}{g:Tg}(he:PE X e (lE X te))(hg:PG X tg (lG X.K (tgU g)))(hs:Ybz [tg] e pos.line X.env=pure false)(hw:Ybh [tg] e X.env=pure none)
  (h1:(Ybg [tg] X.env).map (·.2)=[assign tg X.env]):PS X (.Assign [tg] e pos) (lS X λD ς G=>te ς G (λu G1=>tgU g u ς λς'=>D.nx ς' G1) λx G1=>D.ex x ς G1):=
 (jis he hg hs hw h1).imp λ_ _ _ h=>jmV h
def s_lc            
  (hN:X.N.Nodup) (hi':X.N[i]?=some y) (hy:X.env.scope.names.lookup y=some .local) (hc:X.calm=true) (S:CScope X N pick scope) (hw:PI X tg iter (lI X ti)) (hp:(tgS g).all (λi=>(pick[i]?).join.isNone)=true)
  (hg:∀cl C s₀ H₀ fp,PG (jaq X N scope cl C s₀ H₀ fp) tg (lG X.K (tgU g))) (hi:∀cl C s₀ H₀ fp,PIfs (jaq X N scope cl C s₀ H₀ fp) ifs (lT0 X.K tc)) (he:∀cl C s₀ H₀ fp,PE (jaq X N scope cl C s₀ H₀ fp) elt (lE0 X.K te))
  (hsw:Ycg (.ListComp elt [⟨tg,iter,ifs,0⟩] scope pos) (some (.Name y py)) spos.line X.env=pure true) (hs:∀x,Ya0 iter X.env x=pure x) :
  PS X (.Assign [.Name y py] (.ListComp elt [⟨tg,iter,ifs,0⟩] scope pos) spos) (lS X λD ς G=>lcD pick ti g tc te ς G (λu G1=>tgU (.n i) u ς λς'=>D.nx ς' G1) λx G1=>D.ex x ς G1):=by
 refine(jpK hN hi' hy hc S hw hg hi he hsw hs).imp λD σ H h=>?_;obtain⟨De,ς,G,hς,hG,h,ld⟩:=h;exact jkW hp ⟨ς,G,_,_,hς,hG,h,λw v G' H' r hr f q=>ld.nx _ _ G' H' ((hς.ts (f.ts hG)).set r i) hr f q,ld.lx hς hG⟩
def jnx  : TSet:=λo i v H Q=>∃a H',o=.ref a/\DPut H a i v H'/\Q H'
def jjP  (hu:X.A.units+1<cLine):PSet X jnx:=by
 intro pins s σ H o i v ov iv u Q I ro ri rv h;obtain⟨a,H',rfl,g,q⟩:=h;cases ro;exact jjn hu I g ri rv λs' I'=>⟨H',I',q⟩
def _root_.L2.PSet.or {t t':TSet}(h:PSet X t)(h':PSet X t'):PSet X λo i v H Q=>t o i v H Q\/t' o i v H Q:=by
 intro pins s σ H o i v ov iv u Q I ro ri rv q;rcases q with q|q
 ·exact h pins s σ H o i v ov iv u Q I ro ri rv q
 ·exact h' pins s σ H o i v ov iv u Q I ro ri rv q
def jlB       {Q0:Hp->Prop}(rx:RU X.K H x v)(ry:RU X.K H y v')(rw':RU X.K H w v'')(hG:HR X.K H G)(h:setU x y w G k)
  (q:∀G' H',HR X.K H' G'->Fr H G H' G'->k G'->Q0 H'):jnw v v' v'' H Q0\/jnx v v' v'' H Q0:=by
 cases x with
 |loc a=>
  cases rx;unfold setU at h;dsimp only at h;split at h
  ·rename_i xs g;obtain⟨vs,e,rs⟩:=hG.lst g;cases y with
   |int i=>
    cases ry;dsimp only at h;split at h
    ·rename_i j ej;refine .inl ⟨a,vs,i,j,rfl,rfl,e,by rw[<- rs.length];exact ej,?_⟩
     exact q _ _ (hG.write (mo':=.lst (xs.set j w)) g ⟨_,jaj,(rs.set rw' j).ts (TS.write hG g)⟩) (Fr.write g) h.at
    lia
   |_=>lia
  ·rename_i kvs g;obtain⟨l,e,rs⟩:=hG a _ g;split at h
   ·rename_i k' ek;have:=jfy ry ek;subst this;refine .inr ⟨a,_,rfl,DPut.k e (by rw[<- rs.length];exact h.1),?_⟩
    exact q _ _ (hG.write (mo':=.dK (dPut kvs k' w)) g ⟨_,jaj,(rs.put rw').ts (TS.write hG g)⟩) (Fr.write g) h.2.at
   lia
  ·rename_i kvs g;obtain⟨l,e,rs⟩:=hG a _ g;cases y with
   |tup ys=>
    obtain⟨b,ws,rfl,eb,rb⟩:=ry;dsimp only at h;split at h
    ·rename_i k' ek;have:=jhb rb ek;subst this;refine .inr ⟨a,_,rfl,DPut.t e eb (by rw[<- rs.length];exact h.1),?_⟩
     exact q _ _ (hG.write (mo':=.dT (dPut kvs k' w)) g ⟨_,jaj,(rs.put rw').ts (TS.write hG g)⟩) (Fr.write g) h.2.at
    lia
   |_=>lia
  lia
 |_=>exact h.elim
def s_set {o i:Expr}{to ti:UE}{tpos:Pos}(hu:X.A.units+1<cLine)(he:PE X e (lE X te))(ho:PE X o (lE X to))(hi:PE X i (lE X ti))(hs:Ybz [.Subscript o i tpos] e pos.line X.env=pure false)(hw:Ybh [.Subscript o i tpos] e X.env=pure none)
  (h1:(Ybg [.Subscript o i tpos] X.env).map (·.2)=[assign (.Subscript o i tpos) X.env]) (ha:∀v,assign (.Subscript o i tpos) X.env v=(do
   let ov <- holding [v] (eval o X.env)
   let iv <- holding [v,ov] (eval i X.env)
   standAt tpos
   holding [v,ov,iv] (setItem ov iv v)
   release [v,ov,iv] [])):PS X (.Assign [.Subscript o i tpos] e pos) (lS X λD ς G=>te ς G (λv G1=>to ς G1 (λx G2=>ti ς G2 (λy G3=>setU x y v G3 λG4=>D.nx ς G4) λx G1=>D.ex x ς G1) λx G1=>D.ex x ς G1) λx G1=>D.ex x ς G1):=by
 refine(jis he (jnJ ho hi (PSet.or jjO (jjP hu)) ha) hs hw h1).imp λD σ H ⟨De,ς,G,hς,hG,h,ld⟩=>?_;refine⟨ς,G,_,_,hς,hG,h,λw v G1 H1 rw' hG1 f1 h1=>?_,ld.lx hς hG⟩;have hς1:=hς.ts (f1.ts hG);refine⟨ς,G1,_,_,hς1,hG1,h1,λx vx G2 H2 rx hG2 f2 h2=>?_,(ld.fr f1).lx hς1 hG1⟩;have hς2:=hς1.ts (f2.ts hG1);refine⟨ς,G2,_,_,hς2,hG2,h2,λy vy G3 H3 ry hG3 f3 h3=>?_,(ld.fr (f1.trans f2)).lx hς2 hG2⟩;have hς3:=hς2.ts (f3.ts hG2);exact jlB (rx.ts (f3.ts hG2)) ry ((rw'.ts (f2.ts hG1)).ts (f3.ts hG2)) hG3 h3 λG' H' hr f q=>ld.nx ς σ G' H' (hς3.ts (f.ts hG3)) hr (((f1.trans f2).trans f3).trans f) q
def IpU  (X:Cx)(o:Yd8):Prop:=∃r:TIp,PIp X o r/\∀x y v v' G H Q Q0,RU X.K H x v->RU X.K H y v'->HR X.K H G->jgt o x y G Q->LV X H G Q Q0->r v v' H Q0
def joE   o:IpU X o:=by
 cases o with
 |Add=>
  refine⟨_,(OpR.or (jmB (X:=X)) jgr),λx y v v' G H Q Q0 rx ry hG h lv=>?_⟩;cases x<;>try exact h.elim
  ·cases y<;>try exact h.elim
   cases rx;cases ry;exact .inl ⟨_,_,rfl,rfl,lv.int hG h⟩
  ·cases y<;>try exact h.elim
   cases rx;cases ry;exact .inr ⟨_,_,rfl,rfl,h.1,lv.str hG h.2⟩
 |Sub=>
  refine⟨_,jmz (X:=X),λx y v v' G H Q Q0 rx ry hG h lv=>?_⟩;cases x<;>try exact h.elim
  cases y<;>try exact h.elim
  cases rx;cases ry;exact⟨_,_,rfl,rfl,lv.int hG h⟩
 |Mult=>
  refine⟨_,jmA (X:=X),λx y v v' G H Q Q0 rx ry hG h lv=>?_⟩;cases x<;>try exact h.elim
  cases y<;>try exact h.elim
  cases rx;cases ry;exact⟨_,_,rfl,rfl,h.1,lv.int hG h.2⟩
 |_=>exact⟨λ_ _ _ _=>False,λ_ _ _ _ _ _ _ _ _ _ _ _ h=>h.elim,λ_ _ _ _ _ _ _ _ _ _ _ h _=>h.elim⟩
def s_aug      (hN:X.N.Nodup)(hi:X.N[i]?=some x)(hx:Loc X.env.scope x)(hf:X.fn x=true\/X.env.scope.names.lookup x=some .local)(he:PE X e (lE X te)) :
  PS X (.AugAssign (.Name x pos') o e pos) (lS X λD ς G=>slot ς i λx=>te ς G (λy G1=>jgt o x y G1 λz G2=>D.nx (ς.set i (some z)) G2) λx G1=>D.ex x ς G1):=by
 obtain⟨r,h1,h2⟩:=joE (X:=X) o;refine(jnG hN hi hx he h1 hf).imp λD σ H ⟨De,ς,G,hς,hG,h,ld⟩=>?_;dsimp only at h;unfold slot at h;split at h
 ·rename_i u eu;obtain⟨v,ev,ru⟩:=hς.2 i u eu;refine⟨v,ev,ς,G,_,_,hς,hG,h,λy vy G1 H1 ry hG1 f1 h1=>?_,ld.lx hς hG⟩;exact h2 u y v vy G1 H1 _ _ (ru.ts (f1.ts hG)) ry hG1 h1 λw vw G2 H2 rw' hr2 f2 q=>ld.nx _ _ G2 H2 (((hς.ts (f1.ts hG)).ts (f2.ts hG1)).set rw' i) hr2 (f1.trans f2) q
 lia
def _root_.L2.PGet.or {t t':V->V->Hp->VK->Prop}(h:PGet X t)(h':PGet X t'):PGet X λo i H Q=>t o i H Q\/t' o i H Q:=by
 intro pins s σ H o i ov iv Q I ro ri q;rcases q with q|q
 ·exact h pins s σ H o i ov iv Q I ro ri q
 ·exact h' pins s σ H o i ov iv Q I ro ri q
def s_par2        (hc:X.calm=true)(hN:X.N.Nodup)(hi:X.N[i]?=some x)(hj:X.N[j]?=some y)(hij:i≠j)
  (hx:X.env.scope.names.lookup x=some .local) (hy:X.env.scope.names.lookup y=some .local) (ha:PA X [a,b] (lA X ts))
  (hw:Ybh [.Tuple [.Name x px,.Name y py] kt pt] (.Tuple [a,b] k2 pt2) X.env=pure (some [x,y])) (hs:Ybz [.Tuple [.Name x px,.Name y py] kt pt] (.Tuple [a,b] k2 pt2) pos.line X.env=pure false) :
  PS X (.Assign [.Tuple [.Name x px,.Name y py] kt pt] (.Tuple [a,b] k2 pt2) pos) (lS X λD ς G=>ts ς G (λus G1=>us.length=[i,j].length/\D.nx (([i,j].zip us).foldl (λs p=>s.set p.1 (some p.2)) ς) G1) λx G1=>D.ex x ς G1):=by
 refine(jnC hc hN hi hj hij hx hy ha hw hs).imp λD σ H ⟨De,ς,G,hς,hG,h,ld⟩=>?_;refine⟨ς,G,_,_,hς,hG,h,λus vs G1 H1 rs hG1 f1 h1=>?_,ld.lx hς hG⟩;obtain⟨h1,h2⟩:=h1
 match us,h1,h2,rs with
 |[u,w],_,h2,rs=>
  obtain⟨v,v',rfl,r1,r2⟩:=rs.two;exact⟨v,v',rfl,ld.nx _ _ G1 H1 (((hς.ts (f1.ts hG)).set r1 i).set r2 j) hG1 f1 h2⟩
def s_for       (hp:Yc5 (model X.prog X.w) X.A X.env X.xe)(hc:X.calm=true)(hi:PI X tg iter (lI X ti))(hg:PG X tg (lG X.K (tgU g)))(hb:PSs X body (lS X tb))
  (hs:∀x,Ya0 iter X.env x=pure x):PS X (.For tg iter body [] pos) (lS X λD ς G=>ti ς G (λxs ok G1=>forL ok (λx ς1 G2 k=>tgU g x ς1 λς2=>tb { D with nx:=k } ς2 G2) xs ς G1 D.nx) λx G1=>D.ex x ς G1):=by
 refine(jnF hp hc hi hg hb hs).imp λD σ H ⟨De,ς,G,hς,hG,h,ld⟩=>?_;refine⟨ς,G,_,_,hς,hG,h,λxs ok G1 H1 J hG1 f1 wk h1=>?_,ld.lx hς hG⟩;refine⟨λi m σ' H'=>m=xs.length-i/\i<=xs.length/\∃ς' G',SR X.K H' ς' σ'/\HR X.K H' G'/\Fr H1 G1 H' G'/\forL ok (λx ς1 G2 k=>tgU g x ς1 λς2=>tb { De with nx:=k } ς2 G2) (xs.drop i) ς' G' De.nx,⟨xs.length,by simp,Ya8 _,ς,G1,hς.ts (f1.ts hG),hG1,Fr.refl _ _,by simp_all⟩,?_⟩
 rintro i m σ' H' ⟨rfl,hi',ς',G',sr,hr,f,hc'⟩;by_cases hlt:i<xs.length
 ·rw[YcN hlt]at hc';obtain⟨hok,hb'⟩:=hc';obtain⟨w1,_⟩:=wk i H' G' (f.ts hG1) hr hok;obtain⟨go,yl⟩:=w1 xs[i] (by simp[hlt])
  refine .inr ⟨go,λσ2 H2=>∃ς2 G2,SR X.K H2 ς2 σ2/\HR X.K H2 G2/\Fr H1 G1 H2 G2/\forL ok (λx ς1 G2 k=>tgU g x ς1 λς2=>tb { De with nx:=k } ς2 G2) (xs.drop (i+1)) ς2 G2 De.nx,λσ2 H2 q=>⟨xs.length-(i+1),by lia,rfl,hlt,q⟩,λv H'' y=>?_⟩
  obtain⟨rx,hr2,f2⟩:=yl v H'' y;refine⟨xs[i],ς',_,rx,sr.ts (f2.ts hr),hb',λς2 σ2 hs2 hk=>?_⟩;have f3:=(f1.trans f).trans f2;refine⟨_,ς2,G',hs2,hr2,hk,(ld.fr f3).with (λς3 σ3 G3 H3 a b c d=>⟨ς3,G3,a,b,(f.trans f2).trans c,d⟩) rfl⟩
 ·have e:i=xs.length:=by lia
  subst e;rw[YfT]at hc';obtain⟨hok,q⟩:=hc';exact .inl ⟨(wk xs.length H' G' (f.ts hG1) hr hok).2 rfl,ld.nx ς' σ' G' H' sr hr (f1.trans f) q⟩
def s_wh      (hp:Yc5 (model X.prog X.w) X.A X.env X.xe)(hc:PT X c (lT X tc))(hb:PSs X body (lS X tb)) :
  PS X (.While c body [] pos) (lS X λD ς G=>∃W:Nat->Sg->Gp->Prop,(∃m,W m ς G)/\∀m ς1 G1,W m ς1 G1->
   tc ς1 G1 (λt G2=>if t=true then tb { D with nx:=λς' G'=>∃m',m'<m/\W m' ς' G' } ς1 G2 else D.nx ς1 G2) λx G1=>D.ex x ς1 G1):=by
 refine(jjV hp hc hb).imp λD σ H ⟨De,ς,G,hς,hG,h,ld⟩=>?_;obtain⟨W,⟨m0,w0⟩,turn⟩:=h;refine⟨λm σ' H'=>∃ς' G',SR X.K H' ς' σ'/\HR X.K H' G'/\Fr H G H' G'/\W m ς' G',⟨m0,ς,G,hς,hG,Fr.refl _ _,w0⟩,?_⟩;rintro m σ' H' ⟨ς',G',sr,hr,f,w⟩;refine⟨ς',G',_,_,sr,hr,turn m ς' G' w,λb G2 H2 hr2 f2 q=>?_,(ld.fr f).lx sr hr⟩;cases b with
 |true=>
  rw[if_pos rfl]at q ⊢;refine⟨λσ3 H3=>∃ς3 G3,SR X.K H3 ς3 σ3/\HR X.K H3 G3/\Fr H G H3 G3/\∃m',m'<m/\W m' ς3 G3,λσ3 H3 ⟨ς3,G3,a,b,c,m',hm,w'⟩=>⟨m',hm,ς3,G3,a,b,c,w'⟩,?_⟩;exact⟨_,ς',G2,sr.ts (f2.ts hr),hr2,q,(ld.fr (f.trans f2)).with (λς3 σ3 G3 H3 a b c d=>⟨ς3,G3,a,b,(f.trans f2).trans c,d⟩) rfl⟩
 |false=>
  rw[if_neg Yaj]at q ⊢;exact ld.nx ς' σ' G2 H2 (sr.ts (f2.ts hr)) hr2 (f.trans f2) q
end
structure Ctx where
 N:List Str
 sc:List (Str×Ybv)
noncomputable def kd  (c:Ctx)(x:Str)(k:Ybv):Bool:=c.sc.lookup x==some k
def glo  (c:Ctx)(x:Str):Bool:=kd c x .globalImplicit && !(x==("__debug__" : Str))
noncomputable def nm1  : Expr->List Str
 |.Name x _=>[x]
 |_=>[]
def nm2  : Expr->List Str
 |.Tuple es _ _=>es.flatMap nm1
 |e=>nm1 e
def jlt  : Expr->List Str
 |.Tuple es _ _=>es.flatMap nm2
 |e=>nm1 e
noncomputable def jh8  : List String:=["bool", "int", "str", "list", "tuple", "dict"]
def cOkS  (c:Ctx)(N:List Str)(pick:List (Option Nat))(scope:Scope):Bool:=
 decide (scope.kind=.function)&&scope.names.all (λy=>y.2 != .cell||scope.names.lookup y.1==some .cell)&&scope.names.all (λy=>y.2 != .local||scope.names.lookup y.1==some .local)
  && scope.names.all (λy=>y.2 != .free||(scope.names.lookup y.1==some .free&&(kd c y.1 .cell||kd c y.1 .free)))
  && pick.length==N.length&&(N.zip pick).all (λp=>match p.2 with|none=>true|some j=>c.N[j]?==some p.1&&scope.names.lookup p.1==some .free)&&decide N.Nodup
noncomputable def jkR  : Expr->Bool
 |.Call (.Name _ _) [] [] _=>false
 |_=>true
noncomputable def e0  : Expr:=.Name "" ⟨0,0,0,0⟩
def hd  : List Expr->Expr
 |[]=>e0
 |e::_=>e
def c0  : Expr->Expr
 |.BinOp l _ _ _=>l
 |.UnaryOp _ x _=>x
 |.IfExp t _ _ _=>t
 |.Compare l _ _ _=>l
 |.Subscript v _ _=>v
 |.Attribute v _ _=>v
 |.Call f _ _ _=>f
 |.ListComp e _ _ _=>e
 |.FormattedValue v _ _ _=>v
 |_=>e0
def c1  : Expr->Expr
 |.BinOp _ _ r _=>r
 |.IfExp _ b _ _=>b
 |.Subscript _ s _=>s
 |_=>e0
def c2  : Expr->Expr
 |.IfExp _ _ b _=>b
 |_=>e0
noncomputable def cl  : Expr->List Expr
 |.BoolOp _ vs _=>vs
 |.Compare _ _ vs _=>vs
 |.Call _ vs _ _=>vs
 |.List vs _=>vs
 |.Tuple vs _ _=>vs
 |.Dict _ vs _=>vs
 |.JoinedStr vs _=>vs
 |_=>[]
noncomputable def kk  : Expr->Nat
 |.Constant _ k _=>k
 |.Tuple _ k _=>k
 |_=>0
def oe  : Option Expr->Expr
 |some e=>e
 |none=>e0
def dk  : Expr->List Expr
 |.Dict ks _ _=>ks.map oe
 |_=>[]
def gen1  : Expr->Yeb
 |.ListComp _ (g::_) _ _=>g
 |_=>⟨e0,e0,[],0⟩
noncomputable def scp  : Expr->Scope
 |.ListComp _ _ s _=>s
 |_=>⟨.module,[],false,false,[]⟩
def s0  : Expr->Expr
 |.Slice (some e) _ _ _=>e
 |_=>e0
def s1  : Expr->Expr
 |.Slice _ (some e) _ _=>e
 |_=>e0
def s2  : Expr->Expr
 |.Slice _ _ (some e) _=>e
 |_=>e0
noncomputable def nmA  (c:Ctx)(i:Nat):Str:=c.N.getD i ""
noncomputable def boU  : Bool->PySem.BoolOp
 |true=>.And
 |false=>.Or
noncomputable def jbT  : Es->Nat
 |.nil=>0
 |.cons _ es=>jbT es+1
noncomputable def jfe  : Tgs->Nat
 |.nil=>0
 |.cons _ ts=>jfe ts+1
noncomputable def isLc  : E->Bool
 |.lc ..=>true
 |_=>false
def cc  (c:Ctx)(pick:List (Option Nat))(h:Expr):Ctx:=⟨jlt (gen1 h).target++(pick.filterMap id).filterMap (λj=>c.N[j]?),(scp h).names⟩
mutual
noncomputable def unTg (c:Ctx):Tg->Expr->Expr
 |.n i,h=>.Name (nmA c i) h.pos
 |.t ts,h=>.Tuple (jfd c ts (cl h)) (kk h) h.pos
noncomputable def jfd (c:Ctx):Tgs->List Expr->List Expr
 |.nil,_=>[]
 |.cons t ts,hs=>unTg c t (hd hs)::jfd c ts hs.tail
end
def okN  (c:Ctx)(i:Nat):Bool:=decide (i<c.N.length)&&(kd c (nmA c i) .local||kd c (nmA c i) .cell)
mutual
noncomputable def okTg (c:Ctx):Tg->Bool
 |.n i=>okN c i
 |.t ts=>jmh c ts
noncomputable def jmh (c:Ctx):Tgs->Bool
 |.nil=>true
 |.cons t ts=>okTg c t&&jmh c ts
end
section
variable (T:Tab)
noncomputable def fnN (n:Nat):Str:=match T.funs[n]? with
 |some d=>d.name
 |none => ""
mutual
noncomputable def unE (c:Ctx):E->Expr->Expr
 |.v i,h=>.Name (nmA c i) h.pos
 |.non,h=>.Constant .none (kk h) h.pos
 |.bl b,h=>.Constant (.bool b) (kk h) h.pos
 |.int i,h=>.Constant (.int i) (kk h) h.pos
 |.str x,h=>.Constant (.str x) (kk h) h.pos
 |.g n,h=>.Name (T.gn.getD n "") h.pos
 |.ty n,h=>.Name (YbN n) h.pos
 |.bin o a b,h=>.BinOp (unE c a (c0 h)) o (unE c b (c1 h)) h.pos
 |.neg a,h=>.UnaryOp .USub (unE c a (c0 h)) h.pos
 |.not a,h=>.UnaryOp .Not (unE c a (c0 h)) h.pos
 |.bop k a es,h=>.BoolOp (boU k) (unE c a (hd (cl h))::unEs c es (cl h).tail) h.pos
 |.cmp o a b,h=>.Compare (unE c a (c0 h)) [o] [unE c b (hd (cl h))] h.pos
 |.cmp2 o p a b d,h=>.Compare (unE c a (c0 h)) [o,p] [unE c b (hd (cl h)),unE c d (hd (cl h).tail)] h.pos
 |.ife t a b,h=>.IfExp (unE c t (c0 h)) (unE c a (c1 h)) (unE c b (c2 h)) h.pos
 |.tup es,h=>.Tuple (unEs c es (cl h)) (kk h) h.pos
 |.lst es,h=>.List (unEs c es (cl h)) h.pos
 |.dic es,h=>.Dict (unK c es (dk h)) (unV c es (cl h)) h.pos
 |.ix a b,h=>.Subscript (unE c a (c0 h)) (unE c b (c1 h)) h.pos
 |.sl a lo hi,h=>.Subscript (unE c a (c0 h)) (.Slice (unO c lo (s0 (c1 h))) (unO c hi (s1 (c1 h))) none (c1 h).pos) h.pos
 |.rev a b,h=>.Subscript (unE c a (c0 h)) (.Slice none none (some (unE c b (s2 (c1 h)))) (c1 h).pos) h.pos
 |.call n es,h=>.Call (.Name (fnN T n) (c0 h).pos) (unEs c es (cl h)) [] h.pos
 |.app i es,h=>.Call (.Name (nmA c i) (c0 h).pos) (unEs c es (cl h)) [] h.pos
 |.blt b es,h=>.Call (.Name (bltN b) (c0 h).pos) (unEs c es (cl h)) [] h.pos
 |.meth m o es,h=>.Call (.Attribute (unE c o (c0 (c0 h))) (mthN m) (c0 h).pos) (unEs c es (cl h)) [] h.pos
 |.lc pick t it ifs d,h=>.ListComp (unE (cc c pick h) d (c0 h)) [⟨unTg (cc c pick h) t (gen1 h).target,unI c it (gen1 h).iter,unEs (cc c pick h) ifs (gen1 h).ifs,0⟩] (scp h) h.pos
 |.mkL d,h=>.Call (.Name "list" (c0 h).pos) [unE c d (hd (cl h))] [] h.pos
 |.mkT d,h=>.Call (.Name "tuple" (c0 h).pos) [unE c d (hd (cl h))] [] h.pos
 |.rngL d,h=>.Call (.Name "list" (c0 h).pos) [.Call (.Name "range" (c0 (hd (cl h))).pos) [unE c d (hd (cl (hd (cl h))))] [] (hd (cl h)).pos] [] h.pos
noncomputable def unO (c:Ctx):Eo->Expr->Option Expr
 |.no,_=>none
 |.so d,h=>some (unE c d h)
noncomputable def unEs (c:Ctx):Es->List Expr->List Expr
 |.nil,_=>[]
 |.cons d es,hs=>unE c d (hd hs)::unEs c es hs.tail
noncomputable def unK (c:Ctx):Es->List Expr->List (Option Expr)
 |.cons d (.cons _ es),hs=>some (unE c d (hd hs))::unK c es hs.tail
 |_,_=>[]
noncomputable def unV (c:Ctx):Es->List Expr->List Expr
 |.cons _ (.cons d es),hs=>unE c d (hd hs)::unV c es hs.tail
 |_,_=>[]
noncomputable def unF (c:Ctx):Es->List Expr->List Expr
 |.nil,_=>[]
 |.cons d es,hs=>(match d with
  |.str x=>.Constant (.str x) (kk (hd hs)) (hd hs).pos
  |d=>.FormattedValue (unE c d (c0 (hd hs))) (-1) none (hd hs).pos)::unF c es hs.tail
noncomputable def unI (c:Ctx):It->Expr->Expr
 |.e d,h=>unE c d h
 |.r1 d,h=>.Call (.Name "range" (c0 h).pos) [unE c d (hd (cl h))] [] h.pos
 |.r2 a b,h=>.Call (.Name "range" (c0 h).pos) [unE c a (hd (cl h)),unE c b (hd (cl h).tail)] [] h.pos
end
mutual
noncomputable def okE (c:Ctx):E->Expr->Bool
 |.v i,_=>decide (i<c.N.length)&&(kd c (nmA c i) .local||kd c (nmA c i) .cell||kd c (nmA c i) .free) && !(nmA c i==("__debug__" : Str)) && !(nmA c i==("__classdict__" : Str))
 |.non,_=>true
 |.bl _,_=>true
 |.int _,_=>true
 |.str _,_=>true
 |.g n,_=>decide (n<T.gs.length)&&decide (n<T.gn.length)&&glo c (T.gn.getD n "")
 |.ty n,_=>jh8.contains n&&glo c (YbN n)
 |.bin _ a b,h=>okE c a (c0 h)&&okE c b (c1 h)
 |.neg a,h=>okE c a (c0 h)
 |.not a,h=>okE c a (c0 h)
 |.bop _ a es,h=>okE c a (hd (cl h))&&okEs c es (cl h).tail
 |.cmp o a b,h=>okE c a (c0 h)&&okE c b (hd (cl h)) && !behindInMarks o (unE T c b (hd (cl h)))
 |.cmp2 o p a b d,h=>okE c a (c0 h)&&okE c b (hd (cl h))&&okE c d (hd (cl h).tail) && !lastMarks [o,p] [unE T c b (hd (cl h)),unE T c d (hd (cl h).tail)]
 |.ife t a b,h=>okE c t (c0 h)&&okE c a (c1 h)&&okE c b (c2 h)
 |.tup es,h=>okEs c es (cl h)
 |.lst es,h=>okEs c es (cl h)
 |.dic es,h=>okD c es (dk h) (cl h)&&decide (jbT es<=30)
 |.ix a b,h=>okE c a (c0 h)&&okE c b (c1 h)
 |.sl a lo hi,h=>okE c a (c0 h)&&okO c lo (s0 (c1 h))&&okO c hi (s1 (c1 h))
 |.rev a b,h=>okE c a (c0 h)&&okE c b (s2 (c1 h))
 |.call n es,h=>decide (n<T.funs.length)&&glo c (fnN T n)&&okEs c es (cl h)
 |.app i es,h=>decide (i<c.N.length)&&(kd c (nmA c i) .local||kd c (nmA c i) .cell||kd c (nmA c i) .free) && !(nmA c i==("__debug__" : Str)) && !(nmA c i==("__classdict__" : Str))&&okEs c es (cl h)
 |.blt b es,h=>decide (0<jbT es)&&glo c (bltN b)&&okEs c es (cl h)
 |.meth _ o es,h=>okE c o (c0 (c0 h))&&okEs c es (cl h)&&((c0 h).pos.endLine==h.pos.line)&&decide (jbT es<30)&&jkR (unE T c o (c0 (c0 h)))
 |.lc pick t it ifs d,h=>cOkS c (cc c pick h).N pick (scp h)&&(tgS t).all (λi=>(pick[i]?).join.isNone)&&okTg (cc c pick h) t&&okI c t it (gen1 h).iter&&okEs (cc c pick h) ifs (gen1 h).ifs&&decide (jbT ifs<=1)&&okE (cc c pick h) d (c0 h)
 |.mkL d,h=>glo c "list" && okE c d (hd (cl h))
 |.mkT d,h=>glo c "tuple" && okE c d (hd (cl h))
 |.rngL d,h=>glo c "list" && glo c "range" && okE c d (hd (cl (hd (cl h))))
noncomputable def okO (c:Ctx):Eo->Expr->Bool
 |.no,_=>true
 |.so d,h=>okE c d h
noncomputable def okEs (c:Ctx):Es->List Expr->Bool
 |.nil,_=>true
 |.cons d es,hs=>okE c d (hd hs)&&okEs c es hs.tail
noncomputable def okD (c:Ctx):Es->List Expr->List Expr->Bool
 |.nil,_,_=>true
 |.cons d (.cons f es),hs,gs=>okE c d (hd hs)&&okE c f (hd gs)&&okD c es hs.tail gs.tail
 |.cons _ .nil,_,_=>false
noncomputable def okF (c:Ctx):Es->List Expr->Bool
 |.nil,_=>true
 |.cons d es,hs=>(match d with
  |.str x=>decide (x.length<=10000)
  |d=>okE c d (c0 (hd hs)))&&okF c es hs.tail
noncomputable def okI (c:Ctx)(t:Tg):It->Expr->Bool
 |.e d,h=>okE c d h
 |.r1 d,h=>glo c "range" && okE c d (hd (cl h))
 |.r2 a b,h=>glo c "range" && okE c a (hd (cl h))&&okE c b (hd (cl h).tail)
end
noncomputable def jkJ  (ts:List Expr):Nat:=(ts.head?.map (·.pos.line)).getD 0
def jan  (c:Ctx)(ts:List Expr):List Str:=ts.filterMap fun
  |.Name id pos=>if c.sc.lookup id==some .local&&pos.line==jkJ ts then some id else none
  |_=>none
noncomputable def jhc  : Expr->Bool
 |.Starred ..=>true
 |_=>false
def swapped  (c:Ctx)(ts vs:List Expr):Bool:=
 (ts.length==2||ts.length==3)&&vs.length==ts.length && !(vs.any jhc)&&(jan c ts).length==ts.length&&(jan c ts).eraseDups.length==(jan c ts).length && !(vs.all (Yfo 8)) && !(vs.all (constantsAlone 8))
def jcV  (c:Ctx)(ts vs:List Expr):Bool:=
 !(ts.length==2||ts.length==3)||vs.length != ts.length||(!(vs.any jhc)&&((jan c ts).length != ts.length||(jan c ts).eraseDups.length != (jan c ts).length||vs.all (Yfo 8)))
noncomputable def lcSw  (c:Ctx)(y:Str)(py p:Pos)(s:Scope):Bool:=c.sc.lookup y==some .local&&py.line==p.line && !(s.names.any λ(n,k)=>n==y&&(k == .local||k == .cell))
def q0  : Stmt->Expr
 |.Expr e _=>e
 |.Assign _ e _=>e
 |.Return (some e) _=>e
 |.AugAssign _ _ e _=>e
 |.If e _ _ _=>e
 |.While e _ _ _=>e
 |.For _ e _ _ _=>e
 |_=>e0
def q1  : Stmt->Expr
 |.Assign (t::_) _ _=>t
 |.AugAssign t _ _ _=>t
 |.For t _ _ _ _=>t
 |_=>e0
def qr  : Stmt->Expr
 |.Raise (some e) _ _=>e
 |_=>e0
def hTy  : Stmt->Expr
 |.Try _ (.ExceptHandler (some t) _ _ _::_) _ _ _=>t
 |_=>e0
noncomputable def hBd  : Stmt->List Stmt
 |.Try _ (.ExceptHandler _ _ b _::_) _ _ _=>b
 |_=>[]
noncomputable def hPs  : Stmt->Pos
 |.Try _ (.ExceptHandler _ _ _ p::_) _ _ _=>p
 |_=>⟨0,0,0,0⟩
noncomputable def qa  : Stmt->List Stmt
 |.Try a _ _ _ _=>a
 |.If _ a _ _=>a
 |.While _ a _ _=>a
 |.For _ _ a _ _=>a
 |_=>[]
noncomputable def qb  : Stmt->List Stmt
 |.If _ _ b _=>b
 |_=>[]
noncomputable def qh  : List Stmt->Stmt
 |[]=>.Pass ⟨0,0,0,0⟩
 |s::_=>s
noncomputable def unNs  (c:Ctx):List Nat->List Expr->List Expr
 |[],_=>[]
 |i::is,hs=>.Name (nmA c i) (hd hs).pos::unNs c is hs.tail
noncomputable def unCs  : List Nat->List Expr->List Expr
 |[],_=>[]
 |k::ks,hs=>.Name (clsN k) (hd hs).pos::unCs ks hs.tail
section
variable (c:Ctx)(n:Nat)
def unHL:HL->Expr->Expr
 |.v i,h=>.Name (nmA c i) h.pos
 |.isiV,h=>.Call (.Name "isinstance" (c0 h).pos) [.Name (nmA c n) (hd (cl h)).pos,.Name "ValueError" (hd (cl h).tail).pos] [] h.pos
 |.is1 k,h=>.Call (.Name "isinstance" (c0 h).pos) [.Name (nmA c n) (hd (cl h)).pos,.Name (clsN k) (hd (cl h).tail).pos] [] h.pos
 |.isi ks,h=>.Call (.Name "isinstance" (c0 h).pos) [.Name (nmA c n) (hd (cl h)).pos,.Tuple (unCs ks (cl (hd (cl h).tail))) (kk (hd (cl h).tail)) (hd (cl h).tail).pos] [] h.pos
def jfY:Bool×HL->Expr->Expr
 |(true,l),h=>.UnaryOp .Not (unHL c n l (c0 h)) h.pos
 |(false,l),h=>unHL c n l h
noncomputable def jgO:List (Bool×HL)->List Expr->List Expr
 |[],_=>[]
 |a::r,hs=>jfY c n a (hd hs)::jgO r hs.tail
def jgP (k:Bool)(a:Bool×HL):List (Bool×HL)->Expr->Expr
 |[],h=>jfY c n a h
 |b::r,h=>.BoolOp (boU k) (jfY c n a (hd (cl h))::jgO c n (b::r) (cl h).tail) h.pos
def unHA:HA->Expr->Expr
 |.str x,h=>.Constant (.str x) (kk h) h.pos
 |.att f,h=>.Attribute (.Name (nmA c n) (c0 h).pos) f h.pos
noncomputable def jjF:List HA->List Expr->List Expr
 |[],_=>[]
 |a::r,hs=>unHA c n a (hd hs)::jjF r hs.tail
def unHV:HV->Expr->Expr
 |.cond k a as,h=>jgP c n k a as h
 |.one a,h=>unHA c n a h
 |.bl b,h=>.Constant (.bool b) (kk h) h.pos
 |.tup as,h=>.Tuple (jjF c n as (cl h)) (kk h) h.pos
 |.lst as,h=>.List (jjF c n as (cl h)) h.pos
def jln (i:Nat)(e:HV)(h:Stmt):Stmt:=.Assign [.Name (nmA c i) (q1 h).pos] (unHV c n e (q0 h)) h.pos
def unHS:HS->Stmt->Stmt
 |.asg i e,h=>jln c n i e h
 |.ifa k a as i e,h=>.If (jgP c n k a as (q0 h)) [jln c n i e (qh (qa h))] [] h.pos
noncomputable def jfZ:List HS->List Stmt->List Stmt
 |[],_=>[]
 |s::r,hs=>unHS c n s (qh hs)::jfZ r hs.tail
end
section
variable (cs:List Nat)(c:Ctx)
def okC (k:Nat):Bool:=decide (1<=k)&&decide (k<6)&&cs.contains k&&glo c (clsN k)
def okHL:HL->Bool
 |.v i=>decide (i<c.N.length)&&(kd c (nmA c i) .local||kd c (nmA c i) .cell||kd c (nmA c i) .free) && !(nmA c i==("__debug__" : Str)) && !(nmA c i==("__classdict__" : Str))
 |.isiV=>glo c "isinstance" && glo c "ValueError"
 |.is1 k=>glo c "isinstance" && okC cs c k
 |.isi ks=>glo c "isinstance" && ks.all (okC cs c)&&decide (ks.length<=8)
def jdI (as:List (Bool×HL)):Bool:=as.all λp=>okHL cs c p.2
def okHA  : HA->Bool
 |.str _=>true
 |.att f=>fldN.contains f
def okHV:HV->Bool
 |.cond _ a as=>okHL cs c a.2&&jdI cs c as
 |.one a=>okHA a
 |.bl _=>true
 |.tup as=>as.all okHA&&decide (as.length<=8)
 |.lst as=>as.all okHA&&decide (as.length<=8)
def okHS (n:Nat):HS->Bool
 |.asg i e=>okN c i&&decide (i≠n)&&okHV cs c e
 |.ifa _ a as i e=>okHL cs c a.2&&jdI cs c as&&okN c i&&decide (i≠n)&&okHV cs c e
end
mutual
noncomputable def unS (c:Ctx):S->Stmt->Stmt
 |.expr d,h=>.Expr (unE T c d (q0 h)) h.pos
 |.asg t d,h=>.Assign [unTg c t (q1 h)] (unE T c d (q0 h)) h.pos
 |.asgC i d,h=>.Assign [.Name (nmA c i) (q1 h).pos] (unE T c d (q0 h)) h.pos
 |.setS o i d,h=>.Assign [.Subscript (unE T c o (c0 (q1 h))) (unE T c i (c1 (q1 h))) (q1 h).pos] (unE T c d (q0 h)) h.pos
 |.par is es,h=>.Assign [.Tuple (unNs c is (cl (q1 h))) (kk (q1 h)) (q1 h).pos] (.Tuple (unEs T c es (cl (q0 h))) (kk (q0 h)) (q0 h).pos) h.pos
 |.aug i o d,h=>.AugAssign (.Name (nmA c i) (q1 h).pos) o (unE T c d (q0 h)) h.pos
 |.ite t a b,h=>.If (unE T c t (q0 h)) (unSs c a (qa h)) (unSs c b (qb h)) h.pos
 |.fr t it b,h=>.For (unTg c t (q1 h)) (unI T c it (q0 h)) (unSs c b (qa h)) [] h.pos
 |.wh t b,h=>.While (unE T c t (q0 h)) (unSs c b (qa h)) [] h.pos
 |.ret d,h=>.Return (some (unE T c d (q0 h))) h.pos
 |.raise k es,h=>.Raise (some (.Call (.Name (clsN k) (c0 (qr h)).pos) (unEs T c es (cl (qr h))) [] (qr h).pos)) none h.pos
 |.tr b k n hs,h=>.Try (unSs c b (qa h)) [.ExceptHandler (some (.Name (clsN k) (hTy h).pos)) (some (nmA c n)) (jfZ c n hs (hBd h)) (hPs h)] [] [] h.pos
noncomputable def unSs (c:Ctx):Ss->List Stmt->List Stmt
 |.nil,_=>[]
 |.cons s r,hs=>unS c s (qh hs)::unSs c r hs.tail
end
def okA (c:Ctx):Tg->E->Stmt->Bool
 |.n i,.lc ..,_=>!(kd c (nmA c i) .local)
 |.t _,.lc ..,_=>false
 |.t ts,.tup es,h=>jcV c (jfd c ts (cl (q1 h))) (unEs T c es (cl (q0 h)))
 |_,_,_=>true
noncomputable def okNs  (c:Ctx):List Nat->Bool
 |[]=>true
 |i::is=>decide (i<c.N.length)&&kd c (nmA c i) .local && !(is.contains i)&&okNs c is
mutual
noncomputable def okS (c:Ctx):S->Stmt->Bool
 |.expr d,h=>okE T c d (q0 h) && !isLc d
 |.asg t d,h=>okE T c d (q0 h)&&okTg c t&&okA T c t d h
 |.asgC i d,h=>isLc d&&okE T c d (q0 h)&&decide (i<c.N.length)&&lcSw c (nmA c i) (q1 h).pos (q0 h).pos (scp (q0 h))
 |.setS o i d,h=>okE T c d (q0 h)&&okE T c o (c0 (q1 h))&&okE T c i (c1 (q1 h))
 |.par is es,h=>okEs T c es (cl (q0 h))&&okNs c is&&swapped c (unNs c is (cl (q1 h))) (unEs T c es (cl (q0 h)))&&decide (is.length=2)
 |.aug i _ d,h=>okN c i&&okE T c d (q0 h)
 |.ite t a b,h=>okE T c t (q0 h)&&okSs c a (qa h)&&okSs c b (qb h)
 |.fr t it b,h=>okTg c t&&okI T c t it (q0 h)&&okSs c b (qa h)
 |.wh t b,h=>okE T c t (q0 h)&&okSs c b (qa h)
 |.ret d,h=>okE T c d (q0 h)
 |.raise k es,h=>okC T.cs c k&&decide (0<jbT es)&&okEs T c es (cl (qr h))
 |.tr b k n hs,h=>okSs c b (qa h)&&decide (k=0)&&glo c (clsN k)&&decide (n<c.N.length)&&kd c (nmA c n) .local && !(nmA c n==("__debug__" : Str)) && !(nmA c n==("__classdict__" : Str)) && !hs.isEmpty&&hs.all (okHS T.cs c n)
noncomputable def okSs (c:Ctx):Ss->List Stmt->Bool
 |.nil,_=>true
 |.cons s r,hs=>okS c s (qh hs)&&okSs c r hs.tail
end
end
def lSp  (K:Yac)(t:List U->Gp->K1->KX->Prop):Sp:=λvs H Q0 E0=>∃us G Q E,RUs K H us vs/\HR K H G/\t us G Q E/\(∀w v G' H',RU K H' w v->HR K H' G'->Fr H G H' G'->Q w G'->Q0 v H')/\
 ∀x G' H' C dx,XD K H' C dx x->HR K H' G'->Fr H G H' G'->E x G'->E0 (.ref C) (some dx) H'
def FnU  (P:Program)(w:World)(K:Yac)(mg:Str->Option Value)(base:Heap)(k:Nat)(d:Fun)(t:List U->Gp->K1->KX->Prop):Prop:=
 ∃(f:Addr) (fd:YeL),FnOk P w K mg base (CX1 P w) (k+2) f fd d.ps (lSp K t)/\mg d.name=some (.ref f)/\Ybk K (.ref f)=true/\Binds K fd d.ps []
noncomputable def jcI  : List Str:=["len", "repr", "min", "max", "sum", "all", "any", "sorted", "int", "str", "isinstance", "range", "enumerate", "list", "tuple", "bool", "dict", "ValueError", "set", "zip"]
structure Cok (T:Tab)(k:Nat)(X:Cx)(c:Ctx):Prop where
 hN:X.N=c.N
 nd:c.N.Nodup
 loc:∀x,kd c x .local=true->X.env.scope.names.lookup x=some .local
 cel:∀x,kd c x .cell=true->X.env.scope.names.lookup x=some .cell/\X.fn x=true
 fre:∀x,kd c x .free=true->X.env.scope.names.lookup x=some .cell\/X.env.scope.names.lookup x=some .free
 glb:∀x,kd c x .globalImplicit=true->Gl X x
 room:Room k X.A
 calm:X.calm=true
 po:Yc5 (model X.prog X.w) X.A X.env X.xe
 blt:∀x∈jcI,X.mg x=none
 fns:∀(n:Nat) (d:Fun),T.funs[n]?=some d->FnU X.prog X.w X.K X.mg X.base k d (jab T k n)
 gls:∀(n:Nat) (x:Str) (u:U),T.gn[n]?=some x->T.gs[n]?=some u->∃v w,X.mg x=some w/\RelV v w/\∀H,RU X.K H u v
 room2:Room (k+2) X.A
 cls:∀n∈T.cs,1<=n->∃C,XCls X.K (gK X.K) (clsN n) (clsF n) C
 mgK:∀x v,gK X.K x=some v->X.mg x=some v
structure Cos (T:Tab)(k:Nat)(X:Cx)(c:Ctx):Prop extends Cok T k X c where
 sc:X.env.scope.names=c.sc
 kind:X.env.scope.kind=.function
 stk:X.stack=X.env::X.outer/\X.env.frame=some X.env.locals
section
variable {T:Tab}{k:Nat}{X:Cx}{c:Ctx}
def Cok.hu  (h:Cok T k X c):X.A.units+1<cLine:=jqc h.room
def Cok.vis  (h:Cok T k X c)(v:(kd c x .local||kd c x .cell||kd c x .free)=true):Vis X.env.scope x:=by
 simp only[YbD]at v;rcases v with(v|v)|v
 ·exact .inl (h.loc x v)
 ·exact .inr (.inl (h.cel x v).1)
 ·rcases h.fre x v with z|z
  ·exact .inr (.inl z)
  ·exact .inr (.inr z)
def Cok.store  (h:Cok T k X c)(v:(kd c x .local||kd c x .cell)=true):Loc X.env.scope x/\(X.fn x=true\/X.env.scope.names.lookup x=some .local):=by
 simp only[YbD]at v;rcases v with v|v
 ·exact⟨.inl (h.loc x v),.inr (h.loc x v)⟩
 ·exact⟨.inr (h.cel x v).1,.inl (h.cel x v).2⟩
def Cok.gl  (h:Cok T k X c)(v:glo c x=true):Gl X x/\(x==("__debug__" : Str))=false:=by
 unfold glo at v;rw[Yaf]at v;exact⟨h.glb x v.1,by lia⟩
end
noncomputable def jdW  : Expr->Bool
 |.BoolOp ..|.BinOp ..|.UnaryOp ..|.IfExp ..|.Dict ..|.ListComp ..|.Compare ..|.Call ..|.Constant ..|.Subscript ..|.Name ..|.List ..|.Tuple ..|.JoinedStr ..=>true
 |_=>false
section
variable {T:Tab}{c:Ctx}
def jar   ir h:jdW (unE T c ir h)=true:=by cases ir<;>rfl
def jah   (h:jdW e=true) es env:Yap (e::es) env=(false,eval e env)::Yap es env:=by
 cases e<;>first|rfl|cases h
def jmF   (h:jdW e=true):jgL e:=by
 intro o i;cases e<;>first|rfl|cases h
def jfC   (h:jdW e=true) env:∀x,Ya0 e env x=pure x:=by
 intro x;cases e<;>first|rfl|cases h
def jlk   it h env:∀x,Ya0 (unI T c it h) env x=pure x:=by
 cases it with
 |e d=>exact jfC (jar d _) env
 |_=>exact λ_=>rfl
def jkm   (h:jdW i=true) env tpos:∀v,assign (.Subscript o i tpos) env v=(holding [v] (eval o env) >>= λa=>holding [v,a] (eval i env) >>= λb=>standAt tpos >>= λ_=>holding [v,a,b] (setItem a b v) >>= λ_=>release [v,a,b] []):=by
 intro v;cases i<;>first|rfl|cases h
def jlm   (q:isLc ir=false) h env l:Ycg (unE T c ir h) none l env=pure false:=by
 cases ir<;>first|rfl|cases q
def jlj   (q:isLc ir=false) h tg env l:Ybz [tg] (unE T c ir h) l env=pure false:=by
 cases ir<;>first|rfl|cases q
def jkD   ir h x y p env l:Ybz [.Subscript x y p] (unE T c ir h) l env=pure false/\Ybh [.Subscript x y p] (unE T c ir h) env=pure none:=by
 cases ir<;>exact⟨rfl,rfl⟩
def jo5   ir h x p env:Ybh [.Name x p] (unE T c ir h) env=pure none:=by
 cases ir<;>rfl
def jll   t h env:(Ybg [unTg c t h] env).map (·.2)=[assign (unTg c t h) env]:=by
 cases t<;>rfl
def jgH   (h:jkR o=true) m env w:YcG o m env w=w:=by
 unfold YcG;split
 ·cases h
 ·rfl
theorem jb5  : ∀es hs env pos ,(backTo pos (Yap (unEs T c es hs) env)).any (·.1)=false/\(backTo pos (Yap (unEs T c es hs) env)).all (λx=>!x.1)=true
 |.nil,_,_,_=>⟨rfl,rfl⟩
 |.cons d es,hs,env,pos=>by
  obtain⟨h1,h2⟩:=jb5 es hs.tail env pos;show(backTo pos (Yap (unE T c d (hd hs)::unEs T c es hs.tail) env)).any (·.1)=false/\(backTo pos (Yap (unE T c d (hd hs)::unEs T c es hs.tail) env)).all (λx=>!x.1)=true;rw[jah (jar d _)];exact⟨by show(false||(backTo pos (Yap (unEs T c es hs.tail) env)).any (·.1))=false;lia,by show(!false&&(backTo pos (Yap (unEs T c es hs.tail) env)).all (λx=>!x.1))=true;lia⟩
theorem jh7  : ∀es hs ,(unEs T c es hs).length=jbT es
 |.nil,_=>rfl
 |.cons _ es,hs=>congrArg (·+ 1) (jh7 es hs.tail)
def ba   (h:(a&&b)=true):a=true/\b=true:=by lia
def bn   (h:(!a)=true):a=false:=by lia
def jiN   (h:decide (i<c.N.length)=true):c.N[i]?=some (nmA c i):=by
 unfold nmA
 simp_all
end
theorem jia  : ∀{ts } {us } {ς } {k },tgsU ts us ς k->us.length=jfe ts
 |.nil,us,ς,k,h=>by rw[h.1];rfl
 |.cons t ts,us,ς,k,h=>by
  cases us with
  |nil=>exact h.elim
  |cons u r=>
   have:∃ς',tgsU ts r ς' k:=tg_some h;obtain⟨ς',h'⟩:=this;show r.length+1=jfe ts+1;rw[jia h']
where
 tg_some {t:Tg} {u:U} {ς:Sg} {P:Sg->Prop} (h:tgU t u ς P):∃ς',P ς':=by
  have:=jeQ (k':=λ_=>∃ς',P ς') h λς' h'=>⟨ς',h'⟩;exact tg_const this
 tg_const:∀{t:Tg} {u:U} {ς:Sg} {P:Prop},tgU t u ς (λ_=>P)->P
  |.n _,_,_,_,h=>h
  |.t ts,u,ς,P,h=>by
   cases u with
   |tup us=>exact tgs_const (ts:=ts) (us:=us) h
   |_=>exact h.elim
 tgs_const:∀{ts:Tgs} {us:List U} {ς:Sg} {P:Prop},tgsU ts us ς (λ_=>P)->P
  |.nil,_,_,_,h=>h.2
  |.cons t ts,us,ς,P,h=>by
   cases us with
   |nil=>exact h.elim
   |cons u r=>exact tg_const (jeQ (t:=t) h λς' h'=>tgs_const h')
section
variable {T:Tab}{k:Nat}{X:Cx}{c:Ctx}
theorem jf1  : ∀ts hs env ,(Ybg (jfd c ts hs) env).length=jfe ts/\(Ybg (jfd c ts hs) env).findIdx? (·.1)=none
 |.nil,_,_=>⟨rfl,rfl⟩
 |.cons t ts,hs,env=>by
  obtain⟨h1,h2⟩:=jf1 ts hs.tail env;have e:Ybg (jfd c (.cons t ts) hs) env=(false,assign (unTg c t (hd hs)) env)::Ybg (jfd c ts hs.tail) env:=by cases t<;>rfl
  rw[e];exact⟨by simp[h1,jfe],by simp_all⟩
def Cok.nm   (C:Cok T k X c)(h:decide (i<c.N.length)=true):X.N[i]?=some (nmA c i):=by rw[C.hN];exact jiN h
mutual
theorem sTg (C:Cok T k X c):∀(t:Tg) (h:Expr),okTg c t=true->PG X (unTg c t h) (lG X.K (tgU t))
 |.n _,_,q=>let s:=C.store (ba q).2;u_tn (by rw[C.hN];exact C.nd) (C.nm (ba q).1) s.1 s.2
 |.t ts,h,q=>u_tt C.calm (sTgs C ts (cl h) q) (jf1 ts _ X.env).1 (jf1 ts _ X.env).2 λus ς k q=>jia q
theorem sTgs (C:Cok T k X c):∀(ts:Tgs) (hs:List Expr),jmh c ts=true->PGs X (jfd c ts hs) (lGs X.K (tgsU ts))
 |.nil,_,_=>jo8
 |.cons t ts,hs,q=>jo9 (sTg C t (hd hs) (ba q).1) (sTgs C ts hs.tail (ba q).2) (by cases t<;>rfl)
end
def EB  (X:Cx)(σ:St):XK:=λcls dx H'=>∀(pins:List (Addr×Obj)) (ea:Addr) (s':Shared),Inv X pins σ H' s'->Lies X.s₀.heap.objs.size X.pn H' s'.heap ea cls dx->X.xe (.ref ea) s'
def jin        {σ:St}(F:FnOk X.prog X.w X.K X.mg X.base (CX1 X.prog X.w) j f fd ps sp)(hr:Room j X.A)(hb:Binds X.K fd ps [])
  (I:Inv X pins σ H s) (r:Vals vs us) (h:sp vs H Q (EB X σ)):wpAny (model X.prog X.w) X.A (call (.ref f) us) (EP X pins σ Q) X.xe s:=by
 have hl:(us++[]).length=ps.length:=by rw[Ya7,<- r.length];exact F.len _ _ _ _ h
 have hbs:=hb s us I.kIn hl;rw[Ya7]at hbs;refine Yej (YcY (F.run X.A X.stack s H ⟨us,[]⟩ us vs Q (EB X σ) hr I.env0 hbs r h) λr s' hq=>?_);cases r with
 |error e=>
  obtain⟨ea,H',cls,dx,rfl,I',l,q⟩:=CX1.back I hq;exact q pins ea s' I' l
 |ok fl=>
  cases fl with
  |ret u=>exact I.after hq
  |next=>exact YbC hq
  |brk=>exact YbC hq
  |cont=>exact YbC hq
def jii         {E:KX}(r:RUs X.K H us vs)(hG:HR X.K H G)(h:jab T k n us G Q E)(lv:LV X H G Q Q0)(lx:LX X σ H G E):lSp X.K (jab T k n) vs H Q0 (EB X σ):=
 ⟨us,G,Q,E,r,hG,h,lv,λx G' H' C dx xd hr f q pins ea s' I' l=>lx pins (.ref ea) s' x G' H' I' ⟨ea,C,dx,rfl,l,xd⟩ hr f q⟩
def jm7         (C:Cok T k X c)(hd:T.funs[n]?=some d)(hx:d.name=x)(hg:glo c x=true)(ha:PA X (e::es) (lA X ts))
  (he:Yap (e::es) X.env=(false,eval e X.env)::Yap es X.env) (hpl:(backTo pos (Yap es X.env)).any (·.1)=false) :
  PE X (.Call (.Name x p) (e::es) [] pos) (lE X λς G Q E=>ts ς G (λus G1=>jab T k n us G1 Q E) E):=by
 obtain⟨f,fd,F,hm,hk,hb⟩:=C.fns n d hd;obtain⟨g1,g2⟩:=C.gl hg;rw[hx]at hm;intro pins s σ H Q0 I ⟨ς,G,Q,E,hς,hG,h,lv,lx⟩;refine Ybl (jcX I g1 hm ?_ g2);have h':lA X ts σ H λvs H1=>lSp X.K (jab T k n) vs H1 Q0 (EB X σ):=⟨ς,G,_,E,hς,hG,h,λus vs G1 H1 rs hG1 f1 h1=>jii rs hG1 h1 (lv.fr f1) (lx.fr f1),lx⟩;refine Ydh (h₀:=X.base) I.ok.mod.kin hk (thn (ha pos pins s σ H _ I h') λus s1 ⟨vs,H1,I1,r,q⟩=>⟨I1.kIn,?_⟩) he hpl;exact jin F C.room2 hb I1 r q
def jlq      (C:Cok T k X c)(hd:T.funs[n]?=some d)(hx:d.name=x)(hg:glo c x=true) :
  PE X (.Call (.Name x p) [] [] pos) (lE X λ_ G Q E=>jab T k n [] G Q E):=by
 obtain⟨f,fd,F,hm,hk,hb⟩:=C.fns n d hd;obtain⟨g1,g2⟩:=C.gl hg;rw[hx]at hm;intro pins s σ H Q0 I ⟨ς,G,Q,E,hς,hG,h,lv,lx⟩;refine Ybl (jcX I g1 hm ?_ g2);exact PySem.W.callWith_K0 I.kIn hk (jin (us:=[]) (vs:=[]) F C.room2 hb I .nil (jii (show RUs X.K H [] []from rfl) hG h lv lx))
def Cok.comp     (C:Cok T k X c)(h:cOkS c N pick scope=true):CScope X N pick scope/\∀cl A s₀ H₀ fp,Cok T k (jaq X N scope cl A s₀ H₀ fp) ⟨N,scope.names⟩:=by
 unfold cOkS at h;simp only[Yaf,decide_eq_true_eq]at h;obtain⟨⟨⟨⟨⟨⟨h1,h2⟩,h3⟩,h4⟩,h5⟩,h6⟩,h7⟩:=h;have cells:∀y∈scope.names,y.2=.cell->scope.names.lookup y.1=some .cell:=λy hy hc=>by
  grind
 refine⟨⟨h1,cells,λy hy hl=>?_,λy hy hf=>?_,by lia,λi j x e1 e2=>?_⟩,λcl A s₀ H₀ fp=>?_⟩
 ·grind
 ·have:=Yc1.mp h4 y hy;rw[hf]at this;simp only[bne_self_eq_false,YeN,Yaf,YbD,beq_iff_eq]at this;refine⟨this.1,?_⟩;rcases this.2 with z|z
  ·exact .inl (C.cel _ z).1
  ·exact C.fre _ z
 ·have hz:(N.zip pick)[i]?=some (x,some j):=by rw[List.getElem?_zip_eq_some];exact⟨e1,e2⟩
  have:=Yc1.mp h6 _ (YaI hz);rw[C.hN]
  lia
 ·refine⟨rfl,h7,λx z=>?_,λx z=>?_,λx z=>?_,λx z=>?_,C.room,C.calm,Yc5.never,C.blt,C.fns,C.gls,C.room2,C.cls,C.mgK⟩
  ·exact jaA (by decide) (eq_of_beq z)
  ·exact⟨jaA (by decide) (eq_of_beq z),z⟩
  ·exact ja6 (eq_of_beq z)
  ·exact glc (eq_of_beq z)
end
end Z

namespace Z
open PySem L2

def HR.newX  (h:HR K H G)(e:H p=none):HR K (upd H p (.xd l)) G:=⟨λa o q=>by
 have m:=h a o q;obtain⟨ho,e2⟩:=m.there;exact m.keep (jae (jak e2 e)) (TS.new e),h.tab.new e⟩
def HR.xdNone  (h:HR K H G)(e:H a=some (.xd l)):G a=none:=by
 cases q:G a with
 |none=>rfl
 |some o=>
  have m:=h a o q;cases o with
  |lst us=>obtain⟨_,e2,_⟩:=m;lia
  |fro us=>obtain⟨_,_,e2,_⟩:=m;lia
  |dK us=>obtain⟨_,e2,_⟩:=m;lia
  |dT us=>obtain⟨_,e2,_⟩:=m;lia
  |frd _ us=>obtain⟨_,e2,_⟩:=m;lia
  |frk _ us=>obtain⟨_,e2,_⟩:=m;lia
def XD.fr    (h:XD K H C dx x)(hG:HR K H G)(f:Fr H G H' G'):XD K H' C dx x:=by
 obtain⟨h1,h2,h3,l,hl,hn,r⟩:=h;exact⟨h1,h2,h3,l,(f dx _ hl (hG.xdNone hl)).1,hn,r.ts (f.ts hG)⟩
def jjr  : ∀k<6,∀f∈clsF k,f∈fldN:=by decide +kernel
def jks   k:∀f∈clsF k,f∈fldN:=by
 by_cases h:k<6
 ·exact jjr k h
 ·intro f hf;have:clsF k=[]:=by
   unfold clsF;rw[List.getD_eq_getElem?_getD,YeY (by show clsA.length<=k;simp only[clsA,YaJ,Yb0];lia)];rfl
  simp_all
def jhm  : ∀i<6,∀j<6,clsN i=clsN j->i=j:=by decide +kernel
def jjq  : ∀i<6,1<=i->clsN i ≠ "PlanError" := by decide +kernel
section
variable {T:Tab}{k:Nat}{X:Cx}{c:Ctx}
def jg5    (h:okC cs c n=true):1<=n/\n<6/\n∈cs/\glo c (clsN n)=true:=by
 unfold okC at h
 simp_all
def s_raise       (C:Cok T k X c)(hn:okC T.cs c n=true)(ha:PA X (e::es) (lA X ts))(he:Yap (e::es) X.env=(false,eval e X.env)::Yap es X.env)(hpl:(backTo cpos (Yap es X.env)).any (·.1)=false) :
  PS X (.Raise (some (.Call (.Name (clsN n) p) (e::es) [] cpos)) none pos) (lS X λD ς G=>ts ς G (λus G1=>us.length=(clsF n).length/\D.ex ⟨n,us⟩ ς G1) λx G1=>D.ex x ς G1):=by
 obtain⟨n1,n2,n3,n4⟩:=jg5 hn;obtain⟨Ca,cl⟩:=C.cls n n3 n1;obtain⟨g1,g2⟩:=C.gl n4;refine(jir (k:=k) cl (jks n) C.room2 g1 (C.mgK _ _ cl.m) ha g2 he hpl).imp λD σ H ⟨De,ς,G,hς,hG,h,ld⟩=>?_;refine⟨ς,G,_,_,hς,hG,h,λus vs G1 H1 rs hG1 f1 h1=>?_,ld.lx hς hG⟩;have hl:vs.length=(clsF n).length:=rs.length.symm.trans h1.1;refine⟨hl,λpins ea dx s' hd I l=>?_⟩;have f2:Fr H1 G1 (upd H1 dx (.xd ((clsF n).zip vs))) G1:=Fr.new hd;refine ld.ex pins (.ref ea) s' ⟨n,us⟩ ς σ G1 _ I ((hς.ts (f1.ts hG)).ts (f2.ts hG1)) ⟨ea,Ca,dx,rfl,l,n1,n2,cl,_,jaj,?_,?_⟩ (hG1.newX hd) (f1.trans f2) h1.2
 ·exact YfR (by lia)
 ·rw[List.map_snd_zip (by lia)]
  exact rs.ts (f2.ts hG1)
end
structure HC (T:Tab)(X:Cx)(c:Ctx)(n:Nat)(ea C dx:Addr)(x:XV):Prop where
 hN:X.N=c.N
 nd:c.N.Nodup
 loc:∀y,kd c y .local=true->X.env.scope.names.lookup y=some .local
 cel:∀y,kd c y .cell=true->X.env.scope.names.lookup y=some .cell/\X.fn y=true
 fre:∀y,kd c y .free=true->X.env.scope.names.lookup y=some .cell\/X.env.scope.names.lookup y=some .free
 glb:∀y,kd c y .globalImplicit=true->Gl X y
 blt:∀y∈jcI,X.mg y=none
 cls:∀n∈T.cs,1<=n->∃C,XCls X.K (gK X.K) (clsN n) (clsF n) C
 me:XCls X.K (gK X.K) (clsN x.c) (clsF x.c) C
 lo:1<=x.c
 hi:x.c<6
 pin:XPin X ea C dx
 mgK:∀y v,gK X.K y=some v->X.mg y=some v
 en:n<c.N.length/\kd c (nmA c n) .local=true/\(nmA c n==("__debug__" : Str))=false/\(nmA c n==("__classdict__" : Str))=false
structure HSt (X:Cx)(n:Nat)(ea C dx:Addr)(x:XV)(σ:St)(H:Hp)(ς:Sg)(G:Gp):Prop where
 sr:SR X.K H ς σ
 hr:HR X.K H G
 en:σ[n]?=some (some (.ref ea))
 xd:XD X.K H C dx x
def hB  (X:Cx)(n:Nat)(ea C dx:Addr)(x:XV)(f:Sg->Option Bool):TE:=λσ H Q=>∃ς G b,HSt X n ea C dx x σ H ς G/\f ς=some b/\∀H',HR X.K H' G->Fr H G H' G->Q (.bl b) H'
def hT  (X:Cx)(n:Nat)(ea C dx:Addr)(x:XV)(f:Sg->Option Bool):TT:=λσ H Q=>∃ς G b,HSt X n ea C dx x σ H ς G/\f ς=some b/\∀H',HR X.K H' G->Fr H G H' G->Q b H'
section
variable {T:Tab}{X:Cx}{c:Ctx}{n:Nat}{ea C dx:Addr}{x:XV}
def HSt.fr      (h:HSt X n ea C dx x σ H ς G)(hr:HR X.K H' G')(f:Fr H G H' G'):HSt X n ea C dx x σ H' ς G':=⟨h.sr.ts (f.ts h.hr),hr,h.en,h.xd.fr h.hr f⟩
def HC.pe  (h:HC T X c n ea C dx x):PE X (.Name (nmA c n) p) (tVar n):=by
 obtain⟨h1,h2,h3,h4⟩:=h.en;exact jbC (by rw[h.hN];exact jiN (decide_eq_true h1)) (.inl (h.loc _ h2)) h3 h4
def HC.gl  (h:HC T X c n ea C dx x)(v:glo c y=true):Gl X y/\(y==("__debug__" : Str))=false:=by
 unfold glo at v;rw[Yaf]at v;exact⟨h.glb y v.1,by lia⟩
def HC.ownC  (h:HC T X c n ea C dx x)(q:okC T.cs c m=true):∃C',XCls X.K (gK X.K) (clsN m) (clsF m) C'/\clsN m ≠ "PlanError" /\ ∀p,PE X (.Name (clsN m) p) (tC (.ref C')):=by
 obtain⟨m1,m2,m3,m4⟩:=jg5 q;obtain⟨C',cl⟩:=h.cls m m3 m1;obtain⟨g1,g2⟩:=h.gl m4;exact⟨C',cl,jjq m m2 m1,λp=>jga g1 (h.mgK _ _ cl.m) rfl g2⟩
theorem HC.pcs  (h:HC T X c n ea C dx x):∀{ks },ks.all (okC T.cs c)=true->∀hs ,∃(xs:List Str) (Cs:List Addr),xs=ks.map clsN/\XMany X (gK X.K) xs Cs/\Cs.length=ks.length/\PA X (unCs ks hs) (λ_ H Q=>Q (Cs.map .ref) H)
 |[],_,_=>⟨[],[],rfl,.nil,rfl,jdC⟩
 |m::ks,q,hs=>by
  simp only[Ybd,Yaf]at q;obtain⟨C',cl,np,pe⟩:=h.ownC q.1;obtain⟨xs,Cs,e,mn,ln,pa⟩:=h.pcs q.2 hs.tail;subst e;exact⟨_,C'::Cs,rfl,.cons cl np mn,by simp[ln],jaH (pe _) pa⟩
def jgq  : YbR "isinstance" = some (.builtin "isinstance"):=Ydi
def HC.isiT  (h:HC T X c n ea C dx x)(g1:Gl X "isinstance")(g2:(("isinstance" : Str)==("__debug__" : Str))=false)(mn:XMany X (gK X.K) xs Cs)(pa:PA X es (λ_ H Q=>Q (Cs.map .ref) H)) :
  PE X (.Call (.Name "isinstance" p3) [.Name (nmA c n) p1,.Tuple es kq p2] [] p4) (λσ H Q=>σ[n]?=some (some (.ref ea))/\Cs.length<=8/\∀p,H p=none->(∃l,upd H p (.tup (Cs.map .ref)) dx=some (.xd l))/\Q (.bl (xs.contains (clsN x.c))) (upd H p (.tup (Cs.map .ref)))):=by
 have isn:X.mg "isinstance" = none:=h.blt _ (by decide)
 have a1:PA X [.Tuple es kq p2] _:=jaH (jiy pa) jdC (jah rfl _ _);have a2:PA X [.Name (nmA c n) p1,.Tuple es kq p2] _:=jaH (h.pe) a1 (jah rfl _ _);have cr:=jjA h.me mn h.pin;have hh:Yap [.Name (nmA c n) p1,.Tuple es kq p2] X.env=(false,eval (.Name (nmA c n) p1) X.env)::Yap [.Tuple es kq p2] X.env:=jah rfl _ _;have hp:(backTo p4 (Yap [.Tuple es kq p2] X.env)).any (·.1)=false:=by rw[jah rfl];rfl
 refine PE.imp (jdp (p:=p3) (pos:=p4) cr g1 isn jgq a2 (by decide) g2 hh hp) λσ H Q ⟨e1,e2,k⟩=>?_
 refine⟨_,e1,?_,λp hp=>⟨p,rfl,jaj,(k p hp).1,(k p hp).2⟩⟩;rw[Yai,YbU];lia
def HC.lit  (h:HC T X c n ea C dx x)(q:okHL T.cs c l=true) hx:PE X (unHL c n l hx) (hB X n ea C dx x λς=>litH x ς l)/\PT X (unHL c n l hx) (hT X n ea C dx x λς=>litH x ς l):=by
 have fin:PE X (unHL c n l hx) (hB X n ea C dx x λς=>litH x ς l):=by
  have isn:X.mg "isinstance" = none:=h.blt _ (by decide)
  have ven:X.mg "ValueError" = none:=h.blt _ (by decide)
  cases l with
  |v i=>
   have q':((decide (i<c.N.length)&&(kd c (nmA c i) .local||kd c (nmA c i) .cell||kd c (nmA c i) .free) && !(nmA c i==("__debug__" : Str)) && !(nmA c i==("__classdict__" : Str))))=true:=q;obtain⟨⟨⟨h1,h2⟩,h3⟩,h4⟩:=(⟨⟨ba (ba (ba q').1).1,(ba (ba q').1).2⟩,(ba q').2⟩:((_/\_)/\_)/\_);have vis:Vis X.env.scope (nmA c i):=by
    simp only[YbD]at h2;rcases h2 with(z|z)|z
    ·exact .inl (h.loc _ z)
    ·exact .inr (.inl (h.cel _ z).1)
    ·exact(h.fre _ z).elim (λz=>.inr (.inl z)) λz=>.inr (.inr z)
   refine(jbC (by rw[h.hN];exact jiN h1) vis (bn h3) (bn h4)).imp λσ H Q ⟨ς,G,b,st,e,k⟩=>?_
   have e':(match ς[i]? with|some (some (U.bl b))=>some b|_=>none)=some b:=e
   split at e'
   ·rename_i b' eb;cases e';obtain⟨v,ev,r⟩:=st.sr.2 i _ eb;cases r;exact⟨_,ev,k H st.hr (Fr.refl _ _)⟩
   lia
  |isiV=>
   have q':(glo c "isinstance" && glo c "ValueError")=true:=q;obtain⟨g1,g2⟩:=h.gl (ba q').1;obtain⟨g3,g4⟩:=h.gl (ba q').2;refine(jdp (jjz h.me h.pin) g1 isn jgq (jaH h.pe (jaH (jiz (v:=.ty "ValueError") g3 ven (by decide +kernel) rfl (by decide) g4) jdC)) (by decide) g2 rfl rfl).imp λσ H Q ⟨ς,G,b,st,e,k⟩=>?_
   cases(show true=b from Yas e);obtain⟨_,_,_,l,hl,_⟩:=st.xd;exact⟨_,st.en,rfl,⟨l,hl⟩,k H st.hr (Fr.refl _ _)⟩
  |is1 m=>
   have q':(glo c "isinstance" && okC T.cs c m)=true:=q;obtain⟨g1,g2⟩:=h.gl (ba q').1;obtain⟨C',cl,np,pe⟩:=h.ownC (ba q').2;refine(jdp (jjB h.me cl np h.pin) g1 isn jgq (jaH h.pe (jaH (pe _) jdC)) (by decide) g2 rfl rfl).imp λσ H Q ⟨ς,G,b,st,e,k⟩=>?_
   have eb:decide (x.c=m)=b:=Yas e;have e2:decide (clsN x.c=clsN m)=b:=by
    rw[<- eb];obtain⟨_,m2,_⟩:=jg5 (ba q').2;by_cases z:x.c=m
    ·simp[z]
    ·have:clsN x.c≠clsN m:=λy=>z (jhm _ h.hi _ m2 y)
     lia
   obtain⟨_,_,_,l,hl,_⟩:=st.xd;exact⟨_,st.en,rfl,⟨l,hl⟩,by rw[e2];exact k H st.hr (Fr.refl _ _)⟩
  |isi ks=>
   have q':(glo c "isinstance" && ks.all (okC T.cs c)&&decide (ks.length<=8))=true:=q;obtain⟨g1,g2⟩:=h.gl (ba (ba q').1).1;obtain⟨xs,Cs,exs,mn,ln,pa⟩:=h.pcs (ba (ba q').1).2 (cl (hd (cl hx).tail));refine PE.imp (h.isiT g1 g2 mn pa) λσ H Q ⟨ς,G,b,st,e,k⟩=>?_;have eb:ks.contains x.c=b:=Yas e;have e2:xs.contains (clsN x.c)=b:=by
    rw[<- eb,exs];have all:∀m∈ks,m<6:=λm hm=>(jg5 (Yc1.mp (ba (ba q').1).2 m hm)).2.1;rw[Ybf];simp only[List.contains_iff_mem,List.mem_map];constructor
    ·rintro⟨m,hm,em⟩;have:=jhm _ (all m hm) _ h.hi em
     lia
    lia
   refine⟨st.en,?_,λp hp=>⟨?_,?_⟩⟩
   ·lia
   ·obtain⟨_,_,_,l,hl,_⟩:=(st.fr (st.hr.newT hp) (Fr.new hp)).xd;exact⟨l,hl⟩
   ·rw[e2];exact k _ (st.hr.newT hp) (Fr.new hp)
 refine⟨fin,?_⟩;have tr:∀whole,isTrue (unHL c n l hx) X.env whole=(do let v <- whole;standAt (unHL c n l hx).pos;holding [v] (truthy v)):=by
  intro whole;cases l<;>rfl
 refine(jnA fin tr).imp λσ H Q ⟨ς,G,b,st,e,k⟩=>?_;exact⟨ς,G,b,st,e,λH' a f=>⟨b,rfl,k H' a f⟩⟩
def HC.litN  (h:HC T X c n ea C dx x)(q:okHL T.cs c p.2=true) hx:PE X (jfY c n p hx) (hB X n ea C dx x λς=>lit1 x ς p)/\PT X (jfY c n p hx) (hT X n ea C dx x λς=>lit1 x ς p):=by
 obtain⟨neg,l⟩:=p;cases neg with
 |false=>
  obtain⟨h1,h2⟩:=h.lit q hx;refine⟨PE.imp h1 λσ H Q ⟨ς,G,b,st,e,k⟩=>⟨ς,G,b,st,?_,k⟩,PT.imp h2 λσ H Q ⟨ς,G,b,st,e,k⟩=>⟨ς,G,b,st,?_,k⟩⟩ <;>
  ·unfold lit1 at e
   lia
 |true=>
  obtain⟨h1,h2⟩:=h.lit q (c0 hx);refine⟨PE.imp (jnL h1) λσ H Q ⟨ς,G,b,st,e,k⟩=>⟨ς,G,!b,st,?_,λH' a f=>⟨!b,rfl,by simp_all⟩⟩,PT.imp (jkK h2) λσ H Q ⟨ς,G,b,st,e,k⟩=>⟨ς,G,!b,st,?_,λH' a f=>by simp_all⟩⟩ <;>
  ·unfold lit1 at e;dsimp only at e;split at e
   ·simp_all
   lia
theorem HC.conds  (h : HC T X c n ea C dx x) k : ∀ as (a : Bool × HL) hx hs pos , okHL T.cs c a.2 = true -> jdI T.cs c as = true ->
    PE X (.BoolOp (boU k) (jfY c n a hx :: jgO c n as hs) pos) (hB X n ea C dx x λς => jbU x ς k a as) /\ PW X (.BoolOp (boU k) (jfY c n a hx :: jgO c n as hs) pos) (hT X n ea C dx x λς => jbU x ς k a as)
  | [], a, hx, hs, pos, q, _ => by
    obtain ⟨h1, h2⟩ := h.litN q hx
    cases k with
    | true => exact ⟨jg1 h1, pw_and1 h2⟩
    | false => exact ⟨jg1 h1, pw_or1 h2⟩
  | b :: r, a, hx, hs, pos, q, qs => by
    unfold jdI at qs
    simp only [Ybd, Yaf] at qs
    obtain ⟨h1, h2⟩ := h.litN q hx
    obtain ⟨r1, r2⟩ := h.conds k r b (hd hs) hs.tail pos qs.1 qs.2
    have red : ∀ {ς : Sg} {t b' : Bool}, lit1 x ς a = some t -> jbU x ς k a (b :: r) = some b' -> (if t = k then jbU x ς k b r else some t) = some b' := λ{ς t b'} e1 e2 => by
      have e3 : (match lit1 x ς a with | some t => if t = k then jbU x ς k b r else some t | none => none) = some b' := e2
      lia
    have some1 : ∀ {ς : Sg} {b' : Bool}, jbU x ς k a (b :: r) = some b' -> ∃ t, lit1 x ς a = some t := λ{ς b'} e2 => by
      have e3 : (match lit1 x ς a with | some t => if t = k then jbU x ς k b r else some t | none => none) = some b' := e2
      grind
    cases k with
    | true =>
      refine ⟨PE.imp (jnQ h1 r1) λσ H Q ⟨ς, G, b', st, e, kk⟩ => ?_, PW.imp (pw_and h2 r2) λσ H Q ⟨ς, G, b', st, e, kk⟩ => ?_⟩ <;>
      · obtain ⟨t, et⟩ := some1 e
        have e' := red et e
        first
          | (refine ⟨ς, G, t, st, et, λH' hr f => ⟨t, rfl, ?_⟩⟩
             cases t with
             | true => exact ⟨ς, G, b', st.fr hr f, by lia, λH'' a b => kk H'' a (f.trans b)⟩
             | false => simp_all)
          | (refine ⟨ς, G, t, st, et, λH' hr f => ?_⟩
             cases t with
             | true => exact ⟨ς, G, b', st.fr hr f, by lia, λH'' a b => kk H'' a (f.trans b)⟩
             | false => simp_all)
    | false =>
      refine ⟨PE.imp (jpM h1 r1) λσ H Q ⟨ς, G, b', st, e, kk⟩ => ?_, PW.imp (pw_or h2 r2) λσ H Q ⟨ς, G, b', st, e, kk⟩ => ?_⟩ <;>
      · obtain ⟨t, et⟩ := some1 e
        have e' := red et e
        first
          | (refine ⟨ς, G, t, st, et, λH' hr f => ⟨t, rfl, ?_⟩⟩
             cases t with
             | false => exact ⟨ς, G, b', st.fr hr f, by lia, λH'' a b => kk H'' a (f.trans b)⟩
             | true => simp_all)
          | (refine ⟨ς, G, t, st, et, λH' hr f => ?_⟩
             cases t with
             | false => exact ⟨ς, G, b', st.fr hr f, by lia, λH'' a b => kk H'' a (f.trans b)⟩
             | true => simp_all)
def HC.cond  (h:HC T X c n ea C dx x) k (a:Bool×HL) as hx (q:okHL T.cs c a.2=true)(qs:jdI T.cs c as=true) :
  PE X (jgP c n k a as hx) (hB X n ea C dx x λς=>jbU x ς k a as)/\PT X (jgP c n k a as hx) (hT X n ea C dx x λς=>jbU x ς k a as):=by
 cases as with
 |nil=>exact h.litN q hx
 |cons b r=>let z:=h.conds k (b::r) a (hd (cl hx)) (cl hx).tail hx.pos q qs;exact⟨z.1,z.2.pt⟩
def hV  (X:Cx)(n:Nat)(ea C dx:Addr)(x:XV)(f:Sg->Gp->K1->Prop):TE:=λσ H Q0=>∃ς G Q,HSt X n ea C dx x σ H ς G/\f ς G Q/\LV X H G Q Q0
theorem jh6      : ∀{l:List (Str×V)} {us },RUs K H us (l.map (·.2))->((l.map (·.1)).zip us).lookup f=some u->∃v,l.lookup f=some v/\RU K H u v
 |[],us,_,e=>by simp at e
 |(y,v)::l,[],r,e=>by simp at e
 |(y,v)::l,w::us,r,e=>by
  obtain⟨v',vr,ev,r1,rs⟩:=r;simp only[YaK,YdE]at ev;obtain⟨rfl,rfl⟩:=ev;simp only[YaK,Yfx,YaU]at e ⊢;split at e
  ·lia
  ·rename_i z;obtain⟨v',h1,h2⟩:=jh6 rs e
   simp_all
def XD.get      (xd:XD K H C dx x)(e:atH x (.att f)=some u):∃l v,H dx=some (.xd l)/\l.lookup f=some v/\RU K H u v:=by
 obtain⟨_,_,_,l,hl,hn,r⟩:=xd;have e':((clsF x.c).zip x.fs).lookup f=some u:=e;rw[<- hn]at e';obtain⟨v,h1,h2⟩:=jh6 r e'
 simp_all
def HC.at  (h:HC T X c n ea C dx x)(q:okHA a=true) hx:PE X (unHA c n a hx) (λσ H Q0=>∃ς G u,HSt X n ea C dx x σ H ς G/\atH x a=some u/\∀v,RU X.K H u v->Q0 v H):=by
 cases a with
 |str y=>exact PE.imp jkM λσ H Q ⟨ς,G,u,st,e,k⟩=>by cases e;exact k _ rfl
 |att f=>
  have hf:f∈fldN:=by simpa[okHA]using q
  refine PE.imp (jlV h.me h.pin hf h.pe rfl) λσ H Q ⟨ς,G,u,st,e,k⟩=>?_;obtain⟨l,v,hl,h1,h2⟩:=st.xd.get e;exact⟨_,st.en,rfl,l,v,hl,h1,k v h2⟩
def jmG   a hx es env:Yap (unHA c n a hx::es) env=(false,eval (unHA c n a hx) env)::Yap es env:=by cases a<;>rfl
theorem HC.ats  (h:HC T X c n ea C dx x):∀{as } (_:as.all okHA=true) hs ,PA X (jjF c n as hs) (λσ H Q0=>∃ς G us,HSt X n ea C dx x σ H ς G/\atsH x as=some us/\∀vs,RUs X.K H us vs->Q0 vs H)
 |[],_,_=>λpos pins s σ H Q0 I ⟨ς,G,us,st,e,k⟩=>by cases e;exact jdC pos pins s σ H Q0 I (k [] rfl)
 |a::r,q,hs=>by
  simp only[Ybd,Yaf]at q;refine PA.imp (jaH (h.at q.1 (hd hs)) (h.ats q.2 hs.tail) (jmG a _ _ _)) λσ H Q0 ⟨ς,G,us,st,e,k⟩=>?_;have e':(match atH x a,atsH x r with|some u,some us=>some (u::us)|_,_=>none)=some us:=e
  split at e'
  ·rename_i u us' e1 e2;cases e';exact⟨ς,G,u,st,e1,λv rv=>⟨ς,G,us',st,e2,λvs rvs=>k (v::vs) ⟨v,vs,rfl,rv,rvs⟩⟩⟩
  lia
theorem jgI  : ∀{as } {us },atsH x as=some us->us.length=as.length
 |[],us,e=>by cases e;rfl
 |a::r,us,e=>by
  have e':(match atH x a,atsH x r with|some u,some us=>some (u::us)|_,_=>none)=some us:=e
  split at e'
  ·rename_i u us' e1 e2;cases e';simp[jgI e2]
  lia
def HC.val  (h:HC T X c n ea C dx x)(q:okHV T.cs c e=true) hx:PE X (unHV c n e hx) (hV X n ea C dx x λς G Q=>hvH x ς e G Q):=by
 cases e with
 |cond k a as=>
  have q':(okHL T.cs c a.2&&jdI T.cs c as)=true:=q;refine PE.imp (h.cond k a as hx (ba q').1 (ba q').2).1 λσ H Q0 ⟨ς,G,Q,st,e,lv⟩=>?_;have e':(match jbU x ς k a as with|some b=>Q (.bl b) G|none=>False):=e
  split at e'
  ·rename_i b eb;exact⟨ς,G,b,st,eb,λH' hr f=>lv (.bl b) (.bl b) G H' rfl hr f e'⟩
  lia
 |one a=>
  refine PE.imp (h.at (show okHA a=true from q) hx) λσ H Q0 ⟨ς,G,Q,st,e,lv⟩=>?_;have e':(match atH x a with|some u=>Q u G|none=>False):=e
  split at e'
  ·rename_i u eu;exact⟨ς,G,u,st,eu,λv rv=>lv.here rv st.hr e'⟩
  lia
 |bl b=>exact PE.imp jnP λσ H Q0 ⟨ς,G,Q,st,e,lv⟩=>lv.bl st.hr e
 |tup as=>
  have q':(as.all okHA&&decide (as.length<=8))=true:=q;refine PE.imp (jiy (h.ats (ba q').1 (cl hx))) λσ H Q0 ⟨ς,G,Q,st,e,lv⟩=>?_;have e':(match atsH x as with|some us=>Q (.tup us) G|none=>False):=e
  split at e'
  ·rename_i us eu;refine⟨ς,G,us,st,eu,λvs rvs=>⟨?_,λp hp=>lv.tup hp rvs st.hr e'⟩⟩;have:=of_decide_eq_true (ba q').2;rw[<- rvs.length,jgI eu,YbU];lia
  lia
 |lst as=>
  have q':(as.all okHA&&decide (as.length<=8))=true:=q;refine PE.imp (jkN (h.ats (ba q').1 (cl hx))) λσ H Q0 ⟨ς,G,Q,st,e,lv⟩=>?_;have e':(match atsH x as with|some us=>newO G (.lst us) Q|none=>False):=e
  split at e'
  ·rename_i us eu;refine⟨ς,G,us,st,eu,λvs rvs=>⟨?_,λp hp=>lv.lst hp rvs st.hr e'⟩⟩;have:=of_decide_eq_true (ba q').2;rw[<- rvs.length,jgI eu,YbU];lia
  lia
def ji6   e hx y p env l:Ybz [.Name y p] (unHV c n e hx) l env=pure false/\Ybh [.Name y p] (unHV c n e hx) env=pure none:=by
 cases e with
 |cond k a as=>
  cases as with
  |nil=>
   obtain⟨neg,l⟩:=a;cases neg<;>cases l<;>exact⟨rfl,rfl⟩
  |cons=>exact⟨rfl,rfl⟩
 |one a=>cases a<;>exact⟨rfl,rfl⟩
 |_=>exact⟨rfl,rfl⟩
def HC.store  (h:HC T X c n ea C dx x)(q:okN c i=true):PG X (.Name (nmA c i) p) (jjc i):=by
 have q':(decide (i<c.N.length)&&(kd c (nmA c i) .local||kd c (nmA c i) .cell))=true:=q;have v:=(ba q').2;simp only[YbD]at v;rcases v with v|v
 ·exact jf9 (by rw[h.hN];exact h.nd) (by rw[h.hN];exact jiN (ba q').1) (.inl (h.loc _ v)) (.inr (h.loc _ v))
 ·exact jf9 (by rw[h.hN];exact h.nd) (by rw[h.hN];exact jiN (ba q').1) (.inr (h.cel _ v).1) (.inl (h.cel _ v).2)
def HSt.set         (h:HSt X n ea C dx x σ H ς G)(hi:i≠n)(r:RU X.K H u v):HSt X n ea C dx x (σ.set i (some v)) H (ς.set i (some u)) G:=
 ⟨h.sr.set r i,h.hr,by rw[YaX hi];exact h.en,h.xd⟩
def HC.asg  (h:HC T X c n ea C dx x)(qi:okN c i=true)(hi:i≠n)(qe:okHV T.cs c e=true) st :
  PS X (jln c n i e st) (λD σ H=>∃(ς:Sg) (G:Gp) (k:Sg->Gp->Prop),HSt X n ea C dx x σ H ς G/\hvH x ς e G (λu G1=>k (ς.set i (some u)) G1)/\∀ς' σ' G' H',HSt X n ea C dx x σ' H' ς' G'->Fr H G H' G'->k ς' G'->D.nx σ' H'):=by
 refine PS.imp (jis (h.val qe (q0 st)) (h.store qi) (ji6 e _ _ _ _ _).1 (ji6 e _ _ _ _ 0).2 rfl) λD σ H ⟨ς,G,k,hs,hv,fin⟩=>?_;exact⟨ς,G,_,hs,hv,λu v G' H' r hr f q=>fin _ _ G' H' ((hs.fr hr f).set hi r) f q⟩
def hS  (X:Cx)(n:Nat)(ea C dx:Addr)(x:XV)(hs:List HS):L2.TS:=λD σ H=>∃ς G k,HSt X n ea C dx x σ H ς G/\hsH x hs ς G k/\∀ς' σ' G' H',HSt X n ea C dx x σ' H' ς' G'->Fr H G H' G'->k ς' G'->D.nx σ' H'
theorem HC.stmts  (h:HC T X c n ea C dx x):∀{hs } (_:hs.all (okHS T.cs c n)=true) sts ,PSs X (jfZ c n hs sts) (hS X n ea C dx x hs)
 |[],_,_=>PSs.imp jf8 λD σ H ⟨ς,G,k,st,q,fin⟩=>fin ς σ G H st (Fr.refl _ _) q
 |.asg i e::r,q,sts=>by
  simp only[Ybd,Yaf]at q;have q1:(okN c i&&decide (i≠n)&&okHV T.cs c e)=true:=q.1;refine PSs.imp (jeU (h.asg (ba (ba q1).1).1 (of_decide_eq_true (ba (ba q1).1).2) (ba q1).2 (qh sts)) (h.stmts q.2 sts.tail)) λD σ H ⟨ς,G,k,st,hq,fin⟩=>?_;exact⟨ς,G,λς1 G1=>hsH x r ς1 G1 k,st,hq,λς' σ' G' H' st' f q'=>⟨ς',G',k,st',q',λς2 σ2 G2 H2 st2 f2 q2=>fin ς2 σ2 G2 H2 st2 (f.trans f2) q2⟩⟩
 |.ifa kk a as i e::r,q,sts=>by
  simp only[Ybd,Yaf]at q;have q1:(okHL T.cs c a.2&&jdI T.cs c as&&okN c i&&decide (i≠n)&&okHV T.cs c e)=true:=q.1;have p1:=jnE (pos:=(qh sts).pos) (h.cond kk a as (q0 (qh sts)) (ba (ba (ba (ba q1).1).1).1).1 (ba (ba (ba (ba q1).1).1).1).2).2 (jlL (h.asg (ba (ba (ba q1).1).1).2 (of_decide_eq_true (ba (ba q1).1).2) (ba q1).2 (qh (qa (qh sts))))) jf8;refine PSs.imp (jeU p1 (h.stmts q.2 sts.tail)) λD σ H ⟨ς,G,k,st,hq,fin⟩=>?_;have nxt:∀ς' σ' G' H',HSt X n ea C dx x σ' H' ς' G'->Fr H G H' G'->hsH x r ς' G' k->hS X n ea C dx x r D σ' H':=λς' σ' G' H' st' f q'=>⟨ς',G',k,st',q',λς2 σ2 G2 H2 st2 f2 q2=>fin ς2 σ2 G2 H2 st2 (f.trans f2) q2⟩;have hq':(match jbU x ς kk a as with|some true=>hvH x ς e G λu G1=>hsH x r (ς.set i (some u)) G1 k|some false=>hsH x r ς G k|none=>False):=hq
  split at hq'
  ·rename_i ec;refine⟨ς,G,true,st,ec,λH' hr f=>?_⟩;refine iteT ?_;exact⟨ς,G,λς1 G1=>hsH x r ς1 G1 k,st.fr hr f,hq',λς' σ' G' H'' st' f' q'=>nxt ς' σ' G' H'' st' (f.trans f') q'⟩
  ·rename_i ec;refine⟨ς,G,false,st,ec,λH' hr f=>?_⟩;refine iteF ?_;exact nxt ς σ G H' (st.fr hr f) f hq'
  lia
end
def SR.hide      (h:SR K H ς σ) n o:SR K H (ς.set n none) (σ.set n o):=by
 refine⟨by simp[h.1],λi u e=>?_⟩
 by_cases z:i=n
 ·subst z;rw[List.getElem?_set]at e;simp only[if_true]at e;split at e<;>cases e
 ·rw[YaX (Ne.symm z)]at e ⊢;exact h.2 i u e

def s_try  {T: Tab}{sts:List Stmt}(C:Cos T k X c)(hm:decide (m=0)=true)(hg:glo c (clsN m)=true)(hn:decide (n<c.N.length)=true)(hl:kd c (nmA c n) .local=true)(hd1:(nmA c n==("__debug__" : Str))=false)(hd2:(nmA c n==("__classdict__" : Str))=false)
  (hne:hs.isEmpty=false) (hok:hs.all (okHS T.cs c n)=true) (hb:∀pins xe ,Yc5 (model X.prog X.w) X.A X.env xe->PSs (X.tryC pins xe) b (lS (X.tryC pins xe) tb)) :
  PS X (.Try b [.ExceptHandler (some (.Name (clsN m) pt)) (some (nmA c n)) (jfZ c n hs sts) ph] [] [] pos)
   (lS X λD ς G=>tb { D with ex:=λx ς1 G1=>(m=0\/x.c=m)/\hsH x hs (ς1.set n none) G1 λς2 G2=>D.nx (ς2.set n none) G2 } ς G):=by
 intro pins s σ H D I ⟨De,ς,G,hς,hG,h0,ld⟩;obtain⟨s0,sr,hse⟩:∃s0 sr,jfZ c n hs sts=s0::sr:=by
  cases hs with
  |nil=>cases hne
  |cons a r=>exact⟨_,_,rfl⟩
 have nd:X.N.Nodup:=by rw[C.hN];exact C.nd
 have hi:X.N[n]?=some (nmA c n):=C.toCok.nm hn;have hlc:=C.loc _ hl;obtain⟨gl1,gl2⟩:=C.toCok.gl hg
 let XT:Value->Shared->Prop:=λe s₁=>wpAny (model X.prog X.w) X.A (YfK e X.env) (λ_ s₂=>wpAny (model X.prog X.w) X.A (Yd1 e none) (λ_ s₃=>wpAny (model X.prog X.w) X.A (handleBy e X.env [.ExceptHandler (some (.Name (clsN m) pt)) (some (nmA c n)) (jfZ c n hs sts) ph]) (SP X pins D) X.xe s₃) X.xe s₂) X.xe s₁
 have main:∀(pins':List (Addr×Obj)) (e:Value) (s':Shared) (x:XV) ς' σ' G' H',Inv (X.tryC pins XT) pins' σ' H' s'->SR X.K H' ς' σ'->XAt (X.tryC pins XT) H' s' e x->HR X.K H' G'->Fr H G H' G'->((m=0\/x.c=m)/\hsH x hs (ς'.set n none) G' λς2 G2=>De.nx (ς2.set n none) G2)->XT e s':=by
  intro pins' e s' x ς' σ' G' H' I' sr' xat hr' f' ⟨hmx,hq⟩;obtain⟨ea,C0,dx,rfl,l,xd⟩:=xat;have xd0:=xd;obtain⟨x1,x2,xc,lx,hlx,hnx,rx⟩:=xd0;have I0:Inv (X.tryC pins XT) [] σ' H' s':=I'.pins_of λp hp=>absurd hp (by simp)
  refine jiW (X:=X.tryC pins XT) (E:=X.xe) I0 C.stk.1 C.stk.2 l λh' J l'=>?_;refine wpAny_handleBy_cons ?_ (by intro z;cases z)
  refine codeAny_handlers_test ?_;have J':Inv ((X.tryC pins XT).inH (.ref ea) []) [] σ' H' { s' with heap:=h' }:=J.hIn λq hq=>absurd hq (by simp)
  have fin:∀s2:Shared,s2={ s' with heap:=h' }->codeAny (model X.prog X.w) (X.A.mark (some (.ref ea))) (Code.handlers (.ref ea) [.ExceptHandler none (some (nmA c n)) (jfZ c n hs sts) ph] X.env)
    (λr s₂=>match r with
     |.ok f=>wpAny (model X.prog X.w) X.A (do YeF X.env (nmA c n) .none;unbindBehindTheSuite X.env (nmA c n) ph) (λ_ s₃=>SP X pins D f s₃) X.xe s₂
     |.error y=>cameBackBy (model X.prog X.w) X.A X.env X.xe y s₂) s2:=by
   intro s2 es2;subst es2;rw[hse];refine codeAny_handlers_suite_as ?_;refine jfE (X:=X.tryC pins XT) J l' λh2 J2 l2=>?_;obtain⟨oe,g1,g2,g3,⟨vs,g4⟩,g5⟩:=l2.pinned J2;have J3:Inv ((X.tryC pins XT).inH (.ref ea) [(ea,oe)]) [] σ' H' { s' with heap:=h2 }:=J2.hIn g5
   refine jbf (X:=(X.tryC pins XT).inH (.ref ea) [(ea,oe)]) (v:=.ref ea) J3 nd hi (.inl hlc) rfl (λs3 J4=>?_) (.inr hlc);have hc:HC T ((X.tryC pins XT).inH (.ref ea) [(ea,oe)]) c n ea C0 dx x:=⟨C.hN,C.nd,C.loc,C.cel,C.fre,C.glb,C.blt,C.cls,xc,x1,x2,⟨oe,vs,by simp only[Cx.inH];simp_all,g2,g3,g4⟩,C.mgK,of_decide_eq_true hn,hl,hd1,hd2⟩
   have hσ:n<σ'.length:=by
    have:=J3.len;rw[this];exact(List.getElem?_eq_some_iff.mp hi).1
   have hst:HSt ((X.tryC pins XT).inH (.ref ea) [(ea,oe)]) n ea C0 dx x (σ'.set n (some (.ref ea))) H' (ς'.set n none) G':=⟨sr'.hide n _,hr',by simp_all,xd⟩
   rw[<- hse];refine YaL (hc.stmts hok sts [] s3 _ H' ⟨λσ2 H2=>D.nx (σ2.set n none) H2,λ_ _=>False,λ_ _=>False,λ_ _=>False⟩ J4 ⟨_,G',_,hst,hq,λς2 σ2 G2 H2 st2 f2 q2=>?_⟩) (λfl s4 q4=>?_) λ_ _ z=>YbC z
   ·exact ld.nx _ _ G2 H2 (st2.sr.hide n none) st2.hr (f'.trans f2) q2
   ·cases fl with
    |next=>
     obtain⟨σ2,H2,J5,q5⟩:=q4;exact jiO (X:=X.tryC pins XT) (J5.hOut J.ok) nd hi hlc λs5 J6=>⟨σ2.set n none,H2,J6.tryOut,q5⟩
    |brk=>obtain⟨_,_,_,z⟩:=q4;lia
    |cont=>obtain⟨_,_,_,z⟩:=q4;lia
    |ret u=>obtain⟨_,_,_,_,_,z⟩:=q4;lia
  obtain⟨oe,vs,he,hcl,_⟩:=l'.ob;by_cases m0:m=0
  ·obtain⟨D0,N0,fI,mN,mD,B,_⟩:=xc.ex;have hmg:X.mg (clsN m)=some (.ref D0):=by rw[m0];exact C.mgK _ _ B.m
   refine jcX J' gl1 hmg ?_ gl2;refine jhN (X:=X) xc B J'.kIn he hcl ?_;exact fin _ rfl
  ·exact absurd (of_decide_eq_true hm) m0
 refine wpAny_Try_except (YaL (hb pins XT YeS [] s σ H ⟨D.nx,D.rt,D.bk,D.ct⟩ I.tryIn ⟨_,ς,G,hς,hG,h0,⟨ld.nx,ld.rt,main⟩⟩) (λfl s1 q1=>?_) λe s1 z=>z);cases fl with
 |next=>
  obtain⟨σ',H',J,q⟩:=q1;exact YcO ⟨σ',H',J.tryOut,q⟩
 |brk=>obtain⟨σ',H',J,q⟩:=q1;exact⟨σ',H',J.tryOut,q⟩
 |cont=>obtain⟨σ',H',J,q⟩:=q1;exact⟨σ',H',J.tryOut,q⟩
 |ret u=>obtain⟨v,σ',H',J,r,q⟩:=q1;exact⟨v,σ',H',J.tryOut,r,q⟩
section
variable {T:Tab}{k:Nat}
def jmo   b:bltN b∈jcI:=by cases b<;>decide
def jm9  : ∀n∈jh8,YbR (YbN n)=some (.type n)/\YbN n∈jcI/\YbN n ≠ "__name__" := by decide +kernel
abbrev SE  (T:Tab)(k:Nat)(X:Cx)(c:Ctx)(ir:E)(h:Expr):Prop:=PE X (unE T c ir h) (lE X (den T.gs (jab T k) ir).1)/\PT X (unE T c ir h) (lT X (den T.gs (jab T k) ir).2)
section
variable {X:Cx}{c:Ctx}
def tru    (h:PE X e (lE X t))(hp:∀whole,isTrue e X.env whole=(do let v <- whole;standAt e.pos;holding [v] (truthy v))):PE X e (lE X t)/\PT X e (lT X (truT t)):=⟨h,jpa h hp⟩
def jnr   {rest:List Expr}(ha:PE X a (lE X p.1)/\PT X a (lT X p.2))(hb:PE X (.BoolOp .And (b::rest) pos) (lE X q.1)/\PW X (.BoolOp .And (b::rest) pos) (lT X q.2)) :
  PE X (.BoolOp .And (a::b::rest) pos) (lE X (comb true p q).1)/\PW X (.BoolOp .And (a::b::rest) pos) (lT X (comb true p q).2):=⟨jpn ha.1 hb.1,jm8 ha.2 hb.2⟩
def jpz   {rest:List Expr}(ha:PE X a (lE X p.1)/\PT X a (lT X p.2))(hb:PE X (.BoolOp .Or (b::rest) pos) (lE X q.1)/\PW X (.BoolOp .Or (b::rest) pos) (lT X q.2)) :
  PE X (.BoolOp .Or (a::b::rest) pos) (lE X (comb false p q).1)/\PW X (.BoolOp .Or (a::b::rest) pos) (lT X (comb false p q).2):=⟨u_or ha.1 hb.1,jpb ha.2 hb.2⟩
def se_v    (C:Cok T k X c)(q:okE T c (.v i) h=true):SE T k X c (.v i) h:=tru (jo6 (C.nm (ba (ba (ba q).1).1).1) (C.vis (ba (ba (ba q).1).1).2) (bn (ba (ba q).1).2) (bn (ba q).2)) λ_=>rfl
def se_g    (C:Cok T k X c)(q:okE T c (.g n) h=true):SE T k X c (.g n) h:=by
 have h1:=of_decide_eq_true (ba (ba q).1).1;have h2:=of_decide_eq_true (ba (ba q).1).2;have hn:T.gn[n]?=some (T.gn.getD n ""):=by simp_all
 obtain⟨v,w,m,r,ru⟩:=C.gls n _ T.gs[n] hn (by simp[h1])
 obtain⟨g1,g2⟩:=C.gl (ba q).2;refine tru (PE.imp (u_gl (u:=T.gs[n]) g1 m r ru g2) λσ H Q0 ⟨ς,G,Q,E,hς,hG,h,lv,lx⟩=>⟨ς,G,Q,E,hς,hG,?_,lv,lx⟩) λ_=>rfl;have h':glU T.gs n λu=>Q u G:=h;unfold glU at h'
 simp_all
def jpy    (C:Cok T k X c)(q:okE T c (.ty n) h=true):SE T k X c (.ty n) h:=by
 obtain⟨g1,g2⟩:=C.gl (ba q).2;obtain⟨t1,t2,t3⟩:=jm9 n (by simpa using (ba q).1)
 exact tru (u_ty g1 (C.blt _ t2) t1 t3 g2) λ_=>rfl
def jnn     (h1:PPs X h.pos (unK T c es (dk h)) (unV T c es (cl h)) trs)(h2:lD X (denD T.gs (jab T k) es) trs)(h3:(unK T c es (dk h)).all (·.isSome)=true)(h4:(unK T c es (dk h)).length=(unV T c es (cl h)).length)
  (h5:(unK T c es (dk h)).length<=15):SE T k X c (.dic es) h:=by
 refine tru ?_ λ_=>rfl
 match es,h1,h2,h3,h4,h5 with
 |.nil,_,_,_,_,_=>exact PE.imp jm4 λσ H Q0 ⟨ς,G,Q,E,hς,hG,h,lv,lx⟩=>⟨ς,G,Q,E,hς,hG,(show([]:List (Key×U)).length<=15/\newO G (.dK (jd9 [])) Q from h).2,lv,lx⟩
 |.cons _ .nil,_,_,_,_,_=>exact λpins s σ H Q0 I ⟨ς,G,Q,E,hς,hG,h,lv,lx⟩=>(show False from h).elim
 |.cons d (.cons f es),h1,h2,h3,h4,h5=>exact jpi h1 h2 h3 h4 (λz=>nomatch z) h5
def jlE     (C:Cok T k X c)(q:okE T c (.call n es) h=true)(ha:PA X (unEs T c es (cl h)) (lA X (jaw T.gs (jab T k) es))):SE T k X c (.call n es) h:=by
 refine tru ?_ λ_=>rfl;have hn:=of_decide_eq_true (ba (ba q).1).1;have hd':T.funs[n]?=some T.funs[n]:=by simp[hn]
 have hx:T.funs[n].name=fnN T n:=by unfold fnN;rw[hd']
 match es,ha with
 |.nil,_=>exact jlq C hd' hx (ba (ba q).1).2
 |.cons d es,ha=>exact jm7 C hd' hx (ba (ba q).1).2 ha (jah (jar d _) _ _) (jb5 es _ _ _).1
def jno     (C:Cok T k X c)(q:okE T c (.blt b es) h=true)(ha:PA X (unEs T c es (cl h)) (lA X (jaw T.gs (jab T k) es))):SE T k X c (.blt b es) h:=by
 refine tru ?_ λ_=>rfl;obtain⟨g1,g2⟩:=C.gl (ba (ba q).1).2
 match es,ha,q with
 |.nil,_,q=>exact absurd (of_decide_eq_true (ba (ba q).1).1) (Ybe 0)
 |.cons d es,ha,_=>exact jpk (jo0 C.room C.calm b) g1 (C.blt _ (jmo b)) ha (jah (jar d _) _ _) (jb5 es _ _ _).1
def jlD      (hu:X.A.units+1<cLine)(q:okE T c (.meth m o es) h=true)(ho:PE X (unE T c o (c0 (c0 h))) (lE X (den T.gs (jab T k) o).1))(ha:PA X (unEs T c es (cl h)) (lA X (jaw T.gs (jab T k) es))):SE T k X c (.meth m o es) h:=by
 refine tru ?_ λ_=>rfl;have h6:=(ba q).2;have h5:=of_decide_eq_true (ba (ba q).1).2;have h4:=(ba (ba (ba q).1).1).2
 match es,ha,h5 with
 |.nil,_,_=>exact jlo (jiS hu m) ho (jgH h6 _ _ _) h4
 |.cons d es,ha,h5=>
  refine jkE (jiS hu m) ho ha (jgH h6 _ _ _) ?_ h4 (jah (jar d _) _ _) (jb5 es _ _ _).1;have e:=(jb5 (T:=T) (c:=c) (.cons d es) (cl h) X.env h.pos).2;show((backTo h.pos (Yap (unEs T c (.cons d es) (cl h)) X.env)).all (λx=>!x.1)&&_&&decide ((unEs T c (.cons d es) (cl h)).length+0+0<30))=true;rw[e,jh7];exact decide_eq_true h5
def s_r2     (C:Cok T k X c)(g:glo c "range" = true)(ha:SE T k X c a (hd (cl h)))(hb:SE T k X c b (hd (cl h).tail)):PI X tg (unI T c (.r2 a b) h) (lI X (denI T.gs (jab T k) (.r2 a b))):=
 u_r2 (C.gl g).1 (C.blt _ (by decide)) ha.1 hb.1 (by rw[jah (jar a _),jah (jar b _)];rfl) (jah (jar b _) _ _)
def jnp    (h:PT X e (lT X (den T.gs (jab T k) d).2)):PIfs X [e] (lT0 X.K (denC T.gs (jab T k) (.cons d .nil))):=by
 refine PIfs.imp (jlS (lT0.of h)) λσ H Q0 ⟨ς,G,Q,h1,h2,h3,h4⟩=>⟨ς,G,λb G'=>Q b G',h1,h2,?_,h4⟩;have h3':(den T.gs (jab T k) d).2 ς G (λb G1=>if b=true then Q true G1 else Q false G1) (λ_ _=>False):=h3
 have e:(λ(b:Bool) (G1:Gp)=>if b=true then Q true G1 else Q false G1)=λb G'=>Q b G':=by
  grind
 lia
def jnq  : PIfs X [] (lT0 X.K (denC T.gs (jab T k) .nil)):=PIfs.imp jlT λσ H Q0 ⟨ς,G,Q,h1,h2,h3,h4⟩=>h4 true G H h2 (Fr.refl _ _) h3
theorem jox  : ∀es hs ,2*(unK T c es hs).length<=jbT es
 |.nil,_=>Yab _
 |.cons _ .nil,_=>Ya8 _
 |.cons _ (.cons _ es),hs=>by
  have:=jox es hs.tail;show 2*((unK T c es hs.tail).length+1)<=jbT es+1+1
  lia
def k_le    (h:jbT es<=30):(unK T c es hs).length<=15:=by
 have:=jox (T:=T) (c:=c) es hs
 lia
end
mutual
theorem sE:∀(ir:E) {X:Cx} {c:Ctx} {h:Expr},Cok T k X c->okE T c ir h=true->SE T k X c ir h
 |.v _,_,_,_,C,q=>se_v C q
 |.non,_,_,_,_,_=>tru (jcL (u:=.non) jnM λ_=>rfl) λ_=>rfl
 |.bl b,_,_,_,_,_=>tru (jcL (u:=.bl b) jnP λ_=>rfl) λ_=>rfl
 |.int i,_,_,_,_,_=>tru (jcL (u:=.int i) jnO λ_=>rfl) λ_=>rfl
 |.str x,_,_,_,_,_=>tru (jcL (u:=.str x) jkM λ_=>rfl) λ_=>rfl
 |.g _,_,_,_,C,q=>se_g C q
 |.ty _,_,_,_,C,q=>jpy C q
 |.bin o a b,_,_,_,C,q=>tru (jpl (jnX o) (sE a C (ba q).1).1 (sE b C (ba q).2).1) λ_=>rfl
 |.neg a,_,_,_,C,q=>tru (jpd (sE a C q).1) λ_=>rfl
 |.not a,_,_,_,C,q=>⟨jpc (sE a C q).1,jm2 (sE a C q).2⟩
 |.bop k a es,_,_,h,C,q=>let r:=sB es k C (sE a C (ba q).1) (ba q).2 h.pos;⟨r.1,r.2.pt⟩
 |.cmp o a b,_,_,_,C,q=>⟨jpj (jeL C.room o) (sE a C (ba (ba q).1).1).1 (sE b C (ba (ba q).1).2).1 (bn (ba q).2),jm5 (jeL C.room o) (sE a C (ba (ba q).1).1).1 (sE b C (ba (ba q).1).2).1 (bn (ba q).2)⟩
 |.cmp2 o p a b d,_,_,_,C,q=>⟨jm6 (jeL C.room o) (jeL C.room p) (sE a C (ba (ba (ba q).1).1).1).1 (sE b C (ba (ba (ba q).1).1).2).1 (sE d C (ba (ba q).1).2).1 (bn (ba q).2),
   PT.imp (jlp (jeL C.room o) (jeL C.room p) (sE a C (ba (ba (ba q).1).1).1).1 (sE b C (ba (ba (ba q).1).1).2).1 (sE d C (ba (ba q).1).2).1 (bn (ba q).2)) λ_ _ _ ⟨ς,G,Q,E,hς,hG,h,lv,lx⟩=>⟨ς,G,Q,E,hς,hG,h,lv,lx⟩⟩
 |.ife t a b,_,_,_,C,q=>⟨jph (sE t C (ba (ba q).1).1).2 (sE a C (ba (ba q).1).2).1 (sE b C (ba q).2).1,jm3 (sE t C (ba (ba q).1).1).2 (sE a C (ba (ba q).1).2).2 (sE b C (ba q).2).2⟩
 |.tup es,_,_,_,C,q=>tru (jo7 (sEs es C q)) λ_=>rfl
 |.lst es,_,_,_,C,q=>tru (jpg (sEs es C q)) λ_=>rfl
 |.dic es,_,_,h,C,q=>let ⟨_,h1,h2,h3,h4⟩:=sD es C h.pos (ba q).1;jnn h1 h2 h3 h4 (k_le (of_decide_eq_true (ba q).2))
 |.ix a b,_,_,_,C,q=>tru (u_ix C.hu (sE a C (ba q).1).1 (sE b C (ba q).2).1 (jmF (jar b _))) λ_=>rfl
 |.sl a lo hi,_,_,_,C,q=>tru (u_sl (sE a C (ba (ba q).1).1).1 (sO lo C (ba (ba q).1).2) (sO hi C (ba q).2)) λ_=>rfl
 |.rev a b,_,_,_,C,q=>tru (jm1 (sE a C (ba q).1).1 (sE b C (ba q).2).1) λ_=>rfl
 |.call _ es,_,_,_,C,q=>jlE C q (sEs es C (ba q).2)
 |.app _ _,_,_,_,_,_=>⟨λ_ _ _ _ _ _ ⟨_,_,_,_,_,_,h,_⟩=>(show False from h).elim,λ_ _ _ _ _ _ ⟨_,_,_,_,_,_,h,_⟩=>(show False from h).elim⟩
 |.blt _ es,_,_,_,C,q=>jno C q (sEs es C (ba q).2)
 |.meth _ o es,_,_,_,C,q=>jlD C.hu q (sE o C (ba (ba (ba (ba q).1).1).1).1).1 (sEs es C (ba (ba (ba (ba q).1).1).1).2)
 |.lc _ t it ifs d,_,_,_,C,q=>let S:=C.comp (ba (ba (ba (ba (ba (ba q).1).1).1).1).1).1
   tru (u_lc C.calm S.1 (sI it t _ _ C (ba (ba (ba (ba q).1).1).1).2).1 (ba (ba (ba (ba (ba (ba q).1).1).1).1).1).2 (λcl A s₀ H₀ fp=>sTg (S.2 cl A s₀ H₀ fp) t _ (ba (ba (ba (ba (ba q).1).1).1).1).2)
    (λcl A s₀ H₀ fp=>sC ifs (S.2 cl A s₀ H₀ fp) (of_decide_eq_true (ba (ba q).1).2) (ba (ba (ba q).1).1).2) (λcl A s₀ H₀ fp=>lE0.of (sE d (S.2 cl A s₀ H₀ fp) (ba q).2).1) (sI it t ⟨[],[]⟩ e0 C (ba (ba (ba (ba q).1).1).1).2).2) λ_=>rfl
 |.mkL d,_,_,_,C,q=>tru (jpf (C.gl (ba q).1).1 (C.blt _ (by decide)) (sE d C (ba q).2).1 (jah (jar d _) _ _)) λ_=>rfl
 |.mkT d,_,_,_,C,q=>tru (jpe (C.gl (ba q).1).1 (C.blt _ (by decide)) (sE d C (ba q).2).1 (jah (jar d _) _ _)) λ_=>rfl
 |.rngL d,_,_,_,C,q=>tru (jm0 C.calm (C.gl (ba (ba q).1).1).1 (C.blt _ (by decide)) (C.gl (ba (ba q).1).2).1 (C.blt _ (by decide)) (sE d C (ba q).2).1 (jah (jar d _) _ _) rfl) λ_=>rfl
theorem sO:∀(ir:Eo) {X:Cx} {c:Ctx} {h:Expr},Cok T k X c->okO T c ir h=true->PO X (unO T c ir h) (lO X (denO T.gs (jab T k) ir))
 |.no,_,_,_,_,_=>u_no
 |.so d,_,_,_,C,q=>u_so (sE d C q).1
theorem sEs:∀(ir:Es) {X:Cx} {c:Ctx} {hs:List Expr},Cok T k X c->okEs T c ir hs=true->PA X (unEs T c ir hs) (lA X (jaw T.gs (jab T k) ir))
 |.nil,_,_,_,_,_=>jf0
 |.cons d ir,_,_,_,C,q=>jc0 (sE d C (ba q).1).1 (sEs ir C (ba q).2) (jah (jar d _) _ _)
theorem sB:∀(ir:Es) (b:Bool) {X:Cx} {c:Ctx} {hs:List Expr} {a:Expr} {p:UE×UT},Cok T k X c->PE X a (lE X p.1)/\PT X a (lT X p.2)->okEs T c ir hs=true->∀pos:Pos,
  PE X (.BoolOp (boU b) (a::unEs T c ir hs) pos) (lE X (denB T.gs (jab T k) b p ir).1)/\PW X (.BoolOp (boU b) (a::unEs T c ir hs) pos) (lT X (denB T.gs (jab T k) b p ir).2)
 |.nil,true,_,_,_,_,_,_,ha,_,_=>⟨jg1 ha.1,pw_and1 ha.2⟩
 |.nil,false,_,_,_,_,_,_,ha,_,_=>⟨jg1 ha.1,pw_or1 ha.2⟩
 |.cons d ir,true,_,_,_,_,_,C,ha,q,pos=>jnr ha (sB ir true C (sE d C (ba q).1) (ba q).2 pos)
 |.cons d ir,false,_,_,_,_,_,C,ha,q,pos=>jpz ha (sB ir false C (sE d C (ba q).1) (ba q).2 pos)
theorem sC:∀(ir:Es) {X:Cx} {c:Ctx} {hs:List Expr},Cok T k X c->jbT ir<=1->okEs T c ir hs=true->PIfs X (unEs T c ir hs) (lT0 X.K (denC T.gs (jab T k) ir))
 |.nil,_,_,_,_,_,_=>jnq
 |.cons d .nil,_,_,_,C,_,q=>jnp (sE d C (ba q).1).2
 |.cons _ (.cons _ es),_,_,_,_,l,_=>absurd l (by show ¬(jbT es+1+1<=1);lia)
theorem sD:∀(ir:Es) {X:Cx} {c:Ctx} {hs gs:List Expr},Cok T k X c->(p:Pos)->okD T c ir hs gs=true->∃trs,PPs X p (unK T c ir hs) (unV T c ir gs) trs/\lD X (denD T.gs (jab T k) ir) trs/\(unK T c ir hs).all (·.isSome)=true/\(unK T c ir hs).length=(unV T c ir gs).length
 |.nil,_,_,_,_,_,_,_=>⟨[],jlP,joq,rfl,rfl⟩
 |.cons d (.cons f ir),_,_,_,_,C,p,q=>let ⟨_,h1,h2,h3,h4⟩:=sD ir C p (ba q).2;⟨_,jjX (sE d C (ba (ba q).1).1).1 (sE f C (ba (ba q).1).2).1 h1,jms h2,h3,congrArg (·+ 1) h4⟩
 |.cons _ .nil,_,_,_,_,_,_,q=>nomatch q
theorem sI:∀(ir:It) (t:Tg) (ct:Ctx) (ht:Expr) {X:Cx} {c:Ctx} {h:Expr},Cok T k X c->okI T c t ir h=true->PI X (unTg ct t ht) (unI T c ir h) (lI X (denI T.gs (jab T k) ir))/\∀x,Ya0 (unI T c ir h) X.env x=pure x
 |.e d,_,_,_,_,_,_,C,q=>⟨u_ie (sE d C q).1,jfC (jar d _) _⟩
 |.r1 d,_,_,_,_,_,_,C,q=>⟨u_r1 (C.gl (ba q).1).1 (C.blt _ (by decide)) (sE d C (ba q).2).1 (jah (jar d _) _ _),λ_=>rfl⟩
 |.r2 a b,_,_,_,_,_,_,C,q=>⟨s_r2 C (ba (ba q).1).1 (sE a C (ba (ba q).1).2) (sE b C (ba q).2),λ_=>rfl⟩
end
end

noncomputable def swF  (sb:Bool)(names:List Str)(bk:ScopeKind)(ts vs:List Expr):Sem (Option (List Str)):=
 if (!(ts.length==2||ts.length==3)||vs.length != ts.length||bk != .function)=true then pure none
 else if sb=true then pure none
 else if (names.length != ts.length||names.eraseDups.length != names.length)=true then pure none
 else if vs.all (Yfo 8)=true then pure none
 else if vs.all (constantsAlone 8)=true then do unsupported "assign.tuple-of-constant-expressions:order-of-the-stores";pure (some names)
 else pure (some names)
def jeS  (env:Env)(ts:List Expr):List Str:=ts.filterMap fun
  |.Name id pos=>if env.kindOf id==some .local&&pos.line==jkJ ts then some id else none
  |_=>none
def jnf     : Ybh [.Tuple ts a p] (.Tuple vs b q) env=swF (vs.any jhc) (jeS env ts) env.blockKind ts vs:=by
 have e1:jhc=fun|.Starred ..=>true|_=>false:=by funext e;cases e<;>rfl
 with_unfolding_all rfl
def jgU  (hk:∀x,env.kindOf x=c.sc.lookup x) ts:jeS env ts=jan c ts:=by
 unfold jan jeS;congr 1;funext e;cases e<;>first|rfl|(dsimp only;rw[hk])
def jig  (hk:∀x,env.kindOf x=c.sc.lookup x)(hb:env.blockKind=.function)(h:jcV c ts vs=true):Ybh [.Tuple ts a p] (.Tuple vs b q) env=pure none:=by
 rw[jnf,jgU hk,hb];unfold swF;unfold jcV at h;by_cases h1:(!(ts.length==2||ts.length==3)||vs.length != ts.length)=true
 ·rw[if_pos (by rw[h1];rfl)]
 ·have h1':(!(ts.length==2||ts.length==3)||vs.length != ts.length)=false:=by simpa using h1
  rw[h1']at h;rw[if_neg (by rw[h1'];decide)]
  simp only[YeN,Yaf,Ycq]at h;obtain⟨h2,h3⟩:=h;rw[if_neg (by rw[h2];decide)]
  by_cases h4:((jan c ts).length != ts.length||(jan c ts).eraseDups.length != (jan c ts).length)=true
  ·rw[if_pos h4]
  ·rw[if_neg h4];have h4':((jan c ts).length != ts.length||(jan c ts).eraseDups.length != (jan c ts).length)=false:=by simpa using h4
   rw[h4']at h3;rw[if_pos (by simpa using h3)]
def jif  (hk:∀x,env.kindOf x=c.sc.lookup x)(hb:env.blockKind=.function)(h:swapped c ts vs=true):Ybh [.Tuple ts a p] (.Tuple vs b q) env=pure (some (jan c ts)):=by
 rw[jnf,jgU hk,hb];unfold swF;unfold swapped at h;simp only[Yaf,Ycq]at h;obtain⟨⟨⟨⟨⟨⟨h1,h2⟩,h3⟩,h4⟩,h5⟩,h6⟩,h7⟩:=h;have e1:(!(ts.length==2||ts.length==3)||vs.length != ts.length||(YeG != YeG))=false:=by
  have:(vs.length != ts.length)=false:=by simpa using h2
  rw[h1,this];rfl
 rw[if_neg (by rw[e1];decide),if_neg (by rw[h3];decide)]
 have e2:((jan c ts).length != ts.length||(jan c ts).eraseDups.length != (jan c ts).length)=false:=by
  have z1:((jan c ts).length != ts.length)=false:=by simpa using h4
  have z2:((jan c ts).eraseDups.length != (jan c ts).length)=false:=by simpa using h5
  rw[z1,z2];rfl
 rw[if_neg (by rw[e2];decide),if_neg (by rw[h6];decide),if_neg (by rw[h7];decide)]
def jjL  (hk:∀x,env.kindOf x=c.sc.lookup x)(hb:env.blockKind=.function)(h:lcSw c y py p s=true) :
  Ycg (.ListComp elt gs s p) (some (.Name y py)) l env=pure true:=by
 unfold lcSw at h;simp only[Yaf]at h;unfold Ycg;dsimp only;show(pure (env.blockKind == .function&&env.kindOf y==some .local&&py.line==p.line && !(s.names.any λ(n,k)=>n==y&&(k == .local||k == .cell))):Sem Bool)=pure true
 grind
def jjK  {c: Ctx}(hk:∀x,env.kindOf x=c.sc.lookup x)(h:(c.sc.lookup y==some .local)=false) :
  Ybz [.Name y py] (.ListComp elt gs s p) l env=pure false:=by
 show(pure (env.blockKind == .function&&env.kindOf y==some .local&&py.line==p.line && !(s.names.any λ(n,k)=>n==y&&(k == .local||k == .cell))):Sem Bool)=pure false
 grind
section
variable {T:Tab}{k:Nat}
def Cos.kindOf    (C:Cos T k X c):∀x,X.env.kindOf x=c.sc.lookup x:=λx=>by
 unfold Env.kindOf;rw[C.sc]
def Cos.block    (C:Cos T k X c):X.env.blockKind=.function:=by
 unfold Env.blockKind;rw[C.kind];rfl
theorem jkQ   : ∀(is:List Nat) hs ,(unNs c is hs).length=is.length
 |[],_=>rfl
 |_::is,hs=>congrArg (·+ 1) (jkQ is hs.tail)
def sw2     (h:(jan c [.Name x p,.Name y q]).length=2):jan c [.Name x p,.Name y q]=[x,y]:=by
 unfold jan at h ⊢;simp only[YcD,List.filterMap_nil]at h ⊢;split at h<;>split at h<;>simp_all

def jnj     (C:Cos T k X c)(q:okS T c (.asg t d) h=true)(hs:PE X (unE T c d (q0 h)) (lE X (den T.gs (jab T k) d).1)):PS X (unS T c (.asg t d) h) (lS X (denS T.gs (jab T k) (.asg t d))):=by
 have hg:=sTg C.toCok t (q1 h) (ba (ba q).1).2;have q3:=(ba q).2;have fin:Ybz [unTg c t (q1 h)] (unE T c d (q0 h)) h.pos.line X.env=pure false/\Ybh [unTg c t (q1 h)] (unE T c d (q0 h)) X.env=pure none:=by
  cases t with
  |n i=>
   refine⟨?_,jo5 d _ _ _ _⟩;by_cases hl:isLc d=true
   ·cases d with
    |lc=>exact jjK C.kindOf (bn q3)
    |_=>cases hl
   ·exact jlj (by lia) _ _ _ _
  |t ts=>
   cases d with
   |lc=>cases q3
   |tup es=>exact⟨rfl,jig C.kindOf C.block q3⟩
   |_=>exact⟨rfl,rfl⟩
 exact s_asg hs hg fin.1 fin.2 (jll t _ _)
def jni     (C:Cos T k X c)(q:okS T c (.par is es) h=true)(ha:PA X (unEs T c es (cl (q0 h))) (lA X (jaw T.gs (jab T k) es))):PS X (unS T c (.par is es) h) (lS X (denS T.gs (jab T k) (.par is es))):=by
 have h3:=(ba (ba q).1).2;have h2:=(ba (ba (ba q).1).1).2;have hsw:=jif (a:=kk (q1 h)) (b:=kk (q0 h)) (p:=(q1 h).pos) (q:=(q0 h).pos) C.kindOf C.block h3;unfold swapped at h3;simp only[Yaf,YbD,beq_iff_eq]at h3;obtain⟨⟨⟨⟨⟨⟨_,l2⟩,_⟩,l4⟩,_⟩,_⟩,_⟩:=h3;rw[jh7,jkQ]at l2;have l1:is.length=2:=of_decide_eq_true (ba q).2;have nd:X.N.Nodup:=by rw[C.hN];exact C.nd
 match is,es,l1,l2,l4,hsw,h2,ha with
 |[i,j],.cons a (.cons b .nil),_,_,l4,hsw,h2,ha=>
  have u1:=ba h2;have u2:=ba u1.2;refine s_par2 C.calm nd (C.nm (ba (ba u1.1).1).1) (C.nm (ba (ba u2.1).1).1) (by simp_all) (C.loc _ (ba (ba u1.1).1).2) (C.loc _ (ba (ba u2.1).1).2) ha ?_ rfl
  rw[<- sw2 l4];exact hsw
 |[],_,l1,_,_,_,_,_=>exact absurd l1 (by simp)
 |[_],_,l1,_,_,_,_,_=>exact absurd l1 (by simp)
 |_::_::_::_,_,l1,_,_,_,_,_=>exact absurd l1 (by simp)
 |[_,_],.nil,_,l2,_,_,_,_=>exact absurd l2 (by simp[jbT])
 |[_,_],.cons _ .nil,_,l2,_,_,_,_=>exact absurd l2 (by simp[jbT])
 |[_,_],.cons _ (.cons _ (.cons _ _)),_,l2,_,_,_,_=>exact absurd l2 (by simp[jbT])
def jlw     (C:Cos T k X c)(q:okS T c (.asgC i d) h=true):PS X (unS T c (.asgC i d) h) (lS X (denS T.gs (jab T k) (.asgC i d))):=by
 have qd:=(ba (ba (ba q).1).1);have hl:=(ba q).2;have hi:=C.nm (ba (ba q).1).2;have hy:=eq_of_beq (ba (ba hl).1).1;cases d with
 |lc pick t it ifs d=>
  have q1':=qd.2;have S:=C.toCok.comp (ba (ba (ba (ba (ba (ba q1').1).1).1).1).1).1;exact s_lc (by rw[C.hN];exact C.nd) hi (by rw[C.sc];exact hy) C.calm S.1 (sI it t _ _ C.toCok (ba (ba (ba (ba q1').1).1).1).2).1 (ba (ba (ba (ba (ba (ba q1').1).1).1).1).1).2
   (λcl A s₀ H₀ fp=>sTg (S.2 cl A s₀ H₀ fp) t _ (ba (ba (ba (ba (ba q1').1).1).1).1).2) (λcl A s₀ H₀ fp=>sC ifs (S.2 cl A s₀ H₀ fp) (of_decide_eq_true (ba (ba q1').1).2) (ba (ba (ba q1').1).1).2)
   (λcl A s₀ H₀ fp=>lE0.of (sE d (S.2 cl A s₀ H₀ fp) (ba q1').2).1) (jjL C.kindOf C.block hl) (jlk it _ _)
 |_=>cases qd.1
def jjN     (C:Cos T k X c)(q:okS T c (.raise n es) h=true):PS X (unS T c (.raise n es) h) (lS X (denS T.gs (jab T k) (.raise n es))):=by
 have q':(okC T.cs c n&&decide (0<jbT es)&&okEs T c es (cl (qr h)))=true:=q
 match es,q' with
 |.nil,q'=>exact absurd (of_decide_eq_true (ba (ba q').1).2) (Ybe 0)
 |.cons d es,q'=>exact s_raise C.toCok (ba (ba q').1).1 (sEs (.cons d es) C.toCok (ba q').2) (jah (jar d _) _ _) (jb5 es _ _ _).1
def Cos.tryC    (C:Cos T k X c)(po:Yc5 (model X.prog X.w) X.A X.env xe):Cos T k (X.tryC pins xe) c:=
 ⟨⟨C.hN,C.nd,C.loc,C.cel,C.fre,C.glb,C.room,C.calm,po,C.blt,C.fns,C.gls,C.room2,C.cls,C.mgK⟩,C.sc,C.kind,C.stk⟩
mutual
theorem sS:∀(ir:S) {X:Cx} {c:Ctx} {h:Stmt},Cos T k X c->okS T c ir h=true->PS X (unS T c ir h) (lS X (denS T.gs (jab T k) ir))
 |.expr d,_,_,_,C,q=>s_expr (sE d C.toCok (ba q).1).1 (jlm (bn (ba q).2) _ _ _)
 |.asg _ d,_,_,_,C,q=>jnj C q (sE d C.toCok (ba (ba q).1).1).1
 |.asgC _ _,_,_,_,C,q=>jlw C q
 |.setS o i d,_,_,_,C,q=>s_set C.toCok.hu (sE d C.toCok (ba (ba q).1).1).1 (sE o C.toCok (ba (ba q).1).2).1 (sE i C.toCok (ba q).2).1 (jkD d _ _ _ _ _ _).1 (jkD d _ _ _ _ _ 0).2 rfl (jkm (jar i _) _ _)
 |.par _ es,_,_,_,C,q=>jni C q (sEs es C.toCok (ba (ba (ba q).1).1).1)
 |.aug _ _ d,_,_,_,C,q=>let s:=C.toCok.store (ba (ba q).1).2;s_aug (by rw[C.hN];exact C.nd) (C.nm (ba (ba q).1).1) s.1 s.2 (sE d C.toCok (ba q).2).1
 |.ite t a b,_,_,_,C,q=>s_if (sE t C.toCok (ba (ba q).1).1).2 (sSs a C (ba (ba q).1).2) (sSs b C (ba q).2)
 |.fr t it b,_,_,_,C,q=>s_for C.po C.calm (sI it t _ _ C.toCok (ba (ba q).1).2).1 (sTg C.toCok t _ (ba (ba q).1).1) (sSs b C (ba q).2) (sI it t ⟨[],[]⟩ e0 C.toCok (ba (ba q).1).2).2
 |.wh t b,_,_,_,C,q=>s_wh C.po (sE t C.toCok (ba q).1).2 (sSs b C (ba q).2)
 |.ret d,_,_,_,C,q=>s_ret (sE d C.toCok q).1
 |.raise _ _,_,_,_,C,q=>jjN C q
 |.tr b _ _ _,_,_,_,C,q=>s_try C (ba (ba (ba (ba (ba (ba (ba (ba q).1).1).1).1).1).1).1).2 (ba (ba (ba (ba (ba (ba (ba q).1).1).1).1).1).1).2 (ba (ba (ba (ba (ba (ba q).1).1).1).1).1).2 (ba (ba (ba (ba (ba q).1).1).1).1).2 (bn (ba (ba (ba (ba q).1).1).1).2) (bn (ba (ba (ba q).1).1).2) (bn (ba (ba q).1).2) (ba q).2
   λ_ _ po=>sSs b (C.tryC po) (ba (ba (ba (ba (ba (ba (ba (ba q).1).1).1).1).1).1).1).1
theorem sSs:∀(ir:Ss) {X:Cx} {c:Ctx} {hs:List Stmt},Cos T k X c->okSs T c ir hs=true->PSs X (unSs T c ir hs) (lS X (jal T.gs (jab T k) ir))
 |.nil,_,_,_,_,_=>s_nil
 |.cons s r,_,_,_,C,q=>s_cons (t:=denS T.gs (jab T k) s) (u:=jal T.gs (jab T k) r) (sS s C (ba q).1) (sSs r C (ba q).2)
end
end
section
variable {T:Tab}{k:Nat}{X:Cx}{c:Ctx}
structure CloU (X:Cx)(f:Addr)(Ψ:List U->Gp->K1->KX->Prop):Prop where
 fn:∀(pins:List (Addr×Obj)) (σ:St) (H:Hp) (s:Shared),Inv X pins σ H s->PySem.W.FnAt f s.heap
 run:∀(pins:List (Addr×Obj)) (σ:St) (H:Hp) (s:Shared) (us:List Value) (vs:List V) (Q0:VK) (E0:XK),Inv X pins σ H s->Vals vs us->lSp X.K Ψ vs H Q0 E0->
  codeAny (model X.prog X.w) X.A (.call (.ref f) ⟨us,[]⟩) (CR (CX1 X.prog X.w) X.stack X.prog X.w H s Q0 E0) s
def appD  (i:Nat)(f:Addr)(Ψ:List U->Gp->K1->KX->Prop)(ts:UA):UE:=λς G Q E=>slot ς i λu=>u=.loc f/\ts ς G (λus G1=>Ψ us G1 Q E) E
def jbA     (h:slot ς i φ):∃u,ς[i]?=some (some u)/\φ u:=by
 unfold slot at h
 grind
def jpm          (A:CloU X f Ψ)(hN:X.N[i]?=some x)(hv:Vis X.env.scope x)(hd:(x==("__debug__" : Str))=false)(hcd:(x==("__classdict__" : Str))=false)
  (ha:PA X (e::es) (lA X ts)) (he:Yap (e::es) X.env=(false,eval e X.env)::Yap es X.env) (hpl:(backTo pos (Yap es X.env)).any (·.1)=false) :
  PE X (.Call (.Name x p) (e::es) [] pos) (lE X (appD i f Ψ ts)):=by
 intro pins s σ H Q0 I ⟨ς,G,Q,E,hς,hG,h,lv,lx⟩;obtain⟨u,hu,rfl,h⟩:=jbA h;obtain⟨v,ev,rv⟩:=hς.2 i _ hu;obtain rfl:v=.ref f:=rv;refine Ybl (thn (jbC hN hv hd hcd pins s σ H (λv' H'=>v'=.ref f/\H'=H) I ⟨_,ev,rfl,rfl⟩) λu0 s0 ⟨v0,H0,I0,r0,e1,e2⟩=>?_);subst e1;subst e2;obtain rfl:u0=YaP f:=r0;have h':lA X ts σ H0 λvs H1=>lSp X.K Ψ vs H1 Q0 (EB X σ):=⟨ς,G,_,E,hς,hG,h,λus vs G1 H1 rs hG1 f1 h1=>⟨us,G1,Q,E,rs,hG1,h1,lv.fr f1,λx G' H' C dx xd hr f q pins ea s' I' l=>(lx.fr f1) pins (.ref ea) s' x G' H' I' ⟨ea,C,dx,rfl,l,xd⟩ hr f q⟩,lx⟩;refine PySem.W.callWith_F (first:=[]) (A.fn pins σ H0 s0 I0) (thn (ha pos pins s0 σ H0 _ I0 h') λus s1 ⟨vs,H1,I1,r,q⟩=>⟨A.fn pins σ H1 s1 I1,?_⟩) he hpl
 refine Yej (YcY (A.run pins σ H1 s1 us vs Q0 (EB X σ) I1 r q) λr s' hq=>?_);cases r with
 |error e=>
  obtain⟨ea,H',cls,dx,rfl,I',l,q⟩:=CX1.back I1 hq;exact q pins ea s' I' l
 |ok fl=>
  cases fl with
  |ret u=>exact I1.after hq
  |next=>exact YbC hq
  |brk=>exact YbC hq
  |cont=>exact YbC hq
noncomputable abbrev es2  (a b:Nat):Es:=.cons (.v a) (.cons (.v b) .nil)
abbrev ltS1  (w:Nat):S:=.asg (.n w) (.lst (.cons (.tup (es2 0 1)) .nil))
noncomputable abbrev ltA  (w n:Nat):S:=.asg (.t (.cons (.n n) (.cons (.n (n+1)) .nil))) (.meth .pop (.v w) .nil)
abbrev ltC  (a d:Nat):S:=.ite (.cmp .IsNot (.v d) .non) (.cons (.raise 1 (es2 d a)) .nil) .nil
abbrev irB  : S:=.asg (.n 8) (.app 2 (es2 7 6))
abbrev irE  : S:=.expr (.meth .extend (.v 4) (.cons (.rev (.app 3 (es2 7 6)) (.neg (.int 1))) .nil))
abbrev irW  : Ss:=.cons (ltA 4 6) (.cons irB (.cons (ltC 5 8) (.cons irE (.cons (.aug 5 .Add (.int 1)) .nil))))
def irLT  : Ss:=.cons (ltS1 4) (.cons (.asg (.n 5) (.int 0)) (.cons (.wh (.v 4) irW) (.cons (.ret (.bl true)) .nil)))
def sq  (t u:US):US:=λD ς G=>t { D with nx:=λς' G'=>u D ς' G' } ς G
def sqN  : US:=λD ς G=>D.nx ς G
section
variable (gs:List U)(Δ:Cl)(f g:Addr)(Ψ Φ:List U->Gp->K1->KX->Prop)
def ltBD:US:=λD ς G=>appD 2 f Ψ (jaw gs Δ (es2 7 6)) ς G (λu G1=>tgU (.n 8) u ς λς'=>D.nx ς' G1) λx G1=>D.ex x ς G1
def ltEE:UE:=λς G Q X=>(den gs Δ (.v 4)).1 ς G (λx G1=>match mtU .extend x G1 with
 |some _=>appD 3 g Φ (jaw gs Δ (es2 7 6)) ς G1 (λz G2=>(den gs Δ (.neg (.int 1))).1 ς G2 (λy G3=>revU z y G3 λr G4=>jaI .extend x [r] G4 Q) X) X
 |none=>False) X
def ltED:US:=λD ς G=>ltEE gs Δ g Φ ς G (λ_ G1=>D.nx ς G1) λx G1=>D.ex x ς G1
def ltL:US:=sq (denS gs Δ (ltA 4 6)) (sq (ltBD gs Δ f Ψ) (sq (denS gs Δ (ltC 5 8)) (sq (ltED gs Δ g Φ) (sq (denS gs Δ (.aug 5 .Add (.int 1))) sqN))))
def ltW:US:=λD ς G=>∃W:Nat->Sg->Gp->Prop,(∃m,W m ς G)/\∀m ς1 G1,W m ς1 G1->
 (den gs Δ (.v 4)).2 ς1 G1 (λt G2=>if t=true then ltL gs Δ f g Ψ Φ { D with nx:=λς' G'=>∃m',m'<m/\W m' ς' G' } ς1 G2 else D.nx ς1 G2) λx G1=>D.ex x ς1 G1
def ltD:US:=sq (denS gs Δ (ltS1 4)) (sq (denS gs Δ (.asg (.n 5) (.int 0))) (sq (ltW gs Δ f g Ψ Φ) (jal gs Δ (.cons (.ret (.bl true)) .nil))))
end
def s_sq   {rest:List Stmt}(h1:PS X st (lS X t))(h2:PSs X rest (lS X u)):PSs X (st::rest) (lS X (sq t u)):=s_cons (t:=t) (u:=u) h1 h2
def s_sqN  : PSs X [] (lS X sqN):=s_nil
def jkV      (C:Cok T k X c)(A:CloU X f Ψ)(q:okE T c (.app i (es2 a b)) h=true):PE X (unE T c (.app i (es2 a b)) h) (lE X (appD i f Ψ (jaw T.gs (jab T k) (es2 a b)))):=
 jpm (p:=(c0 h).pos) (pos:=h.pos) A (C.nm (ba (ba (ba (ba q).1).1).1).1) (C.vis (ba (ba (ba (ba q).1).1).1).2) (bn (ba (ba (ba q).1).1).2) (bn (ba (ba q).1).2) (sEs (T:=T) (k:=k) (es2 a b) C (ba q).2) (jah (jar (.v a) _) _ _) (jb5 (.cons (.v b) .nil) _ _ _).1
def jmq     (C:Cos T k X c)(A:CloU X f Ψ)(B:CloU X g Φ)(q:okSs T c irLT hs=true):PSs X (unSs T c irLT hs) (lS X (ltD T.gs (jab T k) f g Ψ Φ)):=by
 have qr1:=(ba q).2;have qr2:=(ba qr1).2;have qw:=(ba qr2).1;have qA:=(ba qw).2;have q2:=(ba qA).2;have q3:=(ba q2).2;have q4:=(ba q3).2;have hB:PS X (unS T c irB (qh (qa (qh hs.tail.tail)).tail)) (lS X (ltBD T.gs (jab T k) f Ψ)):=by
  have qB:=(ba q2).1;exact s_asg (jkV C.toCok A (ba (ba qB).1).1) (sTg C.toCok (.n 8) _ (ba (ba qB).1).2) rfl rfl rfl
 have hE:PS X (unS T c irE (qh (qa (qh hs.tail.tail)).tail.tail.tail)) (lS X (ltED T.gs (jab T k) g Φ)):=by
  have qE:=(ba q4).1;have qm:=(ba qE).1;have h6:=(ba qm).2;have h4:=(ba (ba (ba qm).1).1).2;have qo:=(ba (ba (ba (ba qm).1).1).1).1;have qs:=(ba (ba (ba (ba (ba qm).1).1).1).2).1;exact s_expr (jkE (jiS C.toCok.hu .extend) (sE (.v 4) C.toCok qo).1 (jc0 (jm1 (jkV C.toCok B (ba qs).1) (sE (.neg (.int 1)) C.toCok (ba qs).2).1) jf0 (jah (jar (.rev (.app 3 (es2 7 6)) (.neg (.int 1))) _) _ _)) (jgH h6 _ _ _) rfl h4 (jah (jar (.rev (.app 3 (es2 7 6)) (.neg (.int 1))) _) _ _) rfl) rfl
 have hb:PSs X (unSs T c irW (qa (qh hs.tail.tail))) (lS X (ltL T.gs (jab T k) f g Ψ Φ)):=
  s_sq (sS (ltA 4 6) C (ba qA).1) (s_sq hB (s_sq (sS (ltC 5 8) C (ba q3).1) (s_sq hE (s_sq (sS (.aug 5 .Add (.int 1)) C (ba (ba q4).2).1) s_sqN))))
 have hw:PS X (unS T c (.wh (.v 4) irW) (qh hs.tail.tail)) (lS X (ltW T.gs (jab T k) f g Ψ Φ)):=s_wh C.po (sE (.v 4) C.toCok (ba qw).1).2 hb;exact s_sq (sS (ltS1 4) C (ba q).1) (s_sq (sS (.asg (.n 5) (.int 0)) C (ba qr1).1) (s_sq hw (sSs (.cons (.ret (.bl true)) .nil) C (ba qr2).2)))
end
noncomputable def vsE  : Nat->Nat->Es
 |_,0=>.nil
 |i,n+1=>.cons (.v i) (vsE (i+1) n)
abbrev ltVe  (si:Nat):S:=.expr (.meth .extend (.v 2) (.cons (.rev (.call si (es2 5 4)) (.neg (.int 1))) .nil))
def ltVw  (m fi si:Nat):Ss:=.cons (ltA 2 4) (.cons (.asg (.n 6) (.call fi (.cons (.v 5) (.cons (.v 4) (vsE 7 m))))) (.cons (ltC 3 6) (.cons (ltVe si) (.cons (.aug 3 .Add (.int 1)) .nil))))
def ltV  (m fi si:Nat):Ss:=.cons (ltS1 2) (.cons (.asg (.n 3) (.int 0)) (.cons (.wh (.v 2) (ltVw m fi si)) (.cons (.ret (.bl true)) .nil)))
section
variable {gs:List U}{Δ Δ':Cl}
def jlx      (e:ς[i]?=some (some u)):slot ς i φ=φ u:=by unfold slot;rw[e]
theorem jkC     : ∀{cs } {i } {Q },(∀j u,cs[j]?=some u->ς[i+j]?=some (some u))->jaw gs Δ (vsE i cs.length) ς G Q X=Q cs G
 |[],_,_,_=>rfl
 |u::cs,i,Q,e=>by
  show(slot ς i λx=>jaw gs Δ (vsE (i+1) cs.length) ς G (λxs G2=>Q (x::xs) G2) X)=_;rw[jlx (show ς[i]?=some (some u)from e 0 u rfl)];exact jkC (λj v hj=>by rw[show i+1+j=i+(j+1) by lia];simp_all)
noncomputable def mkv  (th st w a:U)(n h d:Option U)(cs:List U):Sg:=some th::some st::some w::some a::n::h::d::cs.map some
noncomputable def mka  (th st:U)(f g:Addr)(w a:U)(n h d:Option U):Sg:=[some th,some st,some (.loc f),some (.loc g),some w,some a,n,h,d]
def jpY      j u (e:cs[j]?=some u):(mkv th st w a n h d cs)[7+j]?=some (some u):=by
 show(some th::some st::some w::some a::n::h::d::cs.map some)[7+j]?=_;rw[show 7+j=j+1+1+1+1+1+1+1 by lia]
 simp only[YeK,YaD,e];rfl

def jmp  {ex: KX}(hk:∀w a x y d G,nv (mkv th st w a (some x) (some y) (some d) cs) G=na (mka th st f g w a (some x) (some y) (some d)) G) :
  jal gs Δ (ltVw cs.length fi si) ⟨nv,rt,λx _ G'=>ex x G'⟩ (mkv th st w a n h d cs) G=ltL gs Δ' f g (λus G Q E=>Δ fi (us++cs) G Q E) (λus G Q E=>Δ si us G Q E) ⟨na,rt,λx _ G'=>ex x G'⟩ (mka th st f g w a n' h' d') G:=by
 have eF:∀x y d G,jal gs Δ (.cons (.aug 3 .Add (.int 1)) .nil) ⟨nv,rt,λx _ G'=>ex x G'⟩ (mkv th st w a (some x) (some y) (some d) cs) G=sq (denS gs Δ' (.aug 5 .Add (.int 1))) sqN ⟨na,rt,λx _ G'=>ex x G'⟩ (mka th st f g w a (some x) (some y) (some d)) G:=λx y d G=>by
  show(jgt .Add a (.int 1) G λz G2=>nv (mkv th st w z (some x) (some y) (some d) cs) G2)=(jgt .Add a (.int 1) G λz G2=>na (mka th st f g w z (some x) (some y) (some d)) G2);exact congrArg (jgt .Add a (.int 1) G) (funext λz=>funext λG2=>hk w z x y d G2)
 have eE:∀x y d G,jal gs Δ (.cons (ltVe si) (.cons (.aug 3 .Add (.int 1)) .nil)) ⟨nv,rt,λx _ G'=>ex x G'⟩ (mkv th st w a (some x) (some y) (some d) cs) G =
   sq (ltED gs Δ' g λus G Q E=>Δ si us G Q E) (sq (denS gs Δ' (.aug 5 .Add (.int 1))) sqN) ⟨na,rt,λx _ G'=>ex x G'⟩ (mka th st f g w a (some x) (some y) (some d)) G:=λx y d G=>by
  show(match mtU .extend w G with
   |some _=>Δ si [y,x] G (λz G2=>negU (.int 1) G2 λo G3=>revU z o G3 λr G4=>jaI .extend w [r] G4 λ_ G5=>jal gs Δ (.cons (.aug 3 .Add (.int 1)) .nil) ⟨nv,rt,λx _ G'=>ex x G'⟩ (mkv th st w a (some x) (some y) (some d) cs) G5) ex
   |none=>False)=(match mtU .extend w G with
   |some _=>U.loc g=.loc g/\Δ si [y,x] G (λz G2=>negU (.int 1) G2 λo G3=>revU z o G3 λr G4=>jaI .extend w [r] G4 λ_ G5=>sq (denS gs Δ' (.aug 5 .Add (.int 1))) sqN ⟨na,rt,λx _ G'=>ex x G'⟩ (mka th st f g w a (some x) (some y) (some d)) G5) ex
   |none=>False)
  simp only[eF,true_and]
 have eC:∀x y d G,jal gs Δ (.cons (ltC 3 6) (.cons (ltVe si) (.cons (.aug 3 .Add (.int 1)) .nil))) ⟨nv,rt,λx _ G'=>ex x G'⟩ (mkv th st w a (some x) (some y) (some d) cs) G =
   sq (denS gs Δ' (ltC 5 8)) (sq (ltED gs Δ' g λus G Q E=>Δ si us G Q E) (sq (denS gs Δ' (.aug 5 .Add (.int 1))) sqN)) ⟨na,rt,λx _ G'=>ex x G'⟩ (mka th st f g w a (some x) (some y) (some d)) G:=λx y d G=>by
  show(cmpU .IsNot d .non G λc=>truU (.bl c) G λt=>if t=true then ([d,a].length=(clsF 1).length/\ex ⟨1,[d,a]⟩ G) else jal gs Δ (.cons (ltVe si) (.cons (.aug 3 .Add (.int 1)) .nil)) ⟨nv,rt,λx _ G'=>ex x G'⟩ (mkv th st w a (some x) (some y) (some d) cs) G) =
   (cmpU .IsNot d .non G λc=>truU (.bl c) G λt=>if t=true then ([d,a].length=(clsF 1).length/\ex ⟨1,[d,a]⟩ G) else sq (ltED gs Δ' g λus G Q E=>Δ si us G Q E) (sq (denS gs Δ' (.aug 5 .Add (.int 1))) sqN) ⟨na,rt,λx _ G'=>ex x G'⟩ (mka th st f g w a (some x) (some y) (some d)) G)
  simp only[eE]
 have eB:∀x y d G,jal gs Δ (.cons (.asg (.n 6) (.call fi (.cons (.v 5) (.cons (.v 4) (vsE 7 cs.length))))) (.cons (ltC 3 6) (.cons (ltVe si) (.cons (.aug 3 .Add (.int 1)) .nil)))) ⟨nv,rt,λx _ G'=>ex x G'⟩ (mkv th st w a (some x) (some y) d cs) G =
   sq (ltBD gs Δ' f λus G Q E=>Δ fi (us++cs) G Q E) (sq (denS gs Δ' (ltC 5 8)) (sq (ltED gs Δ' g λus G Q E=>Δ si us G Q E) (sq (denS gs Δ' (.aug 5 .Add (.int 1))) sqN))) ⟨na,rt,λx _ G'=>ex x G'⟩ (mka th st f g w a (some x) (some y) d') G:=λx y d G=>by
  show(jaw gs Δ (vsE 7 cs.length) (mkv th st w a (some x) (some y) d cs) G (λzs G1=>Δ fi (y::x::zs) G1 (λu G2=>jal gs Δ (.cons (ltC 3 6) (.cons (ltVe si) (.cons (.aug 3 .Add (.int 1)) .nil))) ⟨nv,rt,λx _ G'=>ex x G'⟩ (mkv th st w a (some x) (some y) (some u) cs) G2) ex) ex) =
   (U.loc f=.loc f/\Δ fi ([y,x]++cs) G (λu G2=>sq (denS gs Δ' (ltC 5 8)) (sq (ltED gs Δ' g λus G Q E=>Δ si us G Q E) (sq (denS gs Δ' (.aug 5 .Add (.int 1))) sqN)) ⟨na,rt,λx _ G'=>ex x G'⟩ (mka th st f g w a (some x) (some y) (some u)) G2) ex)
  rw[jkC jpY];simp only[eC,true_and];rfl
 show(match mtU .pop w G with
  |some _=>jaI .pop w [] G λu G1=>tgU (.t (.cons (.n 4) (.cons (.n 5) .nil))) u (mkv th st w a n h d cs) λς'=>jal gs Δ (.cons (.asg (.n 6) (.call fi (.cons (.v 5) (.cons (.v 4) (vsE 7 cs.length))))) (.cons (ltC 3 6) (.cons (ltVe si) (.cons (.aug 3 .Add (.int 1)) .nil)))) ⟨nv,rt,λx _ G'=>ex x G'⟩ ς' G1
  |none=>False)=(match mtU .pop w G with
  |some _=>jaI .pop w [] G λu G1=>tgU (.t (.cons (.n 6) (.cons (.n 7) .nil))) u (mka th st f g w a n' h' d') λς'=>sq (ltBD gs Δ' f λus G Q E=>Δ fi (us++cs) G Q E) (sq (denS gs Δ' (ltC 5 8)) (sq (ltED gs Δ' g λus G Q E=>Δ si us G Q E) (sq (denS gs Δ' (.aug 5 .Add (.int 1))) sqN))) ⟨na,rt,λx _ G'=>ex x G'⟩ ς' G1
  |none=>False)
 have eA:∀u G1,(tgU (.t (.cons (.n 4) (.cons (.n 5) .nil))) u (mkv th st w a n h d cs) λς'=>jal gs Δ (.cons (.asg (.n 6) (.call fi (.cons (.v 5) (.cons (.v 4) (vsE 7 cs.length))))) (.cons (ltC 3 6) (.cons (ltVe si) (.cons (.aug 3 .Add (.int 1)) .nil)))) ⟨nv,rt,λx _ G'=>ex x G'⟩ ς' G1) =
   (tgU (.t (.cons (.n 6) (.cons (.n 7) .nil))) u (mka th st f g w a n' h' d') λς'=>sq (ltBD gs Δ' f λus G Q E=>Δ fi (us++cs) G Q E) (sq (denS gs Δ' (ltC 5 8)) (sq (ltED gs Δ' g λus G Q E=>Δ si us G Q E) (sq (denS gs Δ' (.aug 5 .Add (.int 1))) sqN))) ⟨na,rt,λx _ G'=>ex x G'⟩ ς' G1):=λu G1=>by
  cases u with
  |tup us=>
   match us with
   |[]=>rfl
   |[_]=>rfl
   |x::y::r=>exact congrArg (r=[]/\·) (eB x y d G1)
  |_=>rfl
 simp only[eA]
noncomputable def toV  (cs:List U):Sg->Sg
 |th::st::_::_::w::a::n::h::d::_=>th::st::w::a::some (n.getD .non)::some (h.getD .non)::some (d.getD .non)::cs.map some
 |ς=>ς
def jom  {ex: KX}(h:jal gs Δ (ltV cs.length fi si) ⟨n0,rt,λx _ G'=>ex x G'⟩ (mkv th st .non .non (some .non) (some .non) (some .non) cs) G) :
  ltD gs Δ' f g (λus G Q E=>Δ fi (us++cs) G Q E) (λus G Q E=>Δ si us G Q E) ⟨n1,rt,λx _ G'=>ex x G'⟩ [some th,some st,some (.loc f),some (.loc g),none,none,none,none,none] G:=by
 obtain⟨h1,h2,h⟩:=h;refine⟨h1,h2,λp G1 n=>?_⟩;have h:=h p G1 n;obtain⟨W,⟨m,w0⟩,turn⟩:=h;refine⟨λm ς G=>(∃w a n h d,ς=mka th st f g w a n h d)/\W m (toV cs ς) G,⟨m,⟨_,_,_,_,_,rfl⟩,w0⟩,?_⟩;rintro m _ G1 ⟨⟨w,a,n,h,d,rfl⟩,hw⟩;have t:=turn m _ G1 hw;have e:∀G,jal gs Δ (ltVw cs.length fi si) ⟨λς' G'=>∃m',m'<m/\W m' ς' G',rt,λx _ G'=>ex x G'⟩ (toV cs (mka th st f g w a n h d)) G=ltL gs Δ' f g (λus G Q E=>Δ fi (us++cs) G Q E) (λus G Q E=>Δ si us G Q E) ⟨λς' G'=>∃m',m'<m/\(∃w a n h d,ς'=mka th st f g w a n h d)/\W m' (toV cs ς') G',rt,λx _ G'=>ex x G'⟩ (mka th st f g w a n h d) G:=λG=>
  jmp (w:=w) (a:=a) λw a x y d G=>propext ⟨λ⟨m',h1,h2⟩=>⟨m',h1,⟨_,_,_,_,_,rfl⟩,h2⟩,λ⟨m',h1,_,h2⟩=>⟨m',h1,h2⟩⟩
 have t:truU w G1 λb=>if b=true then jal gs Δ (ltVw cs.length fi si) ⟨λς' G'=>∃m',m'<m/\W m' ς' G',rt,λx _ G'=>ex x G'⟩ (toV cs (mka th st f g w a n h d)) G1 else rt (.bl true) G1:=t
 simp only[e]at t;exact t
end
def jhh  {T:Tab}{n:Nat}(h:T.funs[n]?=some d):(T.funs++T.vf)[n]?=some d:=by
 grind
def jce  {T:Tab}(hd:(T.funs++T.vf)[n]?=some d){E:KX}(h:jab T (k+1) n us G Q E) :
  us.length=d.ps.length/\jal T.gs (jab T k) d.body ⟨λ_ G'=>Q .non G',Q,λx _ G'=>E x G'⟩ (jad d.N.length us) G:=by
 have h':(match (T.funs++T.vf)[n]? with|some d=>us.length=d.ps.length/\jal T.gs (jab T k) d.body ⟨λ_ G'=>Q .non G',Q,λx _ G'=>E x G'⟩ (jad d.N.length us) G|none=>False):=h
 lia
def jiq     (e:a=b)(h:PSs X a t):PSs X b t:=e ▸ h
def jck       (r:RUs K H us vs):SR K H (jad N.length us) (L2.start N vs):=by
 unfold jad L2.start;refine⟨by simp[r.length],λi u e=>?_⟩
 by_cases hi:i<us.length
 ·rw[Ya1 (by simp_all),YaD]at e
  cases q:us[i]? with
  |none=>simp_all
  |some w=>
   rw[q]at e;have:w=u:=by simpa using e
   subst this;obtain⟨v,ev,rv⟩:=r.get q;have hv:i<vs.length:=by rw[<- r.length];exact hi
   exact⟨v,by rw[Ya1 (by simpa using hv),YaD,ev];rfl,rv⟩
 ·rw[Ybt (by simpa using hi),Ycj]at e
  split at e<;>cases e
structure PF (T:Tab)(P:Program)(w:World)(K:Yac)(mg:Str->Option Value)(base:Heap)(k:Nat):Prop where
 blt:∀x∈jcI,mg x=none
 fns:∀(n:Nat) (d:Fun),T.funs[n]?=some d->FnU P w K mg base k d (jab T k n)
 gls:∀(n:Nat) (x:Str) (u:U),T.gn[n]?=some x->T.gs[n]?=some u->∃v w,mg x=some w/\RelV v w/\∀H,RU K H u v
 cls:∀n∈T.cs,1<=n->∃C,XCls K (gK K) (clsN n) (clsF n) C
 mgK:∀x v,gK K x=some v->mg x=some v
def Inv.tsU    {σ:St}(I:Inv X pins σ H s):TS X.H₀ H:=⟨I.base.tups,λa o e=>I.base.frzs a o _ e⟩

def joZ  {T: Tab}{cl:List (Str×Addr)}{n:Nat} 
  (F:PF T X.prog X.w X.K X.mg X.base (j-1)) (hex:X.ex=[]) (ho:X.s₀.heap.get? f=some (Yd7 name qual params body scope cl doc pm c' ctv)) (hn:X.H₀ f=none) (hfs:f∉X.fs) (hc:X.H₀ c'=some (frzC oc)) (hco:jmX oc qual) (S:CloScope d.N ps scope)
  (hcl:∀x c,cl.lookup x=some c->scope.names.lookup x=some .free/\(∃v,X.s₀.heap.IsCell c v)/\X.H₀ c=none/\c∉X.fs) (inj:∀x y c,cl.lookup x=some c->cl.lookup y=some c->x=y) (has:∀x,scope.names.lookup x=some .free->∃c,cl.lookup x=some c)
  (hv:∀i x v,d.N[ps.length+i]?=some x->cvs[i]?=some v->scope.names.lookup x=some .free/\∃c u,cl.lookup x=some c/\RelV v u/\X.s₀.heap.IsCell c (some u))
  (rc:RUs X.K X.H₀ cs cvs) (hdp:d.ps.length=ps.length+cs.length) (hNl:d.ps.length<=d.N.length)
  (hb:∀(s:Shared) (us:List Value),us.length=ps.length->BindsTo s (PySem.W.fnX name qual params body scope cl .none .none doc pm none (.ref c') ctv) ⟨us,[]⟩ (ps.zip us))
  (hr:Room (j+2) X.A) (hd:(T.funs++T.vf)[n]?=some d) (ok:okSs T ⟨d.N,scope.names⟩ d.body body=true) (un:unSs T ⟨d.N,scope.names⟩ d.body body=body) :
  CloU X f λus G Q E=>jab T j n (us++cs) G Q E:=by
 have noX:∀b,b∉X.ex:=λb z=>by simp_all
 have cellK:∀{pins:List (Addr×Obj)} {σ:St} {H:Hp} {s:Shared} {x:Str} {c:Addr} {v:Option Value},Inv X pins σ H s->cl.lookup x=some c->X.s₀.heap.IsCell c v->s.heap.IsCell c v:=λ{pins σ H s x c v} I e ⟨o,h1,h2⟩=>
  ⟨o,I.base.keep c o h1 (hcl x c e).2.2.1 (hcl x c e).2.2.2 (noX c),h2⟩
 refine⟨λpins σ H s I=>⟨_,_,_,_,I.base.keep f _ ho hn hfs (noX f)⟩,λpins σ H s us vs Q0 E0 I r hsp=>?_⟩;obtain⟨zs,G,Q,E,rz,hG,h,lv,lx⟩:=hsp;obtain _|k:=j
 ·exact(show False from h).elim
 obtain⟨hl,h⟩:=jce hd h;rw[Yar]at hl;have hvl:vs.length=ps.length:=by rw[<- rz.length];lia
 have hcH:H c'=some (frzC oc):=I.base.frzs c' oc _ hc;obtain⟨hco1,_⟩:=I.hok c' _ hcH;obtain⟨wv,wt,w1,w2⟩:=hco;have rc':=rc.ts (Inv.tsU I);refine jmS (k:=k+2) (cvs:=cvs) (N:=d.N) (ps:=ps) (I.base.keep f _ ho hn hfs (noX f)) rfl ⟨c',oc,wv,wt,rfl,hco1,w1,w2⟩ S hr I.env0 (hb s us (by rw[<- r.length];exact hvl)) r hvl (by rw[<- rc.length];lia)
  (λx c e=>⟨(hcl x c e).1,let ⟨v,z⟩:=(hcl x c e).2.1;⟨v,cellK I e z⟩,let ⟨_,o,h1,_⟩:=(hcl x c e).2.1;I.base.free c o h1 (hcl x c e).2.2.1 (noX c)⟩) inj has
  (λi x v e1 e2=>let ⟨a,c,u,e,rv,z⟩:=hv i x v e1 e2;⟨a,c,u,e,rv,cellK I e z⟩) λhroom=>?_
 refine⟨_,jiq un (sSs d.body (k:=k) (c:=⟨d.N,scope.names⟩) (hs:=body) ⟨⟨rfl,S.nd,λx z=>eq_of_beq z,λx z=>⟨eq_of_beq z,by show(scope.names.lookup x != some .free)=true;rw[eq_of_beq z];rfl⟩,λx z=>.inr (eq_of_beq z),λx z=>eq_of_beq z,hroom.mono (by lia),rfl,jjY,F.blt,F.fns,F.gls,hroom,F.cls,F.mgK⟩,rfl,S.kind,rfl,rfl⟩ ok),?_⟩
 exact⟨_,_,G,jck (rz.append rc'),hG,h,⟨λς' σ' G' H' a b c q=>lv .non .non G' H' rfl b c q,λw v G' H' a b c q=>lv w v G' H' a b c q,λpins e s' x ς' σ' G' H' I sr xat hr' f q=>by obtain⟨ea,C0,dx,rfl,l,xd⟩:=xat;exact CX1.outC I l (lx x G' H' C0 dx xd hr' f q)⟩⟩
def HR.tabNew         (h:HR K H G)(hU:∀t∈tabs,∀t'∈tabs,t.1=t'.1->t=t')(ht:(P,pos,q)∈tabs)(n:jlf H H' P pos q c oc):HR K H' G/\Fr H G H' G:=by
 obtain⟨hc,hco,rfl|⟨hP,hn,rfl⟩⟩:=n
 ·exact⟨h,Fr.refl _ _⟩
 have oth:∀b,b≠P->b≠c->L2.upd (L2.upd H c (frzC oc)) P (.tbl #[rawInt pos.line,rawInt pos.col,.ref c]) b=H b:=λb h1 h2=>by rw[jae h1,jae h2]
 have neC:∀{b u},H b=some u->b≠c:=λ{b u} e z=>by lia
 have ts:TS H (L2.upd (L2.upd H c (frzC oc)) P (.tbl #[rawInt pos.line,rawInt pos.col,.ref c])):=⟨λa xs e=>by grind,λa xs e=>by grind⟩
 refine⟨⟨λa o g=>?_,λt hm=>?_⟩,⟨λa o e g nt=>⟨?_,g⟩⟩⟩
 ·have m:=h a o g;obtain⟨ho,e⟩:=m.there;exact m.keep (oth a (λz=>by rw[z,h.tblNone hP]at g;cases g) (neC e)) ts
 ·by_cases e:t.1=P
  ·obtain rfl:=hU t hm _ ht e;exact .inr ⟨c,oc,jaj,hc,hco⟩
  ·rcases h.tab t hm with e1|⟨c2,oc2,e1,e2,q2⟩
   ·exact .inl (by simp_all)
   ·exact .inr ⟨c2,oc2,by simp_all,ts.cod _ _ e2,q2⟩
 ·rw[oth a (λz=>by rw[z,hP]at e;cases e;cases nt) (neC e)];exact e
end Z

namespace Z
open PySem L2
noncomputable def nDef  (st:Stmt):Stmt:=(jaf st).getD 0 (.Pass ⟨0,0,0,0⟩)
noncomputable def capE  : List Nat->Es->Es
 |[],r=>r
 |i::is,r=>.cons (.v i) (capE is r)
noncomputable abbrev five  (r:Es):Es:=.cons .non (.cons .non (.cons .non (.cons .non (.cons .non r))))
structure NestS (T:Tab)(sts:List Stmt)(d:Fun)(st:Stmt)(z:Nst)(dff:Fun)(stff:Stmt)(dv dc:Fun):Prop where
 sc:FnScope d.N d.ps (jaa st)
 body:d.body=.cons (.ret (.call z.vi (.cons z.e1 (.cons z.e2 (five (capE z.caps .nil)))))) .nil
 text:∃pos p1 p3 p4 p5 p6 h1 h2,jaf st=[.FunctionDef z.fn (jax (nDef st)) (jaf (nDef st)) [] none [] (jaa (nDef st)) none z.fn pos,.Return (some (.Call (.Name dff.name p1) [h1,h2,.Name z.fn p3,.Name z.sn p4] [] p5)) p6]/\(z.P,pos,d.name ++ ".<locals>." ++ z.fn)∈tabs/\
  okE T ⟨d.N,(jaa st).names⟩ z.e1 h1=true/\unE T ⟨d.N,(jaa st).names⟩ z.e1 h1=h1/\okE T ⟨d.N,(jaa st).names⟩ z.e2 h2=true/\unE T ⟨d.N,(jaa st).names⟩ z.e2 h2=h2
 fi:d.N[z.fni]?=some z.fn
 fl:(jaa st).names.lookup z.fn=some .local
 gl:(jaa st).names.lookup dff.name=some .globalImplicit
 gs:(jaa st).names.lookup z.sn=some .globalImplicit
 dbg:(z.sn==("__debug__" : Str))=false/\(z.fn==("__debug__" : Str))=false/\(z.fn==("__classdict__" : Str))=false/\(dff.name==("__debug__" : Str))=false
 caps:∀(i j:Nat),z.caps[i]?=some j->j<d.ps.length/\∃x,d.N[j]?=some x/\dc.N[2+i]?=some x/\(jaa (nDef st)).names.lookup x=some .free/\(jaa st).names.lookup x=some .cell
 fge:d.ps.length<=z.fni
 frees:∀y∈(jaa (nDef st)).names,y.2=.free->(jaa st).names.lookup y.1=some .cell
 as2:z.as'.length=2
 cs:CloScope dc.N z.as' (jaa (nDef st))
 args:(jax (nDef st)).defaults=[]/\(jax (nDef st)).kw_defaults=[]
 ann:∀env,annTrees (jax (nDef st)) none env=[]
 bind:∀(qual:Str) (cl:List (Str×Addr)) (doc pm cv ctv u v:Value),Yfq (PySem.W.fnX z.fn qual (jax (nDef st)) (jaf (nDef st)) (jaa (nDef st)) cl .none .none doc pm none cv ctv) ⟨[u,v],[]⟩=pure (z.as'.zip [u,v])
 ff:T.funs[z.ff]?=some dff
 ffs:sts[z.ff]?=some stff
 ffb:dff.body=irLT
 ffp:dff.ps.length=4
 ffl:dff.N.length=9
 hdv:(T.funs++T.vf)[z.vi]?=some dv
 dvb:dv.body=ltV z.caps.length z.fi z.si
 dvN:dv.N.length=z.caps.length+7
 hdc:(T.funs++T.vf)[z.fi]?=some dc
 dcp:dc.ps.length=2+z.caps.length
 dcN:dc.ps.length<=dc.N.length
 ok:okSs T ⟨dc.N,(jaa (nDef st)).names⟩ dc.body (jaf (nDef st))=true
 un:unSs T ⟨dc.N,(jaa (nDef st)).names⟩ dc.body (jaf (nDef st))=jaf (nDef st)
 hs:∃ds,T.funs[z.si]?=some ds/\ds.name=z.sn
 nz:∀(gs:List U) (Δ:Cl) (ς:Sg) (G:Gp) (Q1:U->U->Gp->Prop) (E:KX),(∀n us G Q E,¬Δ n us G Q E)->¬(den gs Δ z.e1).1 ς G (λu1 G1=>(den gs Δ z.e2).1 ς G1 (λu2 G2=>Q1 u1 u2 G2) E) E
theorem jjt        : ∀{is } {Q },jaw gs Δ (capE is r) ς G Q X->∃cs ,cs.length=is.length/\(∀(i j:Nat),is[i]?=some j->∃u,cs[i]?=some u/\ς[j]?=some (some u))/\jaw gs Δ r ς G (λus G'=>Q (cs++us) G') X
 |[],_,h=>⟨[],rfl,λ_ _ e=>by simp at e,h⟩
 |i::is,Q,h=>by
  have h':slot ς i λx=>jaw gs Δ (capE is r) ς G (λxs G2=>Q (x::xs) G2) X:=h;obtain⟨u,e,h'⟩:=jbA h';obtain⟨cs,h1,h2,h3⟩:=jjt h';refine⟨u::cs,by simp[h1],λa j ej=>?_,h3⟩
  cases a with
  |zero=>simp_all
  |succ a=>simp_all
def jen  {n i:Nat}(h:(jad n us)[i]?=some (some u)):us[i]?=some u:=by
 unfold jad at h;by_cases hi:i<us.length
 ·rw[Ya1 (by simpa using hi),YaD]at h
  cases e:us[i]? with
  |none=>rw[e]at h;cases h
  |some a=>rw[e]at h;simpa using h
 ·rw[Ybt (by simpa using hi),Ycj]at h
  split at h<;>cases h
def jjM    {i:Nat}(h:vs[i]?=some v):(L2.start N vs)[i]?=some (some v):=by
 unfold L2.start;have hi:=(List.getElem?_eq_some_iff.mp h).1;rw[Ya1 (by simpa using hi),YaD,h]
 rfl
def jnh    : jad (cs.length+7) (th::st::.non::.non::.non::.non::.non::cs)=mkv th st .non .non (some .non) (some .non) (some .non) cs:=by
 unfold jad mkv;simp
theorem jfN      (r:RUs K H us vs):∀{is:List Nat} {cs },cs.length=is.length->(∀(i j:Nat),is[i]?=some j->∃u,cs[i]?=some u/\us[j]?=some u)->∃cvs ,RUs K H cs cvs/\cvs.length=is.length/\∀(i j:Nat) v ,is[i]?=some j->cvs[i]?=some v->vs[j]?=some v
 |[],[],_,_=>⟨[],rfl,rfl,λ_ _ _ e=>by simp at e⟩
 |[],_::_,h,_=>by simp at h
 |_::_,[],h,_=>by simp at h
 |j::is,c::cs,hl,h=>by
  obtain⟨u,e1,e2⟩:=h 0 j rfl;have:c=u:=by simp_all
  subst this;obtain⟨v,ev,rv⟩:=r.get e2;obtain⟨cvs,r2,l2,g2⟩:=jfN r (is:=is) (cs:=cs) (by simp_all) λi j' e=>by simpa using h (i+1) j' (by simpa using e)
  refine⟨v::cvs,⟨v,cvs,rfl,rv,r2⟩,by simp[l2],λi j' w e e'=>?_⟩
  cases i with
  |zero=>simp at e e';subst e;subst e';exact ev
  |succ i=>exact g2 i j' w (by simpa using e) (by simpa using e')
def jmR     {d:Fun}(F:L2.Fun X.K d.name d.name st g fd')(hF:FnOk X.prog X.w X.K X.mg X.base (CX1 X.prog X.w) j g fd d.ps (lSp X.K t))(hb:Binds X.K fd d.ps [])(hr:Room j X.A):CloU X g t:=
 ⟨λpins σ H s I=>let ⟨_,_,_,_,_,_,_,_,_,_,lk,_⟩:=F.ex;⟨_,_,_,_,I.kIn _ _ lk⟩,λpins σ H s us vs Q0 E0 I r hsp=>by
  have hl:=hF.len _ _ _ _ hsp;have hbs:=hb s us I.kIn (by rw[Ya7,<- r.length];exact hl)
  rw[Ya7]at hbs;exact hF.run X.A X.stack s H ⟨us,[]⟩ us vs Q0 E0 hr I.env0 hbs r hsp⟩

def jmk  {T: Tab}{sts:List Stmt}{d dff dv dc ds:Fun}(N:NestS T sts d st z dff stff dv dc)(hU:∀t∈tabs,∀t'∈tabs,t.1=t'.1->t=t')(Sff:FnScope dff.N dff.ps (jaa stff))(okf:okSs T ⟨dff.N,(jaa stff).names⟩ dff.body (jaf stff)=true)(unf:unSs T ⟨dff.N,(jaa stff).names⟩ dff.body (jaf stff)=jaf stff)
  (F:L2.Fun K d.name d.name st f fd) (Fff:L2.Fun K dff.name dff.name stff fff fdff) (mff:mg dff.name=some (.ref fff)) (bff:Binds K fdff dff.ps []) (hcode:∃c,fd.code=.ref c/\YfE base c z.P) (hB:BmAt mg base) (pf:PF T P w K mg base (j-1)) (pf1:PF T P w K mg base (j+1)) (hd:(T.funs++T.vf)[n]?=some d)
  (Fg:L2.Fun K ds.name ds.name sts' g fdg) (hFg:FnOk P w K mg base (CX1 P w) (j+2) g fdh ds.ps (lSp K (jab T j z.si))) (mgg:mg ds.name=some (.ref g)) (bg:Binds K fdh ds.ps []) (hsn:ds.name=z.sn) :
  FnOk P w K mg base (CX1 P w) (j+4) f fd d.ps (lSp K (jab T (j+2) n)):=by
 have len:∀vs H Q E,lSp K (jab T (j+2) n) vs H Q E->vs.length=d.ps.length:=λvs H Q E ⟨us,G,Q',E',r,hG,h,lv,lx⟩=>by rw[<- r.length];exact(jce hd h).1
 refine⟨len,λA outer s H args us0 vs Q E hr e0 hb r hsp=>F.runX (k:=j+3) N.sc hr e0 hb r (len _ _ _ _ hsp) λcdv hcdv hroom=>?_⟩;have hvl:=len _ _ _ _ hsp;obtain⟨us,G,Q',E',ru,hG,h,lv,lx⟩:=hsp;obtain⟨hul,h⟩:=jce hd h;rw[N.body]at h;have h:(den T.gs (jab T (j+1)) z.e1).1 (jad d.N.length us) G (λu1 G1=>(den T.gs (jab T (j+1)) z.e2).1 (jad d.N.length us) G1 (λu2 G2=>jaw T.gs (jab T (j+1)) (capE z.caps .nil) (jad d.N.length us) G2 (λzs G3=>jab T (j+1) z.vi (u1::u2::.non::.non::.non::.non::.non::zs) G3 Q' λx G'=>E' x G') λx G'=>E' x G') λx G'=>E' x G') λx G'=>E' x G':=h;obtain⟨c,hcc,hCH⟩:=hcode;obtain⟨pos,p1,p3,p4,p5,p6,h1,h2,text,htab,ok1,un1,ok2,un2⟩:=N.text
 let X0:=cx1 P w K mg base d.N d.name (jaa st) f cdv A outer s H E
 have S:=N.sc;have C0:Cok T (j+1) X0 ⟨d.N,(jaa st).names⟩:=⟨rfl,S.nd,λx z=>eq_of_beq z,λx z=>⟨eq_of_beq z,rfl⟩,λx z=>.inr (eq_of_beq z),λx z=>eq_of_beq z,hroom.mono (by lia),rfl,jjY,pf1.blt,pf1.fns,pf1.gls,hroom,pf1.cls,pf1.mgK⟩
 have pe1:PE X0 h1 (lE X0 (den T.gs (jab T (j+1)) z.e1).1):=un1 ▸ (sE z.e1 C0 ok1).1;have pe2:PE X0 h2 (lE X0 (den T.gs (jab T (j+1)) z.e2).1):=un2 ▸ (sE z.e2 C0 ok2).1;have hd1:jdW h1=true:=un1 ▸ jar (T:=T) (c:=⟨d.N,(jaa st).names⟩) z.e1 h1;have hd2:jdW h2=true:=un2 ▸ jar (T:=T) (c:=⟨d.N,(jaa st).names⟩) z.e2 h2;refine⟨λD σ' H'=>σ'=L2.start d.N vs/\H'=H/\D.rt=Q,λpins s1 σ1 H1 D I ⟨e1,e2,e3⟩=>?_,rfl,rfl,rfl⟩;subst e1;subst e2;subst e3;rw[text];have hq:YcL X0.env z.fn z.fn=d.name ++ ".<locals>." ++ z.fn:=by
  unfold YcL;have:X0.env.kindOf z.fn=some .local:=N.fl;rw[this];rfl
 refine YbW (jkg (X:=X0) (c:=c) (P:=z.P) (i:=z.fni) I N.sc.nd N.fi (.inl N.fl) (.inr N.fl) (hcdv.symm.trans hcc) hCH hB (by rw[hq];exact hG.tab _ htab) N.args.1 N.args.2 (N.ann _)
  (λy hy hf=>I.ok.has y.1 (.inl (N.frees y hy hf))) λf' c' oc doc ctv H' s2 tn J=>?_)
 rw[hq]at tn J;obtain⟨hG',fr'⟩:=hG.tabNew hU htab tn
 let σ2:St:=(L2.start d.N vs).set z.fni (some (.ref f'))
 have hfs:σ2[z.fni]?=some (some (.ref f')):=by
  show((L2.start d.N vs).set z.fni (some (.ref f')))[z.fni]?=_;rw[Ybp (by have:=I.len;rw[this];exact(List.getElem?_eq_some_iff.mp N.fi).1)]
 have sr2:SR K H' (jad d.N.length us) σ2:=by
  obtain⟨l0,g0⟩:=jck (N:=d.N) (ru.ts (fr'.ts hG));refine⟨by rw[l0];simp[σ2],λi u e=>?_⟩
  obtain⟨v,ev,rv⟩:=g0 i u e;refine⟨v,?_,rv⟩;have hne:z.fni≠i:=λq=>by
   have:=(List.getElem?_eq_some_iff.mp (jen e)).1;have:=N.fge
   lia
  show((L2.start d.N vs).set z.fni (some (.ref f')))[i]?=_;rw[YaX hne];exact ev
 have lxx:∀{H9:Hp} {G9:Gp},Fr H1 G H9 G9->LX X0 σ2 H9 G9 λx G'=>E' x G':=λ{H9 G9} fr pins e s' x G' H' I1 xat hr' fx q=>by
  obtain⟨ea,C1,dx,rfl,l,xd⟩:=xat;exact CX1.out1 I1 l (lx x G' H' C1 dx xd hr' (fr.trans fx) q)
 have hcall:wpAny (model X0.prog X0.w) X0.A (eval (.Call (.Name dff.name p1) [h1,h2,.Name z.fn p3,.Name z.sn p4] [] p5) X0.env) (EP X0 (pins++[(f',Yd7 z.fn (d.name ++ ".<locals>." ++ z.fn) (jax (nDef st)) (jaf (nDef st)) (jaa (nDef st)) (jbM X0.env.cells (jaa (nDef st)).names []) doc ((mg "__name__").getD .none) c' ctv)]) σ2 D.rt) X0.xe s2:=by
  have pa:PA X0 [h1,h2,.Name z.fn p3,.Name z.sn p4] (jid (lE X0 (den T.gs (jab T (j+1)) z.e1).1) (jid (lE X0 (den T.gs (jab T (j+1)) z.e2).1) (jid (tVar z.fni) (jid (tC (.ref g)) tNil)))):=
   jaH pe1 (jaH pe2 (jaH (jbC N.fi (.inl N.fl) N.dbg.2.1 N.dbg.2.2.1) (jaH (jga N.gs (by rw[<- hsn];exact mgg) rfl N.dbg.1) jdC)) (jah hd2 _ _)) (jah hd1 _ _)
  refine Ybl (jcX J N.gl mff ?_ N.dbg.2.2.2);refine Ydh (h₀:=base) J.ok.mod.kin Fff.kp (thn (pa p5 _ s2 σ2 H' (λvs3 H3=>∃u1 u2 v1 v2 G3,vs3=[v1,v2,.ref f',.ref g]/\RU K H3 u1 v1/\RU K H3 u2 v2/\HR K H3 G3/\Fr H' G H3 G3/\
    jaw T.gs (jab T (j+1)) (capE z.caps .nil) (jad d.N.length us) G3 (λzs G3=>jab T (j+1) z.vi (u1::u2::.non::.non::.non::.non::.non::zs) G3 Q' λx G'=>E' x G') λx G'=>E' x G') J
   ⟨_,G,_,_,sr2,hG',h,λu1 v1 G1 H1 r1 hG1 f1 q1=>⟨_,G1,_,_,sr2.ts (f1.ts hG'),hG1,q1,λu2 v2 G2 H2 r2 hG2 f2 q2=>⟨_,hfs,u1,u2,v1,v2,G2,rfl,r1.ts (f2.ts hG1),r2,hG2,f1.trans f2,q2⟩,lxx (fr'.trans f1)⟩,lxx fr'⟩) λus3 s3 ⟨vs3,H3,J3,r3,u1,u2,v1,v2,G3,e1,ru1,ru2,hG3,fr0,q3⟩=>⟨J3.kIn,?_⟩) (jah hd1 _ _) (by rw[jah hd2];rfl)
  subst e1;have fr3:=fr'.trans fr0;obtain⟨cs,csl,csg,q3⟩:=jjt q3;obtain⟨cvs,rcs,cvl,cvg⟩:=jfN ru csl λi j e=>let ⟨u,a,b⟩:=csg i j e;⟨u,a,jen b⟩
  have q3:jab T (j+1) z.vi (u1::u2::.non::.non::.non::.non::.non::(cs++[])) G3 Q' λx G'=>E' x G':=q3;rw[Ya7]at q3;obtain⟨_,q3⟩:=jce N.hdv q3;rw[N.dvb,N.dvN,<- csl,jnh]at q3;have l3:us3.length=dff.ps.length:=by rw[<- r3.length,N.ffp];rfl
  have hb3:=bff s3 us3 J3.kIn (by simp_all)
  rw[Ya7]at hb3;refine Yej (YcY (Fff.runX (k:=j+2) (Q:=D.rt) (E:=EB X0 σ2) Sff hroom J3.env0 hb3 r3 (by rw[N.ffp];rfl) λcdv2 _ hroom2=>?_) λr s' hq=>?_)
  ·have hp:=J3.pin (f',Yd7 z.fn (d.name ++ ".<locals>." ++ z.fn) (jax (nDef st)) (jaf (nDef st)) (jaa (nDef st)) (jbM X0.env.cells (jaa (nDef st)).names []) doc ((mg "__name__").getD .none) c' ctv) (YaA _ (YaA _ (List.mem_singleton.mpr rfl)));obtain⟨hp1,hp2,hp3,hp4,_⟩:=hp;have nofs:∀b,b≠X0.env.locals->b∉X0.fs->b∉frs X0.stack:=λb h1 h2 hb=>(YaW.mp (J3.stkSub b hb)).elim h1 h2;have clof:∀x c,(jbM X0.env.cells (jaa (nDef st)).names []).lookup x=some c->X0.env.cells.lookup x=some c/\(x,Yaw)∈(jaa (nDef st)).names:=λx c e=>(jhn e).elim id λz=>by cases z
   obtain⟨m,hns,hloc⟩:=J3.loc;have CLO:=joZ (T:=T) (j:=j) (X:=cx1 P w K mg base dff.N dff.name (jaa stff) fff cdv2 X0.A X0.stack s3 H3 (EB X0 σ2)) (d:=dc) (n:=z.fi) (cs:=cs) (cvs:=cvs) (ps:=z.as') pf rfl hp1 hp2 (nofs f' hp3 hp4) ((fr0.ts hG').cod _ _ tn.1) tn.2.1 N.cs
    (λx c e=>⟨N.cs.frees x (clof x c e).2,J3.cell x c (clof x c e).1,J3.freeC x c (clof x c e).1,nofs c (J3.cne x c (clof x c e).1) λhb=>by
     obtain⟨_,o,ho,_⟩:=J3.ok.funs.mem hb;exact absurd (Yam ho) (Nat.not_lt.mpr (J3.ok.cab x c rfl (clof x c e).1))⟩)
    (λx y c e1 e2=>J3.ok.inj x y c (clof x c e1).1 (clof y c e2).1)
    (λx e=>by
     have hm:=Yat e;obtain⟨c,hc⟩:=J3.ok.has x (.inl (N.frees _ hm rfl));exact⟨c,jec hc hm⟩)
    (λi x v e1 e2=>by
     have hi:i<z.caps.length:=by grind
     obtain⟨jl,y,g1,g2,g3,g4⟩:=N.caps i z.caps[i] (by simp[hi])
     have:x=y:=by
      have:=N.as2
      simp_all
     subst this;refine⟨g3,?_⟩;have ev:=cvg i z.caps[i] v (by simp[hi]) e2
     have es:σ2[z.caps[i]]?=some (some v):=by
      show((L2.start d.N vs).set z.fni (some (.ref f')))[z.caps[i]]?=_;rw[YaX (by have:=N.fge;lia)]
      exact jjM ev
     obtain⟨u,rv,lk⟩:=hloc z.caps[i] x v g1 es (.inr (.inl g4));rcases lk with⟨k1,_⟩|⟨_,c,hc,hcell⟩
     ·have k2:(jaa st).names.lookup x=some .local:=k1
      lia
     ·exact⟨c,u,jec hc (Yat g3),rv,hcell⟩)
    (rcs.ts (fr3.ts hG)) (by rw[N.dcp,csl,N.as2]) N.dcN (λs us hl=>by
     have:=N.as2;obtain _|⟨u,_|⟨v,_|⟨_,_⟩⟩⟩:=us
     ·rw[this]at hl;cases hl
     ·rw[this]at hl;cases hl
     ·exact .of_eq (N.bind _ _ _ _ _ _ _ _)
     ·rw[this]at hl;simp at hl) hroom2 N.hdc N.ok N.un
   have CLG:=jmR (X:=cx1 P w K mg base dff.N dff.name (jaa stff) fff cdv2 X0.A X0.stack s3 H3 (EB X0 σ2)) Fg hFg bg hroom2;refine⟨_,jiq unf (by
    rw[N.ffb]at okf ⊢;exact jmq (T:=T) (k:=j-1) (c:=⟨dff.N,(jaa stff).names⟩) ⟨⟨rfl,Sff.nd,λx z=>eq_of_beq z,λx z=>⟨eq_of_beq z,rfl⟩,λx z=>.inr (eq_of_beq z),λx z=>eq_of_beq z,hroom2.mono (by lia),rfl,jjY,pf.blt,pf.fns,pf.gls,hroom2.mono (by lia),pf.cls,pf.mgK⟩,rfl,Sff.kind,rfl,rfl⟩ CLO CLG okf),?_⟩
   have ru3:RUs K H3 [u1,u2,.loc f',.loc g] [v1,v2,.ref f',.ref g]:=⟨_,_,rfl,ru1,_,_,rfl,ru2,_,_,rfl,rfl,_,_,rfl,rfl,rfl⟩;have sr:=jck (N:=dff.N) ru3;rw[N.ffl]at sr;refine⟨⟨λ_ _=>False,Q',λx _ G'=>E' x G'⟩,_,G3,sr,hG3,jom q3,⟨λ_ _ _ _ _ _ _ q=>q.elim,λw v G' H' a b c q=>lv w v G' H' a b (fr3.trans c) q,λpins e s' x ς' σ' G' H' I1 sr xat hr' fx q=>?_⟩⟩;obtain⟨ea,C1,dx,rfl,l,xd⟩:=xat;exact CX1.out1 I1 l λpins' ea' s'' I'' l''=>CX1.out1 I'' l'' (lx x G' H' C1 dx xd hr' (fr3.trans fx) q)
  ·cases r with
   |error e=>
    obtain⟨ea,H',cls,dx,rfl,I',l,q⟩:=CX1.back J3 hq;exact q _ ea s' I' l
   |ok fl=>
    cases fl with
    |ret u=>exact J3.after hq
    |next=>exact YbC hq
    |brk=>exact YbC hq
    |cont=>exact YbC hq
 refine YbW (wpAny_Return_some (thn hcall λu s3 ⟨v,H3,I3,rv,q⟩=>?_));exact⟨v,σ2,H3,I3.unpinned,rv,q⟩
noncomputable def scB  (N ps:List Str)(sc:Scope):Bool:=
 decide (sc.kind=.function) && !sc.isCoroutine && !sc.isGenerator&&decide N.Nodup&&(N.take ps.length==ps)&&ps.all (λx=>sc.names.lookup x==some .local||sc.names.lookup x==some .cell)&&sc.names.all (λy=>y.2 != .free)
def jim    (h:scB N ps sc=true):FnScope N ps sc:=by
 unfold scB at h;simp only[Yaf,decide_eq_true_eq,Ycq]at h;obtain⟨⟨⟨⟨⟨⟨h1,h2⟩,h3⟩,h4⟩,h5⟩,h6⟩,h7⟩:=h;refine⟨h1,h2,h3,h4,eq_of_beq h5,λx hx=>?_,λy hy=>?_⟩
 ·simp_all
 grind
noncomputable def cloB  (N ps:List Str)(sc:Scope):Bool:=
 decide (sc.kind=.function) && !sc.isCoroutine && !sc.isGenerator&&decide N.Nodup&&(N.take ps.length==ps)&&ps.all (λx=>sc.names.lookup x==some .local)&&sc.names.all (λy=>y.2 != .cell)&&sc.names.all (λy=>y.2 != .free||sc.names.lookup y.1==some .free)
def joY    (h:cloB N ps sc=true):CloScope N ps sc:=by
 unfold cloB at h;simp only[Yaf,decide_eq_true_eq,Ycq]at h;obtain⟨⟨⟨⟨⟨⟨⟨h1,h2⟩,h3⟩,h4⟩,h5⟩,h6⟩,h7⟩,h8⟩:=h;refine⟨h1,h2,h3,h4,eq_of_beq h5,λx hx=>?_,λy hy=>?_,λx hx=>?_⟩
 ·simp_all
 ·grind
 grind
noncomputable def jeV  (T:Tab):Nat->List Fun->List Stmt->Bool
 |_,[],[]=>true
 |i,d::ds,st::sts=>scB d.N d.ps (jaa st)&&((T.ns.lookup i).isSome||okSs T ⟨d.N,(jaa st).names⟩ d.body (jaf st))&&jeV T (i+1) ds sts
 |_,_,_=>false
def jfj  (T:Tab)(all:List Stmt):Nat->List Fun->List Stmt->Prop
 |_,[],_=>True
 |i,d::ds,st::sts=>(match T.ns.lookup i with
  |none=>unSs T ⟨d.N,(jaa st).names⟩ d.body (jaf st)=jaf st
  |some z=>T.ns.lookup z.ff=none/\∃dff stff dv dc,NestS T all d st z dff stff dv dc)/\jfj T all (i+1) ds sts
 |_,_::_,[]=>False
theorem jb8 {T:Tab}{all:List Stmt}:∀{i:Nat} {ds:List Fun} {sts:List Stmt},jeV T i ds sts=true->jfj T all i ds sts->∀{n:Nat} {d:Fun},ds[n]?=some d->∃st,sts[n]?=some st/\scB d.N d.ps (jaa st)=true/\(match T.ns.lookup (i+n)with
  |none=>okSs T ⟨d.N,(jaa st).names⟩ d.body (jaf st)=true/\unSs T ⟨d.N,(jaa st).names⟩ d.body (jaf st)=jaf st
  |some z=>T.ns.lookup z.ff=none/\∃dff stff dv dc,NestS T all d st z dff stff dv dc)
 |_,[],_,_,_,_,_,e=>by simp at e
 |_,_::_,[],h,_,_,_,_=>by unfold jeV at h;cases h
 |i,d::ds,st::sts,h,g,n,d',e=>by
  unfold jeV at h;unfold jfj at g;simp only[Yaf]at h;cases n with
  |zero=>
   simp at e;subst e;refine⟨st,rfl,h.1.1,?_⟩;have g1:=g.1;have h1:=h.1.2;rw[Nat.add_zero];cases q:T.ns.lookup i with
   |none=>rw[q]at g1 h1;exact⟨by simpa using h1,g1⟩
   |some z=>rw[q]at g1;exact g1
  |succ n=>
   obtain⟨st',e',q⟩:=jb8 h.2 g.2 (n:=n) (by simpa using e)
   rw[show i+1+n=i+(n+1) by lia]at q
   exact⟨st',by simpa using e',q⟩
noncomputable def jeb  (K:Yac)(v:Value)(P:Addr):Bool:=match v with
 |.ref c=>(match K.lookup c with
  |some ⟨.type t,_,.fields vs,_⟩=>t == "code" && (match (vs[11]?:Option Value)with|some (.ref Q)=>Q==P|_=>false)&&(match vs.getD 18 .none with|.str _ _=>true|_=>false)&&(match vs.getD 7 .none with|.int _ _=>true|_=>false)
   && (match vs.getD 9 .none with|.bool _=>true|_=>false)&&(match vs.getD 10 .none with|.int _ _=>true|_=>false)&&c != P
  |_=>false)
 |_=>false
def jjp      (X:K.In h)(q:jeb K v P=true):∃c,v=.ref c/\YfE h c P:=by
 unfold jeb at q;split at q
 ·rename_i c;split at q
  ·rename_i t dd vs sl hk;simp only[Yaf]at q;obtain⟨⟨⟨⟨⟨⟨q1,q2⟩,q3⟩,q4⟩,q5⟩,q6⟩,q7⟩:=q;refine⟨c,rfl,⟨.type t,dd,.fields vs,sl⟩,vs,?_⟩;have ho:=X c _ hk;split at q2
   ·rename_i Q e11;obtain rfl:Q=P:=by lia
    split at q3
    ·rename_i s1 t1 e18;split at q4
     ·rename_i s2 t2 e7;split at q5
      ·rename_i b e9;split at q6
       ·rename_i s3 t3 e10;exact⟨s1,t1,s2,t2,b,s3,t3,ho,by rw[eq_of_beq q1],rfl,e11,by rw[Array.getD_eq_getD_getElem?,e11];rfl,e18,e7,e9,e10,by simpa using q7⟩
       lia
      lia
     lia
    lia
   lia
  lia
 lia
section
variable {T:Tab}{P:Program}{w:World}{K:Yac}{mg:Str->Option Value}{base:Heap}
def jeO  {j n:Nat}{t:List U->Gp->K1->KX->Prop}(hz:∀us G Q E,¬t us G Q E):FnOk P w K mg base (CX1 P w) j f fd ps (lSp K t):=
 ⟨λvs H Q E ⟨_,_,_,_,_,_,h,_⟩=>(hz _ _ _ _ h).elim,λA outer s H args us vs Q E _ _ _ _ ⟨_,_,_,_,_,_,h,_⟩=>(hz _ _ _ _ h).elim⟩
def jgZ       (F:L2.Fun K d.name d.name st f fd)(h1:scB d.N d.ps (jaa st)=true)(h2:okSs T ⟨d.N,(jaa st).names⟩ d.body (jaf st)=true)(h3:unSs T ⟨d.N,(jaa st).names⟩ d.body (jaf st)=jaf st)
  (pf:PF T P w K mg base k) (hd:T.funs[n]?=some d):FnOk P w K mg base (CX1 P w) (k+3) f fd d.ps (lSp K (jab T (k+1) n)):=by
 have S:=jim h1;refine F.okX S (λvs H Q E ⟨us,G,Q',E',r,hG,h,lv,lx⟩=>by rw[<- r.length];exact(jce (jhh hd) h).1) λcdv A outer s H vs Q E hr hsp=>?_
 obtain⟨us,G,Q',E',r,hG,h,lv,lx⟩:=hsp;obtain⟨hl,h⟩:=jce (jhh hd) h;refine⟨_,jiq h3 (sSs d.body (k:=k) (c:=⟨d.N,(jaa st).names⟩) (hs:=jaf st) ⟨⟨rfl,S.nd,λx z=>eq_of_beq z,λx z=>⟨eq_of_beq z,rfl⟩,λx z=>.inr (eq_of_beq z),λx z=>eq_of_beq z,hr.mono (by lia),rfl,jjY,pf.blt,pf.fns,pf.gls,hr,pf.cls,pf.mgK⟩,rfl,S.kind,rfl,rfl⟩ h2),?_⟩
 exact⟨_,_,G,jck r,hG,h,⟨λς' σ' G' H' a b c q=>lv .non .non G' H' rfl b c q,λw v G' H' a b c q=>lv w v G' H' a b c q,λpins e s' x ς' σ' G' H' I sr xat hr' f q=>by obtain⟨ea,C0,dx,rfl,l,xd⟩:=xat;exact CX1.out1 I l (lx x G' H' C0 dx xd hr' f q)⟩⟩
abbrev Dyn  (T:Tab)(K:Yac)(mg:Str->Option Value)(sts:List Stmt):Prop:=∀(n:Nat) (d:Fun) (st:Stmt),T.funs[n]?=some d->sts[n]?=some st->∃(f:Addr) (fd:YeL),L2.Fun K d.name d.name st f fd/\mg d.name=some (.ref f)/\Binds K fd d.ps []/\∀z,T.ns.lookup n=some z->jeb K fd.code z.P=true
def jlO  {sts:List Stmt}(hst:jeV T 0 T.funs sts=true)(heq:jfj T sts 0 T.funs sts)(dyn:Dyn T K mg sts)(hU:∀t∈tabs,∀t'∈tabs,t.1=t'.1->t=t')(hKb:K.In base)(hB:BmAt mg base)
  (hb:∀x∈jcI,mg x=none) (hg:∀(n:Nat) x u ,T.gn[n]?=some x->T.gs[n]?=some u->∃v w,mg x=some w/\RelV v w/\∀H,RU K H u v) (hc:∀n∈T.cs,1<=n->∃C,XCls K (gK K) (clsN n) (clsF n) C) (hm:∀x v,gK K x=some v->mg x=some v) :
  ∀k ,PF T P w K mg base k:=by
 intro k
 induction k using Nat.strongRecOn with
 |ind k ih=>
  refine⟨hb,λn d hd=>?_,hg,hc,hm⟩;obtain⟨st,e,h1,h2⟩:=jb8 hst heq hd;obtain⟨f,fd,F,m,b,hz⟩:=dyn n d st hd e;refine⟨f,fd,?_,m,F.kp,b⟩;rw[YdT]at h2;cases q:T.ns.lookup n with
  |none=>
   rw[q]at h2;obtain _|k:=k
   ·exact jeO (n:=n) λ_ _ _ _ h=>h
   ·exact jgZ F h1 h2.1 h2.2 (ih k (by lia)) hd
  |some z=>
   rw[q]at h2;obtain⟨hff,dff,stff,dv,dc,N⟩:=h2;obtain _|_|j:=k
   ·exact jeO (n:=n) λ_ _ _ _ h=>h
   ·refine jeO (n:=n) λus G Q E h=>?_;obtain⟨_,h⟩:=jce (jhh hd) h;rw[N.body]at h;exact N.nz T.gs (jab T 0) (jad d.N.length us) G (λu1 u2 G2=>jaw T.gs (jab T 0) (five (capE z.caps .nil)) (jad d.N.length us) G2 (λzs G3=>jab T 0 z.vi (u1::u2::zs) G3 Q λx G'=>E x G') λx G'=>E x G') (λx G'=>E x G') (λ_ _ _ _ _ h=>h) h
   ·obtain⟨st2,e2,g1,g2⟩:=jb8 hst heq N.ff;rw[YdT,hff]at g2;obtain⟨fff,fdff,Fff,mff,bff,_⟩:=dyn z.ff dff st2 N.ff e2;have:st2=stff:=by rw[N.ffs]at e2;lia
    subst this;obtain⟨ds,hds,hsn⟩:=N.hs;obtain⟨st3,e3,_,_⟩:=jb8 hst heq hds;obtain⟨g,fdg,Fg,mgg,bg,_⟩:=dyn z.si ds st3 hds e3;obtain⟨g',fdg',hFg,mgg',_,bg'⟩:=(ih j (by lia)).fns z.si ds hds
    have eg:g'=g:=by rw[mgg]at mgg';simpa using mgg'.symm
    subst eg;exact jmk N hU (jim g1) g2.1 g2.2 F Fff mff bff (jjp hKb (hz z q)) hB (ih (j-1) (by lia)) (ih (j+1) (by lia)) (jhh hd) Fg hFg mgg bg' hsn
noncomputable def G0  (a:Addr)(ns:List Int):Gp:=λb=>if b=a then some (.fro (ns.map .int)) else none
theorem ji2   : ∀ns:List Int,RUs K H (ns.map .int) (ns.map V.int)
 |[]=>rfl
 |_::r=>⟨_,_,rfl,rfl,ji2 r⟩
def law_sp        (hT:∀t∈tabs,t.1∈tb)(hO:jkA tb H)(fr:H a=some (.frz o (.lst (ns.map V.int))))(h:jab T k n [.loc a] (G0 a ns) (λu _=>u=.bl true) λ_ _=>False) :
  lSp K (jab T k n) [.ref a] H (λv _=>v=.bl true) λ_ _ _=>False:=by
 refine⟨[.loc a],G0 a ns,_,_,⟨_,_,rfl,rfl,rfl⟩,⟨λb mo e=>?_,λt ht=>.inl ?_⟩,h,λw v G' H' r _ _ q=>?_,λ_ _ _ _ _ _ _ _ z=>z.elim⟩
 ·unfold G0 at e;split at e
  ·rename_i z;subst z;cases e;exact⟨o,_,fr,ji2 ns⟩
  lia
 ·have:=hO t.1
  grind
 ·subst q;exact r
end

def jhz  {T: Tab}{sts:List Stmt}(F:L2.Fun K d.name d.name st f fd)(hst:jeV T 0 T.funs sts=true)(heq:jfj T sts 0 T.funs sts)(dyn:Dyn T K mg sts)(hU:∀t∈tabs,∀t'∈tabs,t.1=t'.1->t=t')(hKb:K.In base)(hB:BmAt mg base)
  (hb:∀x∈jcI,mg x=none) (hg:∀(n:Nat) x u ,T.gn[n]?=some x->T.gs[n]?=some u->∃v w,mg x=some w/\RelV v w/\∀H,RU K H u v) (hc:∀n∈T.cs,1<=n->∃C,XCls K (gK K) (clsN n) (clsF n) C) (hm:∀x v,gK K x=some v->mg x=some v) (hd:T.funs[n]?=some d) (hs:sts[n]?=some st) (hn:T.ns.lookup n=none) :
  FnOk P w K mg base (CX1 P w) (k+2) f fd d.ps (lSp K (jab T k n)):=by
 cases k with
 |zero=>exact jeO (n:=n) λ_ _ _ _ h=>h
 |succ k=>
  obtain⟨st',e,h1,h2⟩:=jb8 hst heq hd;rw[hs]at e;cases e;rw[YdT,hn]at h2;exact jgZ F h1 h2.1 h2.2 (jlO hst heq dyn hU hKb hB hb hg hc hm k) hd

def jqd    (h:gK K x=some v):Ya6 K Yax x=some (some v):=by
 unfold gK at h;cases q:Ya6 K Yax x with
 |none=>simp_all
 |some o=>simp_all
def jok    (X:K.In h)(G:h.Ns Yax mg):∀x v,gK K x=some v->mg x=some v:=λ_ _ e=>YcS X G (jqd e)
def joL    (h:Ya6 K Yax x=some (some v)):gK K x=some v:=by unfold gK;rw[h];rfl
noncomputable def ksB  : List Str:=["__module__", "__firstlineno__", "__static_attributes__", "__weakref__", "__doc__"]
noncomputable def ksC  : List Str:=["__module__", "__firstlineno__", "__init__", "__static_attributes__", "__doc__"]
def offB  (ks:List Str):Bool:=offN.all λy=>!ks.contains y
def jkO   {m:Str->Option Value}(h:offB ks=true)(hm:∀x,x∉ks->m x=none):∀y∈offN,m y=none:=λy hy=>hm y (by
 have:=Yc1.mp h y hy
 simp_all)
def jjE     {hd ab:Bool}(a:Ya6 K Yax "PlanError" = some (some (.ref D)))(kp:Ybk K (.ref D)=true)
  (l:K.lookup D=some (YcR "PlanError" q D ND bs bmV hd sn sub ab col dd k0 k1 k2 k3 k5 nid)) (n:jey K ND=some ks) (h1:offB ks=true) (h2:ks.contains ("__init__" : Str)=false):∃mD,XBase K (gK K) D mD:=by
 obtain⟨m,hn,hno,_⟩:=joe n;exact⟨m,joL a,kp,⟨_,_,_,_,_,_,_,_,_,_,_,_,_,_,_,l,hn⟩,jkO h1 hno,hno _ (by simp_all)⟩
def jlh         {dd od:Option Addr}(B:XBase K (gK K) D mD)(a:Ya6 K Yax x=some (some (.ref C)))(kp:Ybk K (.ref C)=true)
  (l:K.lookup C=some (YcR x q C N bs (.ref D::bmV) true sn sub ab col dd k0 k1 k2 k3 k5 "ValueError.__new__")) (n:jey K N=some ks) (h1:offB ks=true) (i:Ya6 K N "__init__" = some (some (.ref fI))) (F:L2.Fun K "__init__" qual st fI fd) (lf:K.lookup fI=some ⟨.type "function",od,.func fd,osl⟩)
  (S:scB (("self" : Str)::fs) ("self" :: fs) (jaa st)=true) (b:Binds K fd (("self" : Str)::fs) []) (hloc:((("self" : Str)::fs).all λy=>(jaa st).names.lookup y==some .local)=true)
  (bd:(∃f p1 p2 p3 pos,fs=[f]/\jaf st=[.Assign [.Attribute (.Name "self" p1) f p2] (.Name f p3) pos])\/∃f f2 p1 p2 p3 pos q1 q2 q3 qos,fs=[f,f2]/\f≠f2/\jaf st=[.Assign [.Attribute (.Name "self" p1) f p2] (.Name f p3) pos,.Assign [.Attribute (.Name "self" q1) f2 q2] (.Name f2 q3) qos]):XCls K (gK K) x fs C:=by
 obtain⟨m,hn,hno,hso⟩:=joe n;exact⟨joL a,kp,D,N,fI,m,mD,B,⟨_,_,_,_,_,_,_,_,_,_,_,_,l⟩,hn,jkO h1 hno,hso _ _ i,st,qual,fd,F,⟨_,_,lf⟩,jim S,b,λy hy=>eq_of_beq (Yc1.mp hloc y hy),bd⟩
def ji9     : gup (gup G a o) a u=gup G a u:=by funext b;unfold gup;lia
def Sm  (f:Addr)(G G':Gp):Prop:=∀b o,b≠f->G b=some o->G' b=some o
def Sa  (G G':Gp):Prop:=∀b o,G b=some o->G' b=some o
def Sm.refl    : Sm f G G:=λ_ _ _ h=>h
def Sa.refl   : Sa G G:=λ_ _ h=>h
def Sm.trans    (a:Sm f G G1)(b:Sm f G1 G2):Sm f G G2:=λc o n h=>b c o n (a c o n h)
def Sa.trans   (a:Sa G G1)(b:Sa G1 G2):Sa G G2:=λc o h=>b c o (a c o h)
def Sa.sm    (a:Sa G G'):Sm f G G':=λc o _ h=>a c o h
def Sa.new     (h:G p=none):Sa G (gup G p o):=λc u e=>by
 rw[jbH (λz=>by lia)];exact e
def Sm.put     : Sm f G (gup G f o):=λc u n e=>by rw[jbH n];exact e
def jgh  {G:Gp}(h:G a=some o)(hp:G p=none):p≠a:=λz=>by lia
def New.at     (n:New G p o G'):G' p=some o:=by rw[n.eq];exact jaD
def New.sa     (n:New G p o G'):Sa G G':=by rw[n.eq];exact Sa.new n.no
def Put.at     (n:Put G p o G'):G' p=some o:=by rw[n.eq];exact jaD
def Put.sm     (n:Put G p o G'):Sm p G G':=by rw[n.eq];exact Sm.put
mutual
noncomputable def pd:U->PyData
 |.non=>.none
 |.bl b=>.bool b
 |.int i=>.int i
 |.str x=>.str x
 |.tup us=>.tuple (pds us)
 |.loc _=>.none
 |.fn _=>.none
 |.ty _=>.none
 |.exc _ _=>.none
 |.own _=>.none
 |.clo _ _=>.none
noncomputable def pds:List U->List PyData
 |[]=>[]
 |u::us=>pd u::pds us
end
mutual
noncomputable def bare:U->Bool
 |.non=>true
 |.bl _=>true
 |.int _=>true
 |.str _=>true
 |.tup us=>bares us
 |.loc _=>false
 |.fn _=>false
 |.ty _=>false
 |.exc _ _=>false
 |.own _=>false
 |.clo _ _=>false
noncomputable def bares:List U->Bool
 |[]=>true
 |u::us=>bare u&&bares us
end
mutual
theorem jqg {G:Gp}:∀{u:U},bare u=true->DU G u (pd u)
 |.non,_=>.non
 |.bl b,_=>.bl b
 |.int i,_=>.int i
 |.str x,_=>.str x
 |.tup _,h=>.tup (jjh h)
 |.loc _,h=>nomatch h
 |.fn _,h=>nomatch h
 |.ty _,h=>nomatch h
 |.exc _ _,h=>nomatch h
 |.own _,h=>nomatch h
 |.clo _ _,h=>nomatch h
theorem jjh {G:Gp}:∀{us:List U},bares us=true->DUs G us (pds us)
 |[],_=>.nil
 |_::_,h=>.cons (jqg (ba h).1) (jjh (ba h).2)
end
structure Sml (n:Nat)(u:U):Prop where
 b:bare u=true
 l:(pd u).canLay0=true
 d:(pd u).depth<=n
def Sml.int   i:Sml 0 (.int i):=⟨rfl,rfl,Yab _⟩
theorem smls   : ∀{us },(∀u∈us,Sml n u)->bares us=true/\YcM (pds us)=true/\Ybb (pds us)<=n
 |[],_=>⟨rfl,rfl,Ya8 _⟩
 |u::us,h=>by
  obtain⟨h1,h2,h3⟩:=smls λv hv=>h v (Yao _ hv);have hu:=h u YaC;refine⟨?_,?_,?_⟩
  ·show(bare u&&bares us)=true;rw[hu.b,h1];rfl
  ·show((pd u).canLay0&&YcM (pds us))=true;rw[hu.l,h2];rfl
  ·show max (pd u).depth (Ybb (pds us))<=n;exact Nat.max_le.mpr ⟨hu.d,h3⟩
def joO       (ga:G a=some (.lst us))(gb:G b=some (.lst []))(h:∀u∈us,Sml n u)(hn:n<100)(q:k us.isEmpty):eqU (.loc a) (.loc b) G k:=by
 obtain⟨h1,h2,h3⟩:=smls h;have la:lsG G a=some us:=by unfold lsG;rw[ga]
 have lb:lsG G b=some []:=by unfold lsG;rw[gb]
 refine⟨.list (pds us),.list [],.lst la (jjh h1),.lst lb .nil,⟨h2,?_⟩,⟨rfl,by decide⟩,?_⟩
 ·show Ybb (pds us)+1<=100
  lia
 ·have e:YaR (.list (pds us)) (.list [])=us.isEmpty:=by
   show Ydm (pds us) []=_;rw[jhW];cases us<;>rfl
  lia
theorem jcd     : ∀{xs } (I:Nat->Sg->Gp->Prop) (_:∀ς G,I xs.length ς G->ok G/\k ς G)
  (_:∀i x ς G K ,xs[i]?=some x->I i ς G->(∀ς' G',I (i+1) ς' G'->K ς' G')->ok G/\b x ς G K) {ς } {G } (_:I 0 ς G),forL ok b xs ς G k
 |[],_,h0,_,_,_,h=>h0 _ _ h
 |x::_,I,h0,h1,_,_,h=>h1 0 x _ _ _ rfl h λ_ _ h'=>jcd (λi=>I (i+1)) h0 (λi y ς G K e hi hk=>h1 (i+1) y ς G K e hi hk) h'
theorem jav     : ∀{xs } (I:Nat->List U->Gp->Prop) (_:∀acc G,I xs.length acc G->ok G/\k acc G)
  (_:∀i x acc G K ,xs[i]?=some x->I i acc G->(∀u G',I (i+1) (acc++[u]) G'->K (some u) G')->(∀G',I (i+1) acc G'->K none G')->ok G/\b x G K) {acc } {G } (_:I 0 acc G),jfL ok b xs acc G k
 |[],_,h0,_,_,_,h=>h0 _ _ h
 |x::_,I,h0,h1,_,_,h=>h1 0 x _ _ _ rfl h (λ_ _ h'=>jav (λi=>I (i+1)) h0 (λi y a G K e hi hk hn=>h1 (i+1) y a G K e hi hk hn) h') (λ_ h'=>jav (λi=>I (i+1)) h0 (λi y a G K e hi hk hn=>h1 (i+1) y a G K e hi hk hn) h')
theorem jbK       f (hok:ok G):∀{xs } (_:∀x∈xs,∀K ,K (some (f x)) G->b x G K) {acc } (_:k (acc++xs.map f) G),jfL ok b xs acc G k
 |[],_,acc,q=>⟨hok,by simpa using q⟩
 |x::xs,hb,acc,q=>⟨hok,hb x YaC _ (jbK f hok (λy hy=>hb y (Yao _ hy)) (by simpa using q))⟩
def jaz   i n:(rngU i n).length=n:=by unfold rngU;simp
def jcP    (h:(rngU 0 n)[i]?=some x):i<n/\x=.int i:=by
 unfold rngU at h;rw[YaD]at h;by_cases hi:i<n
 ·rw[Ydo hi]at h;exact⟨hi,by simpa using h.symm⟩
 ·rw[YeY (by simpa using hi)]at h
  cases h
def jcf   (f:α->β)(l:List α) i:atI (l.map f) i=(atI l i).map f:=by
 unfold atI;rw[Yai];cases ixN l.length i with
 |none=>rfl
 |some j=>simp
def jbd   (a:α) l:atI (a::l) 0=some a:=jbj (xs:=a::l) (j:=0) rfl
def jaB   (a b:α) l:atI (a::b::l) 1=some b:=jbj (xs:=a::b::l) (j:=1) rfl
def jh3   (a b c:α) l:atI (a::b::c::l) 2=some c:=jbj (xs:=a::b::c::l) (j:=2) rfl
def jfU   {l:List α}{r:Int}(h0:0<=r)(h1:r<l.length):∃x,x∈l/\atI l r=some x:=by
 obtain⟨j,rfl⟩:=Yaz h0;have hj:j<l.length:=by lia
 exact⟨l[j],YdX hj,jbj (YaB hj)⟩
noncomputable def fdU  (c:Addr)(a l t:Int):List (Key×U):=[(.inr "cells",.loc c),(.inr "at",.int a),(.inr "left",.int l),(.inr "turn",.int t)]
structure Fd (G:Gp)(f c:Addr):Prop where
 ex:∃(ns:List Int) (a l t:Int),G f=some (.dK (fdU c a l t))/\G c=some (.lst (ns.map .int))/\ns≠[]
def k_ca  : ¬((Sum.inr ("cells" : Str):Key)=Sum.inr ("at" : Str)):=by decide +kernel
def k_cl  : ¬((Sum.inr ("cells" : Str):Key)=Sum.inr ("left" : Str)):=by decide +kernel
def k_ct  : ¬((Sum.inr ("cells" : Str):Key)=Sum.inr ("turn" : Str)):=by decide +kernel
def k_al  : ¬((Sum.inr ("at" : Str):Key)=Sum.inr ("left" : Str)):=by decide +kernel
def k_at  : ¬((Sum.inr ("at" : Str):Key)=Sum.inr ("turn" : Str)):=by decide +kernel
def k_lt  : ¬((Sum.inr ("left" : Str):Key)=Sum.inr ("turn" : Str)):=by decide +kernel

def jmJ  : dGet (fdU c a l t) (.inr "cells")=some (.loc c):=by simp[dGet,fdU]
def g_at  : dGet (fdU c a l t) (.inr "at")=some (.int a):=by simp[dGet,fdU,k_ca,-Yce]
def joK  : dGet (fdU c a l t) (.inr "left")=some (.int l):=by simp[dGet,fdU,k_cl,k_al,-Yce]
def jk4  : dGet (fdU c a l t) (.inr "turn")=some (.int t):=by simp[dGet,fdU,k_ct,k_at,k_lt,-Yce]
def jnR   x:dPut (fdU c a l t) (.inr "turn") (.int x)=fdU c a l x:=by simp[dPut,fdU,k_ct,k_at,k_lt,-Yce]
def p_at   x:dPut (fdU c a l t) (.inr "at") (.int x)=fdU c x l t:=by simp[dPut,fdU,k_ca,Ne.symm k_al,Ne.symm k_at,-Yce]
def jnS   x:dPut (fdU c a l t) (.inr "left") (.int x)=fdU c a x t:=by simp[dPut,fdU,k_cl,k_al,Ne.symm k_lt,-Yce]
def jol   : jd9 [((Sum.inr ("cells" : Str):Key),U.loc p),(.inr "at",.int 0),(.inr "left",.int 0),(.inr "turn",.int 0)]=fdU p 0 0 0:=by
 simp[jd9,dPut,fdU,k_ca,k_cl,k_ct,k_al,k_at,k_lt,-Yce]
def jjf  : (fdU c a l t).length<Yag:=by show 4<Yag;decide
def Fd.put       (p:Put G f (.dK (fdU c a l t)) G')(h:G f=some (.dK kvs))(hc:G c=some (.lst (ns.map .int)))(hn:ns≠[]):Fd G' f c:=
 ⟨ns,a,l,t,p.at,p.sm _ _ (λz=>by lia) hc,hn⟩
def Fd.sa    (h:Fd G f c)(s:Sa G G'):Fd G' f c:=let ⟨ns,a,l,t,h1,h2,h3⟩:=h.ex;⟨ns,a,l,t,s _ _ h1,s _ _ h2,h3⟩
def Fd.new     (h:Fd G f c)(n:New G p o G'):Fd G' f c:=h.sa n.sa
def Fd.away     (h:Fd G f c)(n:New G p o G'):p≠f/\p≠c:=by
 obtain⟨ns,a,l,t,h1,h2,_⟩:=h.ex;exact⟨jgh h1 n.no,jgh h2 n.no⟩
def Fd.off     (h:Fd G f c)(hp:p≠f/\p≠c)(w:Put G p o G'):Fd G' f c:=let ⟨ns,a,l,t,h1,h2,h3⟩:=h.ex;⟨ns,a,l,t,w.sm _ _ (Ne.symm hp.1) h1,w.sm _ _ (Ne.symm hp.2) h2,h3⟩
def Sm.wr     (s1:Sm f G G1)(n:G1 p=none)(s2:Sm f G G2)(w:Put G2 p o G3):Sm f G G3:=λb u hb e=>w.sm b u (λz=>by
 have:=s1 _ _ hb e
 lia) (s2 b u hb e)
def Sm.nw     (s:Sm f G G1)(n:New G1 p o G2):Sm f G G2:=s.trans n.sa.sm
def D_v         i:(den gs Δ (.v i)).1 ς G Q X=(slot ς i λu=>Q u G):=rfl
def T_v         i:(den gs Δ (.v i)).2 ς G R X=(den gs Δ (.v i)).1 ς G (λx G1=>truU x G1 λb=>R b G1) X:=rfl
def D_non         : (den gs Δ (.non)).1 ς G Q X=(Q .non G):=rfl
def D_bl         b:(den gs Δ (.bl b)).1 ς G Q X=(Q (.bl b) G):=rfl
def D_int         i:(den gs Δ (.int i)).1 ς G Q X=(Q (.int i) G):=rfl
def D_str         x:(den gs Δ (.str x)).1 ς G Q X=(Q (.str x) G):=rfl
def D_g         n:(den gs Δ (.g n)).1 ς G Q X=(glU gs n λu=>Q u G):=rfl
def T_g         n:(den gs Δ (.g n)).2 ς G R X=(den gs Δ (.g n)).1 ς G (λx G1=>truU x G1 λb=>R b G1) X:=rfl
def D_ty         n:(den gs Δ (.ty n)).1 ς G Q X=(Q (.ty n) G):=rfl
def T_ty         n:(den gs Δ (.ty n)).2 ς G R X=(den gs Δ (.ty n)).1 ς G (λx G1=>truU x G1 λb=>R b G1) X:=rfl
def D_bin         o a b:(den gs Δ (.bin o a b)).1 ς G Q X=((den gs Δ a).1 ς G (λx G1=>(den gs Δ b).1 ς G1 (λy G2=>binU o x y G2 Q) X) X):=rfl
def T_bin         o a b:(den gs Δ (.bin o a b)).2 ς G R X=(den gs Δ (.bin o a b)).1 ς G (λx G1=>truU x G1 λb=>R b G1) X:=rfl
def D_neg         a:(den gs Δ (.neg a)).1 ς G Q X=((den gs Δ a).1 ς G (λx G1=>negU x G1 Q) X):=rfl
def D_cmp         o a b:(den gs Δ (.cmp o a b)).1 ς G Q X=((den gs Δ a).1 ς G (λx G1=>(den gs Δ b).1 ς G1 (λy G2=>cmpU o x y G2 λc=>Q (.bl c) G2) X) X):=rfl
def T_cmp         o a b:(den gs Δ (.cmp o a b)).2 ς G R X=(den gs Δ (.cmp o a b)).1 ς G (λx G1=>truU x G1 λb=>R b G1) X:=rfl
def D_cmp2         o p a b c:(den gs Δ (.cmp2 o p a b c)).1 ς G Q X=((den gs Δ a).1 ς G (λx G1=>(den gs Δ b).1 ς G1 (λy G2=>cmpU o x y G2 λt=>if t=true then (den gs Δ c).1 ς G2 (λz G3=>cmpU p y z G3 λt'=>Q (.bl t') G3) X else Q (.bl false) G2) X) X):=rfl
def T_cmp2         o p a b c:(den gs Δ (.cmp2 o p a b c)).2 ς G R X=(den gs Δ (.cmp2 o p a b c)).1 ς G (λx G1=>truU x G1 λb=>R b G1) X:=rfl
def D_tup         es:(den gs Δ (.tup es)).1 ς G Q X=(jaw gs Δ es ς G (λus G1=>us.length<=Yag/\Q (.tup us) G1) X):=rfl
def D_lst         es:(den gs Δ (.lst es)).1 ς G Q X=(jaw gs Δ es ς G (λus G1=>us.length<=Yag/\newO G1 (.lst us) Q) X):=rfl
def D_dic         es:(den gs Δ (.dic es)).1 ς G Q X=(denD gs Δ es ς G (λkvs G1=>kvs.length<=15/\newO G1 (.dK (jd9 kvs)) Q) X):=rfl
def D_ix         a b:(den gs Δ (.ix a b)).1 ς G Q X=((den gs Δ a).1 ς G (λx G1=>(den gs Δ b).1 ς G1 (λy G2=>ixU x y G2 Q) X) X):=rfl
def T_ix         a b:(den gs Δ (.ix a b)).2 ς G R X=(den gs Δ (.ix a b)).1 ς G (λx G1=>truU x G1 λb=>R b G1) X:=rfl
def D_sl         a lo hi:(den gs Δ (.sl a lo hi)).1 ς G Q X=((den gs Δ a).1 ς G (λx G1=>denO gs Δ lo ς G1 (λl G2=>denO gs Δ hi ς G2 (λh G3=>slU x l h G3 Q) X) X) X):=rfl
def D_rev         a b:(den gs Δ (.rev a b)).1 ς G Q X=((den gs Δ a).1 ς G (λx G1=>(den gs Δ b).1 ς G1 (λy G2=>revU x y G2 Q) X) X):=rfl
def D_call         n es:(den gs Δ (.call n es)).1 ς G Q X=(jaw gs Δ es ς G (λus G1=>Δ n us G1 Q X) X):=rfl
def T_call         n es:(den gs Δ (.call n es)).2 ς G R X=(den gs Δ (.call n es)).1 ς G (λx G1=>truU x G1 λb=>R b G1) X:=rfl
def D_blt         b es:(den gs Δ (.blt b es)).1 ς G Q X=(jaw gs Δ es ς G (λus G1=>bltU b us G1 Q) X):=rfl
def T_blt         b es:(den gs Δ (.blt b es)).2 ς G R X=(den gs Δ (.blt b es)).1 ς G (λx G1=>truU x G1 λb=>R b G1) X:=rfl
def D_meth {gs:List U}{Δ:Cl}{ς:Sg}{G:Gp}{Q:K1}{X:KX}(m:Mth)(o:E)(es:Es):(den gs Δ (.meth m o es)).1 ς G Q X=((den gs Δ o).1 ς G (λx G1=>match mtU m x G1 with|some _=>jaw gs Δ es ς G1 (λus G2=>jaI m x us G2 Q) X|none=>False) X):=rfl
def D_lc         pick t it ifs e:(den gs Δ (.lc pick t it ifs e)).1 ς G Q X=(denI gs Δ it ς G (λxs ok G1=>xs.length<=Yag/\jfL ok (λx G2 k=>tgU t x (jcQ pick ς) λτ=>denC gs Δ ifs τ G2 (λb G3=>if b=true then (den gs Δ e).1 τ G3 (λu G4=>k (some u) G4) (λ_ _=>False) else k none G3)) xs [] G1 λus G5=>newO G5 (.lst us) Q) X):=rfl
def D_mkL         e:(den gs Δ (.mkL e)).1 ς G Q X=((den gs Δ e).1 ς G (λx G1=>itU x G1 λxs _=>newO G1 (.lst xs) Q) X):=rfl
def D_mkT         e:(den gs Δ (.mkT e)).1 ς G Q X=((den gs Δ e).1 ς G (λx G1=>itU x G1 λxs _=>Q (.tup xs) G1) X):=rfl
def D_not         a:(den gs Δ (.not a)).1 ς G Q X=((den gs Δ a).1 ς G (λx G1=>truU x G1 λb=>Q (.bl (!b)) G1) X):=rfl
def T_not         a:(den gs Δ (.not a)).2 ς G R X=((den gs Δ a).2 ς G (λb G1=>R (!b) G1) X):=rfl
def D_ife         c a b:(den gs Δ (.ife c a b)).1 ς G Q X=((den gs Δ c).2 ς G (λt G1=>if t=true then (den gs Δ a).1 ς G1 Q X else (den gs Δ b).1 ς G1 Q X) X):=rfl
def T_ife         c a b:(den gs Δ (.ife c a b)).2 ς G R X=((den gs Δ c).2 ς G (λt G1=>if t=true then (den gs Δ a).2 ς G1 R X else (den gs Δ b).2 ς G1 R X) X):=rfl
def D_bop0      : den gs Δ (.bop k a .nil)=den gs Δ a:=rfl
def D_and          : (den gs Δ (.bop true a (.cons b es))).1 ς G Q X=(den gs Δ a).1 ς G (λx G1=>truU x G1 λc=>if c=true then (den gs Δ (.bop true b es)).1 ς G1 Q X else Q x G1) X:=rfl
def D_or          : (den gs Δ (.bop false a (.cons b es))).1 ς G Q X=(den gs Δ a).1 ς G (λx G1=>truU x G1 λc=>if c=true then Q x G1 else (den gs Δ (.bop false b es)).1 ς G1 Q X) X:=rfl
def T_and          : (den gs Δ (.bop true a (.cons b es))).2 ς G R X=(den gs Δ a).2 ς G (λc G1=>if c=true then (den gs Δ (.bop true b es)).2 ς G1 R X else R false G1) X:=rfl
def T_or          : (den gs Δ (.bop false a (.cons b es))).2 ς G R X=(den gs Δ a).2 ς G (λc G1=>if c=true then R true G1 else (den gs Δ (.bop false b es)).2 ς G1 R X) X:=rfl
def O_no        : denO gs Δ .no ς G Q X=Q none G:=rfl
def O_so {gs:List U}{Δ:Cl}{ς:Sg}{G:Gp}{X:KX}{Q:Option Int->Gp->Prop}{e:E}:denO gs Δ (.so e) ς G Q X=(den gs Δ e).1 ς G (λx G1=>match x with|.int i=>Q (some i) G1|_=>False) X:=rfl
def A_nil        : jaw gs Δ .nil ς G Q X=Q [] G:=rfl
def A_cons          : jaw gs Δ (.cons e es) ς G Q X=(den gs Δ e).1 ς G (λx G1=>jaw gs Δ es ς G1 (λxs G2=>Q (x::xs) G2) X) X:=rfl
def C_nil       : denC gs Δ .nil ς G Q=Q true G:=rfl
def C_cons         : denC gs Δ (.cons e es) ς G Q=(den gs Δ e).2 ς G (λb G1=>if b=true then denC gs Δ es ς G1 Q else Q false G1) (λ_ _=>False):=rfl
def P_nil        : denD gs Δ .nil ς G Q X=Q [] G:=rfl
def P_cons {gs:List U}{Δ:Cl}{ς:Sg}{G:Gp}{X:KX}{Q:List (Key×U)->Gp->Prop}{e f:E}{es:Es}:denD gs Δ (.cons e (.cons f es)) ς G Q X=(den gs Δ e).1 ς G (λx G1=>(den gs Δ f).1 ς G1 (λy G2=>match kU x with|some k=>denD gs Δ es ς G2 (λkvs G3=>Q ((k,y)::kvs) G3) X|none=>False) X) X:=rfl
def I_e         : denI gs Δ (.e e) ς G Q X=(den gs Δ e).1 ς G (λx G1=>itU x G1 λxs ok=>Q xs ok G1) X:=rfl
section
variable {gs:List U}{Δ:Cl}{ς:Sg}{G:Gp}{X:KX}{Q:List U->(Gp->Prop)->Gp->Prop}
def I_r1 {e:E}:denI gs Δ (.r1 e) ς G Q X=(den gs Δ e).1 ς G (λx G1=>match x with|.int j=>-(2 ^ 62)<=j/\j<2 ^ 62/\Q (rngU 0 j.toNat) (λ_=>True) G1|_=>False) X:=rfl
def I_r2 {a b:E}:denI gs Δ (.r2 a b) ς G Q X=(den gs Δ a).1 ς G (λx G1=>(den gs Δ b).1 ς G1 (λy G2=>match x,y with|.int i,.int j=>-(2 ^ 62)<=i/\i<2 ^ 62/\-(2 ^ 62)<=j/\j<2 ^ 62/\Q (rngU i (j-i).toNat) (λ_=>True) G2|_,_=>False) X) X:=rfl
end
def F_nil        : denF gs Δ .nil ς G Q X=Q [] G:=rfl
def F_cons          : denF gs Δ (.cons e es) ς G Q X=(den gs Δ e).1 ς G (λx G1=>fpU x λz=>denF gs Δ es ς G1 (λzs G2=>Q (z::zs) G2) X) X:=rfl
def S_expr        : denS gs Δ (.expr e) D ς G=(den gs Δ e).1 ς G (λ_ G1=>D.nx ς G1) λx G1=>D.ex x ς G1:=rfl
def S_asg         : denS gs Δ (.asg t e) D ς G=(den gs Δ e).1 ς G (λu G1=>tgU t u ς λς'=>D.nx ς' G1) λx G1=>D.ex x ς G1:=rfl
def S_asgC         : denS gs Δ (.asgC i e) D ς G=(den gs Δ e).1 ς G (λu G1=>D.nx (ς.set i (some u)) G1) λx G1=>D.ex x ς G1:=rfl
def S_setS        : denS gs Δ (.setS o i e) D ς G=(den gs Δ e).1 ς G (λv G1=>(den gs Δ o).1 ς G1 (λx G2=>(den gs Δ i).1 ς G2 (λy G3=>setU x y v G3 λG4=>D.nx ς G4) (λx G1=>D.ex x ς G1)) (λx G1=>D.ex x ς G1)) (λx G1=>D.ex x ς G1):=rfl
def S_par         : denS gs Δ (.par is es) D ς G=jaw gs Δ es ς G (λus G1=>us.length=is.length/\D.nx ((is.zip us).foldl (λs p=>s.set p.1 (some p.2)) ς) G1) λx G1=>D.ex x ς G1:=rfl
def S_aug          : denS gs Δ (.aug i o e) D ς G=slot ς i λx=>(den gs Δ e).1 ς G (λy G1=>jgt o x y G1 λz G2=>D.nx (ς.set i (some z)) G2) λx G1=>D.ex x ς G1:=rfl
def S_ite         : denS gs Δ (.ite c a b) D ς G=(den gs Δ c).2 ς G (λt G1=>if t=true then jal gs Δ a D ς G1 else jal gs Δ b D ς G1) λx G1=>D.ex x ς G1:=rfl
def S_fr          : denS gs Δ (.fr t it b) D ς G=denI gs Δ it ς G (λxs ok G1=>forL ok (λx ς1 G2 k=>tgU t x ς1 λς2=>jal gs Δ b { D with nx:=k } ς2 G2) xs ς G1 D.nx) λx G1=>D.ex x ς G1:=rfl
def S_ret        : denS gs Δ (.ret e) D ς G=(den gs Δ e).1 ς G D.rt λx G1=>D.ex x ς G1:=rfl
def S_raise         : denS gs Δ (.raise c es) D ς G=jaw gs Δ es ς G (λus G1=>us.length=(clsF c).length/\D.ex ⟨c,us⟩ ς G1) λx G1=>D.ex x ς G1:=rfl
def S_tr          : denS gs Δ (.tr b c n h) D ς G=jal gs Δ b { D with ex:=λx ς1 G1=>(c=0\/x.c=c)/\hsH x h (ς1.set n none) G1 λς2 G2=>D.nx (ς2.set n none) G2 } ς G:=rfl
def B_nil       : jal gs Δ .nil D ς G=D.nx ς G:=rfl
def B_cons         : jal gs Δ (.cons s r) D ς G=denS gs Δ s { D with nx:=λς' G'=>jal gs Δ r D ς' G' } ς G:=rfl
def S_wh         : denS gs Δ (.wh c b) D ς G=∃W:Nat->Sg->Gp->Prop,(∃m,W m ς G)/\∀m ς1 G1,W m ς1 G1->(den gs Δ c).2 ς1 G1 (λt G2=>if t=true then jal gs Δ b { D with nx:=λς' G'=>∃m',m'<m/\W m' ς' G' } ς1 G2 else D.nx ς1 G2) λx G1=>D.ex x ς1 G1:=rfl
def V_add     : binU .Add (.int i) (.int j) G Q=Q (.int (i+j)) G:=rfl
def V_cat     : binU .Add (.tup xs) (.tup ys) G Q=(xs.length+ys.length<=Yag/\Q (.tup (xs++ys)) G):=rfl
def V_catL     : binU .Add (.loc a) (.loc b) G Q=∃xs ys,G a=some (.lst xs)/\G b=some (.lst ys)/\xs.length+ys.length<=Yag/\newO G (.lst (xs++ys)) Q:=rfl
def V_sub     : binU .Sub (.int i) (.int j) G Q=Q (.int (i-j)) G:=rfl
def V_mul     : binU .Mult (.int i) (.int j) G Q=(CMul i j/\Q (.int (i*j)) G):=rfl
def V_mulL      : binU .Mult (.loc a) (.int k) G Q=∃xs,G a=some (.lst xs)/\-(2 ^ 63)<=k/\k<2 ^ 63/\xs.length*k.toNat<=Yag/\newO G (.lst (Yaa k.toNat xs).flatten) Q:=rfl
def V_mulT      : binU .Mult (.tup xs) (.int k) G Q=(xs≠[]/\0<=k/\k<2 ^ 62/\xs.length*k.toNat<=Yag/\Q (.tup (Yaa k.toNat xs).flatten) G):=rfl
def V_fdiv     : binU .FloorDiv (.int i) (.int j) G Q=(0<j/\j<1073741824/\Q (.int (i/j)) G):=rfl
def V_mod     : binU .Mod (.int i) (.int j) G Q=(0<j/\Q (.int (i%j)) G):=rfl
def V_pow     : binU .Pow (.int i) (.int j) G Q=(CPow i j/\Q (.int (i ^ j.toNat)) G):=rfl
def V_neg     : negU (.int i) G Q=Q (.int (-i)) G:=rfl
def W_eqI     : cmpU .Eq (.int i) (.int j) G k=k (decide (i=j)):=rfl
def W_neI     : cmpU .NotEq (.int i) (.int j) G k=k (!decide (i=j)):=rfl
def W_eqS     : cmpU .Eq (.str i) (.str j) G k=k (decide (i=j)):=rfl
def W_neS     : cmpU .NotEq (.str i) (.str j) G k=k (!decide (i=j)):=rfl
def W_lt     : cmpU .Lt (.int i) (.int j) G k=k (decide (i<j)):=rfl
def W_le     : cmpU .LtE (.int i) (.int j) G k=k (decide (i<=j)):=rfl
def W_gt     : cmpU .Gt (.int i) (.int j) G k=k (decide (j<i)):=rfl
def W_ge     : cmpU .GtE (.int i) (.int j) G k=k (decide (j<=i)):=rfl
def W_neT     : cmpU .NotEq (.tup xs) (.tup []) G k=k (!xs.isEmpty):=rfl
def W_eqT      : cmpU .Eq (.tup xs) (.tup (y::ys)) G k=eqU (.tup xs) (.tup (y::ys)) G k:=rfl
def W_eqT0     : cmpU .Eq (.tup xs) (.tup []) G k=k xs.isEmpty:=rfl
def W_neL     : cmpU .NotEq (.loc a) (.loc b) G k=((∃us,G a=some (.lst us)/\G b=some (.lst [])/\k (!us.isEmpty))\/eqU (.loc a) (.loc b) G λb=>k (!b)):=rfl
def W_eqL     : cmpU .Eq (.loc a) (.loc b) G k=eqU (.loc a) (.loc b) G k:=rfl
def W_in     : cmpU .In x y G k=inU x y G k:=rfl
def W_nin     : cmpU .NotIn x y G k=inU x y G λb=>k (!b):=rfl
def W_is     : cmpU .Is x y G k=isU x y k:=rfl
def W_isn     : cmpU .IsNot x y G k=isU x y λb=>k (!b):=rfl
def Y_bl     : truU (.bl b) G k=k b:=rfl
def Y_non    : truU .non G k=k false:=rfl
def Y_int     : truU (.int i) G k=k (i != 0):=rfl
def Y_tup     : truU (.tup xs) G k=k (!xs.isEmpty):=rfl
def J_tup     : itU (.tup xs) G k=k xs λ_=>True:=rfl
def X_tup      : slU (.tup xs) lo hi G Q=Q (.tup (cut xs lo hi)) G:=rfl
def F_len     : bltU .len us G Q=lenU us G Q:=rfl
def F_repr     : bltU .repr us G Q=jip us G Q:=rfl
def F_min     : bltU .min us G Q=minU us G Q:=rfl
def F_max     : bltU .max us G Q=maxU us G Q:=rfl
def F_sum     : bltU .sum us G Q=sumU us G Q:=rfl
def F_all     : bltU .all us G Q=allU us G Q:=rfl
def F_int     : bltU .int us G Q=intU us G Q:=rfl
def F_str     : bltU .str us G Q=strU us G Q:=rfl
def F_isi     : bltU .isi us G Q=jhT us G Q:=rfl
def X_str      : slU (.str x) lo hi G Q=(x.length<=Yag/\Q (.str (Ye5 x lo hi)) G):=rfl
def V_addB      : binU .Add (.bl b) (.int j) G Q=Q (.int ((if b=true then (1:Int) else 0)+j)) G:=rfl
def V_subB      : binU .Sub (.bl b) (.int j) G Q=Q (.int ((if b=true then (1:Int) else 0)-j)) G:=rfl
def V_subI      : binU .Sub (.int i) (.bl b) G Q=Q (.int (i-if b=true then (1:Int) else 0)) G:=rfl
def F_lenT     : lenU [.tup xs] G Q=Q (.int xs.length) G:=rfl
def F_min2     : minU [.int i,.int j] G Q=Q (.int (if j<i then j else i)) G:=rfl
def F_max2     : maxU [.int i,.int j] G Q=Q (.int (if j>i then j else i)) G:=rfl
def F_intB     : intU [.bl b] G Q=Q (.int (if b then 1 else 0)) G:=rfl
def F_intI     : intU [.int i] G Q=Q (.int i) G:=rfl
def G_n      : tgU (.n i) u ς k=k (ς.set i (some u)):=rfl
def G_t      : tgU (.t ts) (.tup us) ς k=tgsU ts us ς k:=rfl
def G_nil     : tgsU .nil us ς k=(us=[]/\k ς):=rfl
def G_cons        : tgsU (.cons t ts) (u::r) ς k=tgU t u ς λς'=>tgsU ts r ς' k:=rfl
def sl_0   {ς:Sg}:slot (some u::ς) 0 k=k u:=rfl
def sl_s   {ς:Sg}:slot (o::ς) (i+1) k=slot ς i k:=rfl
def jf7      : putO G a o Q=Q (gup G a o):=propext ⟨λh=>h.at,λh G1 p=>by rw[p.eq];exact h⟩
def ix_t       (h:atI xs i=some u):ixU (.tup xs) (.int i) G Q=Q u G:=by unfold ixU;lia
def ix_l        (g:G a=some (.lst xs))(h:atI xs i=some u):ixU (.loc a) (.int i) G Q=Q u G:=by unfold ixU;lia
def ix_d        (g:G a=some (.dK kvs))(h:dGet kvs (.inr x)=some u):ixU (.loc a) (.str x) G Q=Q u G:=by unfold ixU;dsimp only;rw[g];show(match dGet kvs (.inr x)with|some u=>Q u G|none=>False)=_;rw[h]
def je2       (g:G a=some (.lst xs))(h0:0<=r)(h1:r<xs.length)(q:∀u∈xs,Q u G):ixU (.loc a) (.int r) G Q:=by
 obtain⟨u,hu,e⟩:=jfU h0 h1;rw[ix_l g e];exact q u hu
def jcy  (zs:List Int){r:Int}(g:G a=some (.lst (zs.map .int)))(h0:0<=r)(h1:r<zs.length)(q:∀z∈zs,Q (.int z) G):ixU (.loc a) (.int r) G Q:=
 je2 g h0 (by simp_all) λu hu=>by
  grind
theorem jhd  : ∀zs ,jfA (zs.map .int)=some zs
 |[]=>rfl
 |x::r=>by show(match jfA (r.map .int)with|some l=>some (x::l)|none=>none)=_;rw[jhd r]
def in_l       (g:G a=some (.lst ys))(h1:flat x=true)(h2:ys.all flat=true)(q:k (ys.any λy=>eqF y x)):inU x (.loc a) G k:=by
 cases x<;>first|(cases h1;done)|(unfold inU;lia)
def jgm      (g:G a=some (.lst xs)):lenU [.loc a] G Q=Q (.int xs.length) G:=by unfold lenU;lia
def jp0      (g:G a=some (.fro xs)):lenU [.loc a] G Q=Q (.int xs.length) G:=by unfold lenU;lia
def it_l      (g:G a=some (.lst xs)):itU (.loc a) G k=k xs λG'=>lsG G' a=some xs:=by unfold itU;dsimp only;have e:lsG G a=some xs:=(by unfold lsG;rw[g]);rw[e]
def jky       (g:G a=some (.lst xs)):jaI .append (.loc a) [v] G Q=(xs.length<Yag/\putO G a (.lst (xs++[v])) (Q .non)):=by unfold jaI jgK;dsimp only;rw[g]
def jfv     (g:G a=some (.lst xs)):mtU .append (.loc a) G=some ("list", "list.append"):=by unfold mtU;lia
def jlC        (g:G a=some (.dK kvs)):setU (.loc a) (.str x) v G Q=(kvs.length<Yag/\putO G a (.dK (dPut kvs (.inr x) v)) Q):=by unfold setU;dsimp only;rw[g];rfl
noncomputable def jkq  : Nat->Ss->Ss
 |0,s=>s
 |_+1,.nil=>.nil
 |n+1,.cons _ r=>jkq n r
def dr_0   : jkq 0 s=s:=rfl
def dr_s     : jkq (n+1) (.cons s r)=jkq n r:=rfl
def pk_nil   : jcQ [] ς=[]:=rfl
def pk_none    : jcQ (none::r) ς=none::jcQ r ς:=rfl
def pk_some     : jcQ (some j::r) ς=(ς[j]?).join::jcQ r ς:=rfl
def K_str   : kU (.str x)=some (.inr x):=rfl
def K_int   : kU (.int i)=some (.inl i):=rfl
def sl_f       (g:G a=some (.fro xs)):slU (.loc a) lo hi G Q=newO G (.lst (cut xs lo hi)) Q:=by unfold slU;dsimp only;have e:lsG G a=some xs:=(by unfold lsG;rw[g]);rw[e]
def jmQ   (f:α->β)(xs:List α) lo hi:cut (xs.map f) lo hi=(cut xs lo hi).map f:=by unfold cut;simp_all
def jfJ   (xs:List α)(n:Nat):cut xs none (some (n:Int))=xs.take n:=by
 unfold cut;rw[HT.sIx_none,HT.sIx_nat,Yet,Nat.sub_zero,List.take_eq_take_iff]
 lia
def jds   (xs:List α)(n:Nat):cut xs (some (n:Int)) none=xs.drop n:=by
 unfold cut;rw[HT.sIx_none,HT.sIx_nat];by_cases h:n<=xs.length
 ·rw[Nat.min_eq_left h,YeT (by simp)]
 ·rw[Nat.min_eq_right (by lia),YeU (Yab _),YeU (by lia),List.take_nil]
def fx_cells      : ixU (.loc f) (.str "cells") (gup G f (.dK (fdU c a l t))) Q=Q (.loc c) (gup G f (.dK (fdU c a l t))):=ix_d jaD jmJ
def fx_at      : ixU (.loc f) (.str "at") (gup G f (.dK (fdU c a l t))) Q=Q (.int a) (gup G f (.dK (fdU c a l t))):=ix_d jaD g_at
def fx_left      : ixU (.loc f) (.str "left") (gup G f (.dK (fdU c a l t))) Q=Q (.int l) (gup G f (.dK (fdU c a l t))):=ix_d jaD joK
def fx_turn      : ixU (.loc f) (.str "turn") (gup G f (.dK (fdU c a l t))) Q=Q (.int t) (gup G f (.dK (fdU c a l t))):=ix_d jaD jk4
def fs_at      : setU (.loc f) (.str "at") (.int x) (gup G f (.dK (fdU c a l t))) Q=Q (gup G f (.dK (fdU c x l t))):=by rw[jlC jaD,p_at,jf7,ji9];exact propext ⟨λh=>h.2,λh=>⟨jjf,h⟩⟩
def fs_left      : setU (.loc f) (.str "left") (.int x) (gup G f (.dK (fdU c a l t))) Q=Q (gup G f (.dK (fdU c a x t))):=by rw[jlC jaD,jnS,jf7,ji9];exact propext ⟨λh=>h.2,λh=>⟨jjf,h⟩⟩
end Z

namespace Y
open PySem L2
noncomputable def nO  : Obj:=⟨.none,none,.fields ⟨[]⟩,⟨[]⟩⟩
noncomputable def tO  (v:List Value):Obj:=⟨.type "tuple",none,.seq ⟨v⟩ 0,⟨[]⟩⟩
noncomputable def sO  (c:Value)(v:List Value):Obj:=⟨c,none,.fields ⟨v⟩,⟨[]⟩⟩
noncomputable def rO  (v:List (Option Value)):Obj:=⟨.type "frame",none,.plain,⟨v⟩⟩
noncomputable def gO  (x q:Str)(s:Stmt):Obj:=⟨.none,none,.func { name:=x,qualname:=q,params:=jax s,body:=.stmts (jaf s),scope:=jaa s,globals:=0,closure:=[],defaults:=.none,kwdefaults:=.none },⟨[]⟩⟩
noncomputable def fO  (x q:Str)(s:Stmt)(m:Value)(c:Nat):Obj:=⟨.type "function",none,.func (Ya2 x q (jax s) (jaf s) (jaa s) .none .none .none m none (.ref c) .none),⟨[]⟩⟩
noncomputable def kO  (fi x q:Str)(t:Nat)(l a f:Int)(r:Nat)(b:Bool)(u v w:Value)(z:Nat):Obj:=⟨.type "code",none,.fields ⟨[.str x t,.str q (t+1),.str fi (t+2),.int l 0,.int a 0,.int 0 0,.int 0 0,.int f 0,.ref r,.bool b,.int 181 0,.ref (r+1),.none,u,v,w,.int z 0,.int l 0,.str fi (z+1)]⟩,⟨[]⟩⟩
noncomputable def dE  (P:Params)(x:Str)(t:Nat)(v:Value):Ydw:=⟨PyData.keyHash P x,.str x t,v⟩
noncomputable def dO  (e:List Ydw)(n:Nat):Obj:=⟨.type "dict",none,.dict ⟨e⟩ n,⟨[]⟩⟩
noncomputable def cO  (x:Str)(b m:List Value)(n:Nat)(u:List Value)(s:List (Option Value)):Obj:=⟨.type "type",none,.cls { name:=x,bases:=b,mro:=m,ns:=n,qualname:=x,subclasses:=u },⟨s⟩⟩
def tE  : Obj:=tO []
noncomputable abbrev bE  : Yb6:=.nil
noncomputable abbrev bN  (o:Obj)(l r:Yb6):Yb6:=.node o l r
noncomputable abbrev bL  (o:Obj):Yb6:=.node o .nil .nil
end Y
namespace Z
open PySem L2
noncomputable def argB  (ps:List Str)(a:YfW):Bool:=a.posonlyargs.isEmpty&&(a.args.map (·.arg)==ps)&&a.vararg.isNone&&a.kwonlyargs.isEmpty&&a.kwarg.isNone
def jop  : ∀{ps:List Str} {us:List Value},us.length=ps.length->ps.Nodup->(ps.filterMap λn=>((ps.zip us).lookup n).map (n,·))=ps.zip us/\∀n∈ps,((ps.zip us).lookup n).isSome=true:=by
 have key:∀{l:List Str} {vs:List Value} {L:List (Str×Value)},vs.length=l.length->l.Nodup->(∀(i:Nat) n v,l[i]?=some n->vs[i]?=some v->L.lookup n=some v)->(l.filterMap λn=>(L.lookup n).map (n,·))=l.zip vs/\∀n∈l,(L.lookup n).isSome=true:=by
  intro l
  induction l with
  |nil=>simp_all
  |cons x l ih=>
   intro vs L hl nd hL;obtain _|⟨v,vs⟩:=vs
   ·cases hl
   ·have h0:=hL 0 x v rfl rfl;obtain⟨e1,e2⟩:=ih (L:=L) (vs:=vs) (by simp_all) (List.nodup_cons.mp nd).2 λi n v a b=>hL (i+1) n v a b
    refine⟨?_,λn hn=>?_⟩
    ·simp_all
    grind
 intro ps us hl nd;refine key hl nd λi n v a b=>?_;have hz:(ps.zip us)[i]?=some (n,v):=List.getElem?_zip_eq_some.mpr ⟨a,b⟩;have:∀(l:List (Str×Value)),(l.map (·.1)).Nodup->(n,v)∈l->l.lookup n=some v:=by
  intro l
  induction l with
  |nil=>simp_all
  |cons p l ih=>
   intro nd h;obtain⟨m,u⟩:=p;rw[YaU];by_cases e:n=m
   ·subst e;rw[beq_self_eq_true];rcases YaW.mp h with h|h
    ·cases h;rfl
    ·exact absurd (List.mem_map.mpr ⟨_,h,rfl⟩) (List.nodup_cons.mp nd).1
   ·rw[beq_eq_false_iff_ne.mpr e];rcases YaW.mp h with h|h
    ·cases h;exact absurd rfl e
    ·exact ih (List.nodup_cons.mp nd).2 h
 exact this _ (by rw[YfR (by lia)];exact nd) (YaI hz)
def jgG    (h:argB ps a=true)(nd:ps.Nodup){kV doc pm:Value}(hl:us.length=ps.length) :
  Yfq (Ya2 x q a b sc .none kV doc pm an cdv ct) ⟨us,[]⟩=pure (ps.zip us):=by
 obtain⟨po,as,va,ko,kd,ka,df⟩:=a;unfold argB at h;simp only[Yaf,YfS,Option.isNone_iff_eq_none,beq_iff_eq]at h;obtain⟨⟨⟨⟨rfl,rfl⟩,rfl⟩,rfl⟩,rfl⟩:=h;obtain⟨e1,e2⟩:=jop hl nd;have e3:(List.filter (λn=>(Ybx n ((as.map (·.arg)).zip us)).isNone) (as.map (·.arg)))=[]:=List.filter_eq_nil_iff.mpr λn hn=>by
  have:=e2 n hn
  simp_all
 have e0:seqItems? Ybs=pure none:=rfl;unfold Yfq;dsimp only;rw[e0];generalize as.map (·.arg)=ns at *;have e4:ns.take (ns.length-0)=ns:=by simp_all
 simp[hl,e1,e3,e4]

abbrev FL:=List (Addr×Addr×Value)
noncomputable def refB  (v:Option (Option Value))(f:Addr):Bool:=match v with
 |some (some (.ref a))=>a==f
 |_=>false
def jgX    (h:refB v f=true):v=some (some (.ref f)):=by
 unfold refB at h
 lia
noncomputable def dynB  (T:Tab)(K:Yac):Nat->FL->List Fun->List Stmt->Bool
 |_,[],[],[]=>true
 |i,x::fs,d::ds,s::ss=>refB (Ya6 K Yax d.name) x.1&&Ybu K (.ref x.2.1) d.name&&(match T.ns.lookup i with|none=>true|some z=>jeb K (.ref x.2.1) z.P)&&argB d.ps (jax s)&&dynB T K (i+1) fs ds ss
 |_,_,_,_=>false
noncomputable def lkR  : FL->List Fun->List Stmt->List (Option Obj)
 |x::fs,d::ds,s::ss=>some (Y.fO d.name d.name s x.2.2 x.2.1)::lkR fs ds ss
 |_,_,_=>[]
theorem jjg  {T:Tab}:∀{i } {fs } {ds } {ss },dynB T K i fs ds ss=true->fs.map (λx=>K.lookup x.1)=lkR fs ds ss->∀{n } {d } {s },ds[n]?=some d->ss[n]?=some s->
  ∃x:Addr×Addr×Value,Ya6 K Yax d.name=some (some (.ref x.1))/\K.lookup x.1=some (Y.fO d.name d.name s x.2.2 x.2.1)/\Ybu K (.ref x.2.1) d.name=true/\(∀z,T.ns.lookup (i+n)=some z->jeb K (.ref x.2.1) z.P=true)/\argB d.ps (jax s)=true
 |_,_,[],_,_,_,_,_,_,e,_=>by simp at e
 |_,_,_::_,[],_,_,_,_,_,_,e=>by simp at e
 |_,[],_::_,_::_,h,_,_,_,_,_,_=>by unfold dynB at h;cases h
 |i,x::fs,d::ds,s::ss,h,g,n,d',s',e1,e2=>by
  unfold dynB at h;simp only[Yaf]at h;obtain⟨⟨⟨⟨h1,h2⟩,h3⟩,h4⟩,h5⟩:=h;unfold lkR at g;rw[YaK]at g;injection g with g1 g2
  cases n with
  |zero=>
   cases(Yas e1:d=d');cases(Yas e2:s=s');exact⟨x,jgX h1,g1,h2,λz hz=>by lia,h4⟩
  |succ n=>
   obtain⟨y,q1,q2,q3,q4,q5⟩:=jjg h5 g2 (n:=n) e1 e2;exact⟨y,q1,q2,q3,λz hz=>q4 z (by rw[show i+1+n=i+(n+1) by lia];exact hz),q5⟩
def jlM    (h:scB N ps sc=true):ps.Nodup:=by
 have S:=jim h;rw[<- S.pre];exact S.nd.sublist (YdG _ _)
def jgo        (h:K.lookup f=some ⟨c,d,.func fd,sl⟩):Ybk K (.ref f)=true:=by
 unfold Ybk
 lia
section
variable {T:Tab}{K:Yac}{h:Heap}{mg:Str->Option Value}
def joS   {sts:List Stmt}(X:K.In h)(G:h.Ns Yax mg)(hst:jeV T 0 T.funs sts=true)(heq:jfj T sts 0 T.funs sts)(hB:dynB T K 0 fs T.funs sts=true)(hL:fs.map (λx=>K.lookup x.1)=lkR fs T.funs sts):Dyn T K mg sts:=by
 intro n d st h1 h2;obtain⟨x,q1,q2,q3,q4,q5⟩:=jjg hB hL h1 h2;have F:=jjd (st:=st) q2 q3 (jgo q2);obtain⟨st',e,hs,_⟩:=jb8 hst heq h1;cases h2.symm.trans e;exact⟨_,_,F,YcS X G q1,F.binds λ_ _ _ _ _ _ us hl=>jgG q5 (jlM hs) hl,λz hz=>q4 z (by lia)⟩
def bltB  (K:Yac):Bool:=jcI.all λx=>match Ya6 K Yax x with
 |some none=>true
 |_=>false
def jo2  (X:K.In h)(G:h.Ns Yax mg)(hb:bltB K=true):∀x∈jcI,mg x=none:=λx hx=>by
 have:=Yc1.mp hb x hx;refine PySem.W.mg_none_of X G ?_
 lia
noncomputable def gsB  (K:Yac):List Str->List U->Bool
 |[],[]=>true
 |x::xs,u::us=>(match u,Ya6 K Yax x with
  |.int i,some (some (.int j _))=>i==j
  |.str i,some (some (.str j _))=>i==j
  |_,_=>false)&&gsB K xs us
 |_,_=>false
theorem joH  (X:K.In h)(G:h.Ns Yax mg):∀{xs } {us },gsB K xs us=true->∀(n:Nat) x u ,xs[n]?=some x->us[n]?=some u->∃v w,mg x=some w/\RelV v w/\∀H,RU K H u v
 |[],_,_,_,_,_,e,_=>by simp at e
 |_::_,[],_,_,_,_,_,e=>by simp at e
 |x::xs,u::us,hb,n,x',u',e1,e2=>by
  unfold gsB at hb;rw[Yaf]at hb;cases n with
  |zero=>
   cases(Yas e1:x=x');cases(Yas e2:u=u');have h1:=hb.1;split at h1
   ·rename_i i j t q;cases eq_of_beq h1;exact⟨.int i,_,YcS X G q,⟨_,rfl⟩,λ_=>rfl⟩
   ·rename_i i j t q;cases eq_of_beq h1;exact⟨.str i,_,YcS X G q,⟨_,rfl⟩,λ_=>rfl⟩
   lia
  |succ n=>exact joH X G hb.2 n x' u' e1 e2
def CsA  (K:Yac):List Nat->Prop
 |[]=>True
 |n::r=>(∃C,XCls K (gK K) (clsN n) (clsF n) C)/\CsA K r
theorem joX  : ∀{l },CsA K l->∀n∈l,1<=n->∃C,XCls K (gK K) (clsN n) (clsF n) C
 |[],_,_,hn,_=>absurd hn YaE
 |m::r,hc,n,hn,h1=>by
  unfold CsA at hc;rcases YaW.mp hn with rfl|hn
  ·exact hc.1
  ·exact joX hc.2 n hn h1
def all2  {l:YdN}{sts:List Stmt}{d:Fun}(X:K.In h)(G:h.Ns Yax mg)(hfa:mg "law" = some (.ref fa))(hst:jeV T 0 T.funs sts=true)(heq:jfj T sts 0 T.funs sts)
  (hU:∀t∈tabs,∀t'∈tabs,t.1=t'.1->t=t') (hB:dynB T K 0 fs T.funs sts=true) (hL:fs.map (λx=>K.lookup x.1)=lkR fs T.funs sts) (hb:bltB K=true) (hg:gsB K T.gn T.gs=true) (hc:CsA K T.cs)
  (hd:T.funs[n]?=some d) (hs:sts[n]?=some st) (hn:T.ns.lookup n=none) (hdn:d.name = "law") (hps:d.ps=[("_law_script" : Str)]) :
  ∃fd ,(∀(s:Shared) v ,BindsTo s fd ⟨[v],[]⟩ [("_law_script",v)])/\∀base ,K.In base->base.Ns Yax mg->BmAt mg base->FnOk l.prog w K mg base (CX1 l.prog w) (k+2) fa fd ["_law_script"] (lSp K (jab T k n)):=by
 have dyn:=joS X G hst heq hB hL;obtain⟨x,q1,q2,q3,q4,q5⟩:=jjg hB hL hd hs;obtain⟨st',e,hsc,_⟩:=jb8 hst heq hd;cases hs.symm.trans e;have F:=jjd (st:=st) q2 q3 (jgo q2);rw[hdn]at q1;cases hfa.symm.trans (YcS X G q1);refine⟨Ya2 d.name d.name (jax st) (jaf st) (jaa st) .none .none .none x.2.2 none (.ref x.2.1) .none,λs v=>.of_eq ((jgG (us:=[v]) q5 (jlM hsc) (by rw[hps];rfl)).trans (by rw[hps];rfl)),λbase hKb _ hBm=>?_⟩
 rw[<- hps];exact jhz F hst heq dyn hU hKb hBm (jo2 X G hb) (joH X G hg) (joX hc) (jok X G) hd hs hn
end

def jqk  (x:Str)(D N b t t':Nat)(u:List Value):Obj:=Y.cO x [.type "ValueError"] (.ref D::bmV) N u [some (.ref b),none,some (.str x t),some (.str x t'),some (.builtin "ValueError.__new__"),some (.bool true)]
def clsO  (x:Str)(C D N b t t':Nat):Obj:=Y.cO x [.ref D] (.ref C::.ref D::bmV) N [] [some (.ref b),none,some (.str x t),some (.str x t'),some (.builtin "ValueError.__new__"),some (.bool true)]
def xb_mk   D N b t t' u (l:K.lookup D=some (jqk "PlanError" D N b t t' u))(h:(refB (Ya6 K Yax "PlanError") D&&Ybk K (.ref D)&&(jey K N==some ksB)&&offB ksB && !ksB.contains ("__init__" : Str))=true):∃mD,XBase K (gK K) D mD:=by
 simp only[Yaf,Ycq]at h;obtain⟨⟨⟨⟨h1,h2⟩,h3⟩,h4⟩,h5⟩:=h;exact jjE (jgX h1) h2 l (eq_of_beq h3) h4 h5
def xc_mk   (B:∃mD,XBase K (gK K) D mD) x qual fs st (C N b t t' fI c:Nat)(m:Value)(l1:K.lookup C=some (clsO x C D N b t t'))(l2:K.lookup fI=some (Y.fO "__init__" qual st m c))
  (h:(refB (Ya6 K Yax x) C&&Ybk K (.ref C)&&(jey K N==some ksC)&&offB ksC&&refB (Ya6 K N "__init__") fI&&Ybu K (.ref c) qual&&scB (("self" : Str)::fs) ("self" :: fs) (jaa st)&&((("self" : Str)::fs).all λy=>(jaa st).names.lookup y==some .local)&&argB (("self" : Str)::fs) (jax st))=true)
  (bd:(∃f p1 p2 p3 pos,fs=[f]/\jaf st=[.Assign [.Attribute (.Name "self" p1) f p2] (.Name f p3) pos])\/∃f f2 p1 p2 p3 pos q1 q2 q3 qos,fs=[f,f2]/\f≠f2/\jaf st=[.Assign [.Attribute (.Name "self" p1) f p2] (.Name f p3) pos,.Assign [.Attribute (.Name "self" q1) f2 q2] (.Name f2 q3) qos]):∃C,XCls K (gK K) x fs C:=by
 obtain⟨mD,B⟩:=B;simp only[Yaf]at h;obtain⟨⟨⟨⟨⟨⟨⟨⟨h1,h2⟩,h3⟩,h4⟩,h5⟩,h6⟩,h7⟩,h8⟩,h9⟩:=h;have F:=jjd (st:=st) l2 h6 (jgo l2);exact⟨C,jlh B (jgX h1) h2 l1 (eq_of_beq h3) h4 (jgX h5) F l2 h7 (F.binds λ_ _ _ _ _ _ us hl=>jgG h9 (jlM h7) hl) h8 bd⟩
section
local macro_rules
 |`(#[])=>`(.nil)
 |`(#[$x])=>`(.cons $x .nil)
 |`(#[$x,$xs,*])=>`(.cons $x #[$xs,*])
noncomputable abbrev jbR  : Nat:=0
noncomputable abbrev jbi  : Nat:=1
noncomputable abbrev jg7  : Nat:=2
noncomputable abbrev jgi  : Nat:=3
noncomputable abbrev jbE  : Nat:=4
noncomputable abbrev jbg  : Nat:=5
noncomputable abbrev jbG  : Nat:=6
noncomputable abbrev jew  : Nat:=7
noncomputable abbrev jft  : Nat:=8
noncomputable abbrev jfs  : Nat:=9
noncomputable abbrev jdd  : Nat:=10
noncomputable abbrev jfq  : Nat:=11
noncomputable abbrev jdJ  : Nat:=12
noncomputable abbrev jcb  : Nat:=13
noncomputable abbrev jcq  : Nat:=14
noncomputable abbrev jdb  : Nat:=15
noncomputable abbrev jdc  : Nat:=16
noncomputable abbrev jcp  : Nat:=17
noncomputable abbrev jaQ  : Nat:=19
noncomputable abbrev jdK  : Nat:=20
noncomputable abbrev jes  : Nat:=21
noncomputable abbrev jac  : Nat:=22
noncomputable abbrev jca  : Nat:=23
noncomputable abbrev jbF  : Nat:=24
noncomputable abbrev jba  : Nat:=25
noncomputable abbrev jeq  : Nat:=26
noncomputable abbrev jcu  : Nat:=27
noncomputable abbrev jer  : Nat:=28
noncomputable abbrev jdM  : Nat:=29
noncomputable abbrev jcs  : Nat:=30
noncomputable abbrev jbQ  : Nat:=31
noncomputable abbrev jfr  : Nat:=32
noncomputable abbrev jbh  : Nat:=33
noncomputable abbrev jaE  : Nat:=34
noncomputable abbrev jet  : Nat:=35
noncomputable abbrev jct  : Nat:=36
noncomputable abbrev jep  : Nat:=37
noncomputable abbrev jev  : Nat:=38
noncomputable abbrev jb9  : Nat:=39
noncomputable abbrev jdL  : Nat:=40
noncomputable abbrev jcr  : Nat:=41
noncomputable abbrev ja9  : Nat:=42
noncomputable abbrev jeu  : Nat:=43
noncomputable abbrev jmm  : Nat:=44
noncomputable def jeJ  : Fun:=⟨"is_whole",["thing"],["thing"],#[.ret (.bop true (.blt .isi #[.v 0,.ty "int"]) #[.not (.blt .isi #[.v 0,.ty "bool"])])]⟩
def jd6  : Fun:=⟨"is_within",["thing", "least", "most"],["thing", "least", "most"],#[.ret (.bop true (.call jbR #[.v 0]) #[.cmp2 .LtE .LtE (.v 1) (.v 0) (.v 2)])]⟩
noncomputable def jhl  : Fun:=⟨"top_of",["plan", "period", "s"],["plan", "period", "s", "word", "one", "other", "low", "high"],#[.asg (.t #[.n 3,.n 4,.n 5,.n 6,.n 7]) (.ix (.ix (.v 0) (.int 1)) (.v 2)),.ret (.ife (.cmp .Eq (.v 3) (.str "span")) (.v 7) (.bin .Sub (.v 1) (.v 7)))]⟩
def jdY  : Fun:=⟨"window_of",["plan", "period", "s"],["plan", "period", "s", "low"],#[.asg (.n 3) (.ix (.ix (.ix (.v 0) (.int 1)) (.v 2)) (.int 3)),(.ret (.tup #[.v 3,(.blt .min #[.call jg7 #[.v 0,.v 1,.v 2],.bin .Sub (.bin .Add (.v 3) (.v 1)) (.int 1)])]))]⟩
def jdf  : Fun:=⟨"windows_of",["plan", "period"],["plan", "period"],#[.ret (.mkT (.lc [none,some 0,some 1] (.n 0) (.r1 (.blt .len #[.ix (.v 0) (.int 1)])) .nil (.call jgi #[.v 1,.v 2,.v 0])))]⟩
noncomputable def jcA  : Fun:=⟨"with_window",["windows", "s", "window"],["windows", "s", "window"],#[.ret (.bin .Add (.bin .Add (.sl (.v 0) .no (.so (.v 1))) (.tup #[.v 2])) (.sl (.v 0) (.so (.bin .Add (.v 1) (.int 1))) .no))]⟩
def jdj  : Fun:=⟨"is_work_of",["stays", "thing"],["stays", "thing"],#[.ret (.bop true (.call jbR #[.v 1]) #[.cmp .In (.v 1) (.v 0)])]⟩
def jc8  : Ss:=#[.asg (.t #[.n 6,.n 7]) (.v 2),(.ret (.bop true (.call jbi #[.v 6,.int 0,.bin .Sub (.blt .len #[.ix (.v 0) (.int 1)]) (.int 1)]) #[.call jbR #[.v 7],.cmp .In (.v 7) (.tup #[.int 1,.neg (.int 1)])]))]
def jaM  : Ss:=(.cons (.ite (.cmp .NotEq (.blt .len #[.v 2]) (.int 2)) #[.ret (.bl false)] .nil) jc8)
def jc9  : Ss:=(.cons (.ite (.cmp .Eq (.blt .len #[.v 2]) (.int 3)) #[.asg (.t #[.n 3,.n 4,.n 5]) (.v 2),(.ret (.bop true (.cmp .Eq (.v 3) (.str "home")) #[.call jbG #[.v 1,.v 4],.call jbG #[.v 1,.v 5]]))] .nil) jaM)
def jeK  : Fun:=⟨"is_entry",["plan", "stays", "thing"],["plan", "stays", "thing", "word", "start", "end", "s", "way"],(.cons (.ite (.not (.blt .isi #[.v 2,.ty "tuple"])) #[.ret (.bl false)] .nil) jc9)⟩
noncomputable def jd8  : Fun:=⟨"ends_of",["plan", "entry"],["plan", "entry", "s", "way", "word", "one", "other", "low", "high"],#[.ite (.cmp .Eq (.blt .len #[.v 1]) (.int 3)) #[.ret (.tup #[.ix (.v 1) (.int 1),.ix (.v 1) (.int 2)])] .nil,.asg (.t #[.n 2,.n 3]) (.v 1),.asg (.t #[.n 4,.n 5,.n 6,.n 7,.n 8]) (.ix (.ix (.v 0) (.int 1)) (.v 2)),.ret (.ife (.cmp .Eq (.v 3) (.int 1)) (.tup #[.v 5,.v 6]) (.tup #[.v 6,.v 5]))]⟩
noncomputable def jdx  : Ss:=#[.ret (.blt .all #[.lc [none,some 3] (.n 0) (.r1 (.blt .len #[.v 3])) .nil (.cmp .Eq (.ix (.ix (.v 1) (.bin .Sub (.v 0) (.int 1))) (.int 1)) (.ix (.ix (.v 1) (.v 0)) (.int 0)))])]
def jdy  : Ss:=(.cons (.asg (.n 3) (.lc [none,some 0] (.n 0) (.e (.v 2)) .nil (.call jft #[.v 1,.v 0]))) jdx)
def jdz  : Ss:=(.cons (.ite (.not (.blt .all #[.lc [none,some 0,some 1] (.n 0) (.e (.v 2)) .nil (.call jew #[.v 1,.v 2,.v 0])])) #[.ret (.bl false)] .nil) jdy)
def jfI  : Fun:=⟨"is_ring",["plan", "stays", "thing"],["plan", "stays", "thing", "ends"],(.cons (.ite (.not (.bop true (.blt .isi #[.v 2,.ty "tuple"]) #[.cmp2 .LtE .LtE (.int 1) (.blt .len #[.v 2]) (.g 0)])) #[.ret (.bl false)] .nil) jdz)⟩
noncomputable def jbJ  : Fun:=⟨"entry_sums",["beats", "windows", "entry"],["beats", "windows", "entry", "apart", "s", "way", "least", "most"],#[.ite (.cmp .Eq (.blt .len #[.v 2]) (.int 3)) #[.asg (.n 3) (.bin .Sub (.ix (.v 0) (.ix (.v 2) (.int 2))) (.ix (.v 0) (.ix (.v 2) (.int 1)))),.ret (.tup #[.v 3,.v 3])] .nil,.asg (.t #[.n 4,.n 5]) (.v 2),.asg (.t #[.n 6,.n 7]) (.ix (.v 1) (.v 4)),.ret (.ife (.cmp .Eq (.v 5) (.int 1)) (.tup #[.v 6,.v 7]) (.tup #[.neg (.v 7),.neg (.v 6)]))]⟩
def jfF  : Fun:=⟨"sums_of",["plan", "period", "beats", "windows", "ring"],["plan", "period", "beats", "windows", "ring", "sums"],#[.asgC 5 (.lc [none,some 2,some 3] (.n 0) (.e (.v 4)) .nil (.call jdd #[.v 1,.v 2,.v 0])),(.ret (.tup #[.blt .sum #[.lc [none,none] (.t #[.n 0,.n 1]) (.e (.v 5)) .nil (.v 0)],.blt .sum #[.lc [none,none] (.t #[.n 0,.n 1]) (.e (.v 5)) .nil (.v 1)]]))]⟩
def jdZ  : Fun:=⟨"ring_bars",["plan", "period", "beats", "windows", "ring"],["plan", "period", "beats", "windows", "ring", "least", "most"],#[.asg (.t #[.n 5,.n 6]) (.call jfq #[.v 0,.v 1,.v 2,.v 3,.v 4]),.ret (.cmp .Lt (.bin .Mult (.bin .FloorDiv (.v 6) (.v 1)) (.v 1)) (.v 5))]⟩
noncomputable def jd7  : Fun:=⟨"has_shape",["node", "word", "many"],["node", "word", "many"],#[(.ret (.bop true (.blt .isi #[.v 0,.ty "tuple"]) #[.cmp .Eq (.blt .len #[.v 0]) (.v 2),.cmp .Eq (.ix (.v 0) (.int 0)) (.v 1)]))]⟩
def jbs  : Ss:=#[.asg (.t #[.n 8,.n 9]) (.ix (.v 1) (.v 4)),.ret (.ife (.call jbi #[.v 5,.v 8,.bin .Sub (.v 9) (.int 1)]) .non (.str "cut"))]
def jbt  : Ss:=(.cons (.ite (.not (.call jbi #[.v 4,.int 0,.bin .Sub (.blt .len #[.ix (.v 0) (.int 1)]) (.int 1)])) #[.ret (.str "span")] .nil) jbs)
def jcB  : Fun:=⟨"split_fault",["plan", "windows", "node"],["plan", "windows", "node", "word", "s", "cut", "lower", "upper", "least", "most"],(.cons (.asg (.t #[.n 3,.n 4,.n 5,.n 6,.n 7]) (.v 2)) jbt)⟩
def jdg  : Fun:=⟨"ring_fault",["plan", "period", "beats", "stays", "windows", "ring"],["plan", "period", "beats", "stays", "windows", "ring"],#[.ite (.not (.call jfs #[.v 0,.v 3,.v 5])) #[.ret (.str "ring")] .nil,.ret (.ife (.call jdJ #[.v 0,.v 1,.v 2,.v 4,.v 5]) .non (.str "bar"))]⟩
noncomputable def jbV  : Ss:=#[.ret (.str "shape")]
def jbW  : Ss:=(.cons (.ite (.call jcb #[.v 5,.str "split",.int 5]) #[.ret (.call jcq #[.v 0,.v 4,.v 5])] .nil) jbV)
def jdh  : Fun:=⟨"node_fault",["plan", "period", "beats", "stays", "windows", "node"],["plan", "period", "beats", "stays", "windows", "node"],(.cons (.ite (.call jcb #[.v 5,.str "ring",.int 2]) #[.ret (.call jdb #[.v 0,.v 1,.v 2,.v 3,.v 4,.ix (.v 5) (.int 1)])] .nil) jbW)⟩
def jbr  : Ss:=#[.asg (.t #[.n 2,.n 3,.n 4,.n 5,.n 6]) (.v 1),.asg (.t #[.n 7,.n 8]) (.ix (.v 0) (.v 3)),(.ret (.lst #[.tup #[.v 5,.call jbg #[.v 0,.v 3,.tup #[.v 7,.v 4]]],.tup #[.v 6,.call jbg #[.v 0,.v 3,.tup #[.bin .Add (.v 4) (.int 1),.v 8]]]]))]
def jaX  : Fun:=⟨"split_sides",["windows", "node"],["windows", "node", "word", "s", "cut", "lower", "upper", "least", "most"],(.cons (.ite (.cmp .NotEq (.ix (.v 1) (.int 0)) (.str "split")) #[.ret (.lst .nil)] .nil) jbr)⟩
noncomputable def jb3  : Fun:=⟨"look_through",["thing", "start", "fault_of", "sides_of"],["thing", "start", "fault_of", "sides_of", "waiting", "at", "node", "held", "word"],#[.asg (.n 4) (.lst #[.tup #[.v 0,.v 1]]),.asg (.n 5) (.int 0),(.wh (.v 4) #[.asg (.t #[.n 6,.n 7]) (.meth .pop (.v 4) .nil),.asg (.n 8) (.app 2 #[.v 7,.v 6]),.ite (.cmp .IsNot (.v 8) .non) #[.raise 1 #[.v 8,.v 5]] .nil,.expr (.meth .extend (.v 4) #[.rev (.app 3 #[.v 7,.v 6]) (.neg (.int 1))]),.aug 5 .Add (.int 1)]),.ret (.bl true)]⟩
noncomputable abbrev jcT  : Nat:=45
noncomputable abbrev jcW  : Nat:=46
noncomputable def ja7  : Ss:=#[.asg (.t #[.n 4,.n 5]) (.meth .pop (.v 2) .nil),.asg (.n 6) (.call 46 #[.v 5,.v 4,.v 7,.v 8,.v 9,.v 10]),.ite (.cmp .IsNot (.v 6) .non) #[.raise 1 #[.v 6,.v 3]] .nil,.expr (.meth .extend (.v 2) #[.rev (.call 17 #[.v 5,.v 4]) (.neg (.int 1))]),.aug 3 .Add (.int 1)]
def jaR  : Fun:=⟨"lets_none_with",["plan", "period", "beats", "stays", "thing"],["plan", "period", "beats", "stays", "thing", "fault_of"],#[(.ret (.call 45 #[.v 4,.call jbE #[.v 0,.v 1],.non,.non,.non,.non,.non,.v 0,.v 1,.v 2,.v 3]))]⟩
def jaJ  : Fun:=⟨"lt@lets_none_with",["thing@", "start@", "waiting@", "at@", "node@", "held@", "word@", "plan", "period", "beats", "stays"],["thing@", "start@", "waiting@", "at@", "node@", "held@", "word@", "plan", "period", "beats", "stays"],#[.asg (.n 2) (.lst #[.tup #[.v 0,.v 1]]),.asg (.n 3) (.int 0),.wh (.v 2) ja7,.ret (.bl true)]⟩
def jaK  : Fun:=⟨"fault_of@lets_none_with",["windows", "node", "plan", "period", "beats", "stays"],["windows", "node", "plan", "period", "beats", "stays"],#[.ret (.call jdc #[.v 2,.v 3,.v 4,.v 5,.v 0,.v 1])]⟩
def jbk  : Nst:=⟨251,18,45,46,17,[0,1,2,3],5, "fault_of",["windows", "node"], "split_sides",(.v 4),(.call jbE (.cons (.v 0) (.cons (.v 1) .nil)))⟩
def jd0  : Fun:=⟨"lets_none",["plan", "period", "thing"],["plan", "period", "thing"],#[.ret (.call jaQ #[.v 0,.v 1,.tup .nil,.tup .nil,.v 2])]⟩
noncomputable def jeE  : Fun:=⟨"_law_feed",["_law_script"],["_law_script"],#[(.ret (.dic #[.str "cells",.bin .Add (.mkL (.sl (.v 0) .no (.so (.int 63)))) (.bin .Mult (.lst #[.int 0]) (.blt .int #[.cmp .Eq (.blt .len #[.v 0]) (.int 0)])),.str "at",.int 0,.str "left",.int 0,.str "turn",.int 0]))]⟩
noncomputable def jeG  : Fun:=⟨"_law_draw",["_law_feed_here", "_law_many"],["_law_feed_here", "_law_many", "_law_cell", "_law_mixed", "_law_found"],#[.setS (.v 0) (.str "turn") (.bin .Add (.ix (.v 0) (.str "turn")) (.int 1)),(.ite (.cmp .Eq (.ix (.v 0) (.str "left")) (.int 0)) #[.asg (.n 2) (.ix (.ix (.v 0) (.str "cells")) (.bin .Mod (.ix (.v 0) (.str "at")) (.blt .len #[.ix (.v 0) (.str "cells")]))),.setS (.v 0) (.str "at") (.bin .Add (.ix (.v 0) (.str "at")) (.int 1)),.ite (.cmp .Lt (.v 2) (.bin .Pow (.int 10) (.int 18))) #[.asg (.n 3) (.bin .Mod (.bin .Mult (.bin .Add (.bin .Mod (.v 2) (.int 2147483629)) (.bin .Mult (.int 1019) (.ix (.v 0) (.str "turn")))) (.int 48271)) (.int 2147483647)),.asg (.n 3) (.bin .Mod (.bin .Mult (.bin .Add (.bin .FloorDiv (.v 3) (.int 13)) (.bin .Mult (.int 43) (.ix (.v 0) (.str "turn")))) (.int 69621)) (.int 2147483587)),.ret (.bin .Mod (.bin .FloorDiv (.v 3) (.int 11)) (.v 1))] .nil,.setS (.v 0) (.str "left") (.v 2)] .nil),.asg (.n 4) (.bin .Mod (.ix (.v 0) (.str "left")) (.v 1)),.setS (.v 0) (.str "left") (.bin .FloorDiv (.ix (.v 0) (.str "left")) (.v 1)),.ret (.v 4)]⟩
def jd4  : Fun:=⟨"_law_names",["_law_feed_here", "_law_many"],["_law_feed_here", "_law_many", "_law_some", "_law_first", "_law_step"],#[.asg (.n 2) (.lst #[.str "a",.str "ab",.str "abc",.str "b",.str "ba",.str "works",.str "span",.str "apart",.str "at",.str "none",.str "hold",.str "zzzzzzzz",.str "z",.str "o",.str "find"]),.asg (.n 2) (.bin .Add (.v 2) (.lst #[.str "late",.str "n"])),.asg (.n 3) (.call jac #[.v 0,.int 17]),.asg (.n 4) (.bin .Add (.int 1) (.call jac #[.v 0,.int 16])),.ret (.mkT (.lc [none,some 2,some 3,some 4] (.n 0) (.r1 (.v 1)) .nil (.ix (.v 1) (.bin .Mod (.bin .Add (.v 2) (.bin .Mult (.v 3) (.v 0))) (.int 17)))))]⟩
def jbI  : Fun:=⟨"_law_any_cycle",["_law_feed_here"],["_law_feed_here"],#[(.ret (.ix (.lst #[.int 1,.int 2,.int 3,.int 5,.int 7,.int 12,.int 60,.int 600,.bin .Add (.int 1) (.call jac #[.v 0,.int 600]),.bin .Add (.int 1) (.call jac #[.v 0,.int 12])]) (.call jac #[.v 0,.int 10])))]⟩
def jdi  : Fun:=⟨"_law_number",["_law_feed_here", "_law_cycle"],["_law_feed_here", "_law_cycle"],#[(.ret (.ix (.lst #[.int 0,.call jac #[.v 0,.v 1],.call jac #[.v 0,.v 1],.call jac #[.v 0,.bin .Add (.bin .Mult (.int 3) (.v 1)) (.int 1)]]) (.call jac #[.v 0,.int 4])))]⟩
def jeC  : Fun:=⟨"_law_span",["_law_feed_here", "_law_works", "_law_cycle"],["_law_feed_here", "_law_works", "_law_cycle", "_law_one", "_law_other", "_law_low", "_law_wide"],#[(.par [3,4] #[.call jac #[.v 0,.v 1],.call jac #[.v 0,.v 1]]),.asg (.n 5) (.call jba #[.v 0,.v 2]),.ite (.cmp .Eq (.call jac #[.v 0,.int 3]) (.int 0)) #[.ret (.tup #[.str "apart",.v 3,.v 4,.v 5,.call jba #[.v 0,.v 2]])] .nil,(.asg (.n 6) (.ix (.lst #[.int 0,.int 0,.int 1,.call jac #[.v 0,.v 2],.bin .Sub (.v 2) (.int 1),.bin .Add (.v 2) (.call jac #[.v 0,.int 5])]) (.call jac #[.v 0,.int 6]))),.ret (.tup #[.str "span",.v 3,.v 4,.v 5,.bin .Add (.v 5) (.v 6)])]⟩
def jcF  : Fun:=⟨"_law_fitting",["_law_feed_here", "_law_beats_here", "_law_cycle"],["_law_feed_here", "_law_beats_here", "_law_cycle", "_law_one", "_law_other", "_law_gap", "_law_low", "_law_length"],#[(.par [3,4] #[.call jac #[.v 0,.blt .len #[.v 1]],.call jac #[.v 0,.blt .len #[.v 1]]]),.asg (.n 5) (.bin .Mod (.bin .Sub (.ix (.v 1) (.v 4)) (.ix (.v 1) (.v 3))) (.v 2)),(.ite (.cmp .Eq (.call jac #[.v 0,.int 3]) (.int 0)) #[(.ret (.tup #[.str "apart",.v 3,.v 4,.call jac #[.v 0,.bin .Add (.v 5) (.int 1)],.call jac #[.v 0,.bin .Add (.bin .Sub (.v 2) (.v 5)) (.int 1)]]))] .nil),.asg (.n 6) (.call jba #[.v 0,.v 2]),.asg (.n 7) (.bin .Add (.v 6) (.bin .Mod (.bin .Sub (.v 5) (.v 6)) (.v 2))),.ret (.tup #[.str "span",.v 3,.v 4,.v 6,.bin .Add (.v 7) (.ix (.lst #[.int 0,.int 0,.int 1,.call jac #[.v 0,.v 2]]) (.call jac #[.v 0,.int 4]))])]⟩
def jbv  : Ss:=#[(.ite (.bop true (.cmp2 .Lt .Lt (.int 0) (.blt .len #[.v 5]) (.int 24)) #[.cmp .Eq (.call jac #[.v 0,.int 6]) (.int 0)]) #[(.expr (.meth .insert (.v 5) #[.call jac #[.v 0,.bin .Add (.blt .len #[.v 5]) (.int 1)],.ix (.v 5) (.int 0)]))] .nil),(.ret (.tup #[.call jca #[.v 0,.v 1],.mkT (.v 5)]))]
def jeD  : Fun:=⟨"_law_plan",["_law_feed_here", "_law_works", "_law_most", "_law_cycle"],["_law_feed_here", "_law_works", "_law_most", "_law_cycle", "_law_beats_here", "_law_spans", "_law_k"],(.cons (.asgC 4 (.lc [none,some 0,some 3] (.n 0) (.r1 (.v 1)) .nil (.call jac #[.v 1,.v 2]))) (.cons (.asg (.n 5) (.lst .nil)) (.cons (.fr (.n 6) (.r1 (.call jac #[.v 0,.bin .Add (.v 2) (.int 1)])) #[.ite (.cmp .Gt (.call jac #[.v 0,.int 5]) (.int 0)) #[.expr (.meth .append (.v 5) #[.call jcu #[.v 0,.v 4,.v 3]])] #[.expr (.meth .append (.v 5) #[.call jeq #[.v 0,.v 1,.v 3]])]]) jbv)))⟩
def jd5  : Fun:=⟨"_law_beats",["_law_feed_here", "_law_works", "_law_cycle"],["_law_feed_here", "_law_works", "_law_cycle"],#[.ret (.mkT (.lc [none,some 0,some 2] (.n 0) (.r1 (.v 1)) .nil (.call jac #[.v 1,.v 2])))]⟩
def jfG  : Fun:=⟨"_law_odd",["_law_feed_here"],["_law_feed_here", "_law_some"],#[.asg (.n 1) (.lst #[.non,.bl true,.bl false,.int 0,.int 1,.neg (.int 1),.int 2,.int 100,.int 600,.int 601,.int 9999,.int 10000,.bin .Pow (.int 10) (.int 30),.str "",.str "a",.str "abcdefgh",.str "abcdefghi",.str "A"]),(.asg (.n 1) (.bin .Add (.v 1) (.lst #[.str "a1",.str "span",.str "apart",.str "Span",.tup .nil,.lst .nil,.tup #[.str "a"],.lst #[.str "a"],.dic .nil,.tup #[.int 0],(.tup #[.tup #[.str "a"],.tup .nil])]))),.ret (.ix (.v 1) (.call jac #[.v 0,.int 29]))]⟩
def jff  : Ss:=#[.ret (.call jcs #[.v 0])]
def jaL  : Ss:=(.cons (.ite (.bop true (.blt .isi #[.v 1,.ty "int"]) #[.not (.blt .isi #[.v 1,.ty "bool"])]) #[(.asg (.n 4) (.lst #[.bin .Add (.v 1) (.int 1),.bin .Sub (.v 1) (.int 1),.cmp .Eq (.v 1) (.int 1),.blt .str #[.v 1],.bin .Sub (.int 0) (.v 1),.non,.bin .Add (.v 1) (.int 10000)])),.ret (.ix (.v 4) (.call jac #[.v 0,.int 7]))] .nil) jff)
def jap  : Ss:=(.cons (.ite (.blt .isi #[.v 1,.ty "tuple"]) #[(.asg (.n 4) (.lst #[.mkL (.v 1),.bin .Add (.v 1) (.sl (.v 1) .no (.so (.int 1))),.sl (.v 1) (.so (.int 1)) .no,.sl (.v 1) .no (.so (.neg (.int 1))),.rev (.v 1) (.neg (.int 1)),.bin .Add (.v 1) (.tup #[.int 0]),.tup .nil])),.ret (.ix (.v 4) (.call jac #[.v 0,.int 7]))] .nil) jaL)
def jcZ  : Fun:=⟨"_law_bent",["_law_feed_here", "_law_thing", "_law_deep_here"],["_law_feed_here", "_law_thing", "_law_deep_here", "_law_at", "_law_some"],(.cons (.ite (.bop true (.blt .isi #[.v 1,.ty "tuple"]) #[.cmp .NotEq (.v 1) (.tup .nil),.cmp .Gt (.v 2) (.int 0),.cmp .Gt (.call jac #[.v 0,.int 5]) (.int 0)]) #[.asg (.n 3) (.call jac #[.v 0,.blt .len #[.v 1]]),.ret (.bin .Add (.bin .Add (.sl (.v 1) .no (.so (.v 3))) (.tup #[.call jbQ #[.v 0,.ix (.v 1) (.v 3),.bin .Sub (.v 2) (.int 1)]])) (.sl (.v 1) (.so (.bin .Add (.v 3) (.int 1))) .no))] .nil) jap)⟩
noncomputable def jfH  : Fun:=⟨"_law_end",["_law_cycle", "_law_span_here"],["_law_cycle", "_law_span_here", "_law_top"],#[.asg (.n 2) (.ife (.cmp .Eq (.ix (.v 1) (.int 0)) (.str "span")) (.ix (.v 1) (.int 4)) (.bin .Sub (.v 0) (.ix (.v 1) (.int 4)))),.ret (.blt .min #[.v 2,.bin .Sub (.bin .Add (.ix (.v 1) (.int 3)) (.v 0)) (.int 1)])]⟩
def jcC  : Fun:=⟨"_law_windows",["_law_plan_here", "_law_cycle"],["_law_plan_here", "_law_cycle"],#[.ret (.mkT (.lc [none,some 1] (.n 0) (.e (.ix (.v 0) (.int 1))) .nil (.tup #[.ix (.v 0) (.int 3),.call jfr #[.v 1,.v 0]])))]⟩
noncomputable def jd2  : Fun:=⟨"_law_whole",["_law_thing", "_law_first", "_law_last"],["_law_thing", "_law_first", "_law_last"],#[(.ret (.bop true (.blt .isi #[.v 0,.ty "int"]) #[.not (.blt .isi #[.v 0,.ty "bool"]),.cmp2 .LtE .LtE (.v 1) (.v 0) (.v 2)]))]⟩
noncomputable def ja8  : Ss:=#[.asg (.n 3) (.ix (.ix (.v 0) (.int 1)) (.ix (.v 2) (.int 0))),.ret (.ife (.cmp .Eq (.ix (.v 2) (.int 1)) (.int 1)) (.tup #[.ix (.v 3) (.int 1),.ix (.v 3) (.int 2)]) (.tup #[.ix (.v 3) (.int 2),.ix (.v 3) (.int 1)]))]
def jc3  : Ss:=(.cons (.ite (.bop false (.not (.call jaE #[.ix (.v 2) (.int 0),.int 0,.bin .Sub (.blt .len #[.ix (.v 0) (.int 1)]) (.int 1)])) #[.not (.call jaE #[.ix (.v 2) (.int 1),.neg (.int 1),.int 1]),.cmp .Eq (.ix (.v 2) (.int 1)) (.int 0)]) #[.ret .non] .nil) ja8)
def jbz  : Ss:=(.cons (.ite (.cmp .Eq (.blt .len #[.v 2]) (.int 3)) #[.ite (.bop false (.not (.blt .isi #[.ix (.v 2) (.int 0),.ty "str"])) #[.cmp .NotEq (.ix (.v 2) (.int 0)) (.str "home")]) #[.ret .non] .nil,.ite (.cmp .In (.bl false) (.lc [none,some 1] (.n 0) (.e (.sl (.v 2) (.so (.int 1)) .no)) .nil (.bop true (.call jaE #[.v 0,.int 0,.int 7]) #[.cmp .In (.v 0) (.v 1)]))) #[.ret .non] .nil,.ret (.sl (.v 2) (.so (.int 1)) .no)] .nil) jc3)
def jeF  : Fun:=⟨"_law_ends",["_law_plan_here", "_law_stays_here", "_law_entry"],["_law_plan_here", "_law_stays_here", "_law_entry", "_law_span_here"],(.cons (.ite (.bop false (.not (.blt .isi #[.v 2,.ty "tuple"])) #[.cmp .NotIn (.blt .len #[.v 2]) (.tup #[.int 2,.int 3])]) #[.ret .non] .nil) jbz)⟩
noncomputable def jbw  : Ss:=#[.ret (.cmp .Eq (.lc [none,some 3] (.n 0) (.r1 (.blt .len #[.v 3])) #[.cmp .NotEq (.ix (.ix (.v 1) (.bin .Sub (.v 0) (.int 1))) (.int 1)) (.ix (.ix (.v 1) (.v 0)) (.int 0))] (.v 0)) (.lst .nil))]
def jbx  : Ss:=(.cons (.ite (.cmp .In .non (.v 3)) #[.ret (.bl false)] .nil) jbw)
def jby  : Ss:=(.cons (.asg (.n 3) (.lc [none,some 0,some 1] (.n 0) (.e (.v 2)) .nil (.call jet #[.v 1,.v 2,.v 0]))) jbx)
def jcE  : Fun:=⟨"_law_is_ring",["_law_plan_here", "_law_stays_here", "_law_thing"],["_law_plan_here", "_law_stays_here", "_law_thing", "_law_spots"],(.cons (.ite (.bop false (.not (.blt .isi #[.v 2,.ty "tuple"])) #[.not (.cmp2 .LtE .LtE (.int 1) (.blt .len #[.v 2]) (.int 60))]) #[.ret (.bl false)] .nil) jby)⟩
noncomputable def jc1  : Ss:=#[.ret (.tup #[.v 3,.v 4])]
def jc2  : Ss:=(.cons (.fr (.n 5) (.e (.v 2)) #[.ite (.cmp .Eq (.blt .len #[.v 5]) (.int 3)) #[.asg (.n 3) (.bin .Sub (.bin .Add (.v 3) (.ix (.v 0) (.ix (.v 5) (.int 2)))) (.ix (.v 0) (.ix (.v 5) (.int 1)))),.asg (.n 4) (.bin .Sub (.bin .Add (.v 4) (.ix (.v 0) (.ix (.v 5) (.int 2)))) (.ix (.v 0) (.ix (.v 5) (.int 1))))] #[.ite (.cmp .Eq (.ix (.v 5) (.int 1)) (.int 1)) #[.asg (.n 3) (.bin .Add (.v 3) (.ix (.ix (.v 1) (.ix (.v 5) (.int 0))) (.int 0))),.asg (.n 4) (.bin .Add (.v 4) (.ix (.ix (.v 1) (.ix (.v 5) (.int 0))) (.int 1)))] #[.asg (.n 3) (.bin .Sub (.v 3) (.ix (.ix (.v 1) (.ix (.v 5) (.int 0))) (.int 1))),.asg (.n 4) (.bin .Sub (.v 4) (.ix (.ix (.v 1) (.ix (.v 5) (.int 0))) (.int 0)))]]]) jc1)
def jeB  : Fun:=⟨"_law_sums",["_law_beats_here", "_law_windows_here", "_law_ring"],["_law_beats_here", "_law_windows_here", "_law_ring", "_law_least", "_law_most", "_law_entry"],(.cons (.asg (.n 3) (.int 0)) (.cons (.asg (.n 4) (.int 0)) jc2))⟩
noncomputable def jeI  : Fun:=⟨"_law_bars",["_law_cycle", "_law_sums_here"],["_law_cycle", "_law_sums_here", "_law_least", "_law_most"],#[.asg (.t #[.n 2,.n 3]) (.v 1),.ret (.cmp .Lt (.bin .Mult (.bin .FloorDiv (.v 3) (.v 0)) (.v 0)) (.v 2))]⟩
noncomputable def jci  : Ss:=#[.ret .non]
noncomputable def jaO  : Ss:=#[.asg (.n 6) (.bin .Add (.v 6) (.int 1))]
noncomputable def jaZ  : Ss:=#[.expr (.meth .append (.v 5) #[.tup #[.ix (.v 7) (.int 3),.bin .Add (.bin .Add (.sl (.v 8) .no (.so (.v 9))) (.tup #[.tup #[.v 11,.v 10]])) (.sl (.v 8) (.so (.bin .Add (.v 9) (.int 1))) .no)]])]
def ja0  : Ss:=(.cons (.expr (.meth .append (.v 5) #[.tup #[.ix (.v 7) (.int 4),.bin .Add (.bin .Add (.sl (.v 8) .no (.so (.v 9))) (.tup #[.tup #[.bin .Add (.v 10) (.int 1),.v 12]])) (.sl (.v 8) (.so (.bin .Add (.v 9) (.int 1))) .no)]])) jaZ)
def ja1  : Ss:=(.cons (.ite (.not (.call jaE #[.v 10,.v 11,.bin .Sub (.v 12) (.int 1)])) #[.ret (.tup #[.str "cut",.v 6])] .nil) ja0)
def ja2  : Ss:=(.cons (.asg (.t #[.n 11,.n 12]) (.ix (.v 8) (.v 9))) ja1)
def ja3  : Ss:=(.cons (.ite (.not (.call jaE #[.v 9,.int 0,.bin .Sub (.blt .len #[.ix (.v 0) (.int 1)]) (.int 1)])) #[.ret (.tup #[.str "span",.v 6])] .nil) ja2)
def ja4  : Ss:=(.cons (.par [9,10] #[.ix (.v 7) (.int 1),.ix (.v 7) (.int 2)]) ja3)
def jaP  : Ss:=(.cons (.ite (.cmp .Eq (.ix (.v 7) (.int 0)) (.str "ring")) #[.ite (.not (.call jct #[.v 0,.v 3,.ix (.v 7) (.int 1)])) #[.ret (.tup #[.str "ring",.v 6])] .nil,.ite (.not (.call jev #[.v 1,.call jep #[.v 2,.v 8,.ix (.v 7) (.int 1)]])) #[.ret (.tup #[.str "bar",.v 6])] .nil] ja4) jaO)
def jbm  : Ss:=(.cons (.ite (.cmp .NotIn (.tup #[.ix (.v 7) (.int 0),.blt .len #[.v 7]]) (.tup #[.tup #[.str "ring",.int 2],.tup #[.str "split",.int 5]])) #[.ret (.tup #[.str "shape",.v 6])] .nil) jaP)
def jbn  : Ss:=(.cons (.ite (.bop false (.not (.blt .isi #[.v 7,.ty "tuple"])) #[.cmp .Eq (.blt .len #[.v 7]) (.int 0),.not (.blt .isi #[.ix (.v 7) (.int 0),.ty "str"])]) #[.ret (.tup #[.str "shape",.v 6])] .nil) jbm)
def jbo  : Ss:=(.cons (.asg (.t #[.n 7,.n 8]) (.meth .pop (.v 5) .nil)) jbn)
def jcj  : Ss:=(.cons (.wh (.cmp .NotEq (.v 5) (.lst .nil)) jbo) jci)
def jd1  : Fun:=⟨"_law_wrong",["_law_plan_here", "_law_cycle", "_law_beats_here", "_law_stays_here", "_law_thing"],["_law_plan_here", "_law_cycle", "_law_beats_here", "_law_stays_here", "_law_thing", "_law_line", "_law_at", "_law_node", "_law_windows_here", "_law_s", "_law_cut", "_law_least", "_law_most"],(.cons (.asg (.n 5) (.lst #[.tup #[.v 4,.call jbh #[.v 0,.v 1]]])) (.cons (.asg (.n 6) (.int 0)) jcj))⟩
def jd3  : Fun:=⟨"_law_stays",["_law_feed_here", "_law_works"],["_law_feed_here", "_law_works", "_law_some"],#[.asgC 2 (.lc [none,some 0] (.n 0) (.r1 (.v 1)) #[.cmp .Eq (.call jac #[.v 1,.int 3]) (.int 0)] (.v 0)),.ret (.mkT (.ix (.lst #[.tup .nil,.v 2,.v 2,.rngL (.v 1)]) (.call jac #[.v 0,.int 4])))]⟩
noncomputable def ja5  : Ss:=#[.ret (.v 3)]
def jbu  : Ss:=(.cons (.tr #[.ite (.cmp .Is (.call jdK #[.v 0,.v 1,.v 2]) (.bl true)) #[.asg (.n 3) .non] .nil] 0 4 [.asg 5 (.cond false (false,.isi [3,5,4,2]) [(true,.isiV)]),.ifa true (false,.is1 1) [(true,.v 5)] 3 (.tup [(.att "word"),(.att "at")])]) ja5)
def jcD  : Fun:=⟨"_law_refused",["_law_plan_here", "_law_cycle", "_law_thing"],["_law_plan_here", "_law_cycle", "_law_thing", "_law_found", "e", "_law_strange"],(.cons (.asg (.n 3) (.tup #[.str "other",.non])) jbu)⟩
noncomputable def jay  : Ss:=#[.ret (.v 5)]
def jaS  : Ss:=(.cons (.tr #[.ite (.cmp .Is (.call jaQ #[.v 0,.v 1,.v 2,.v 3,.v 4]) (.bl true)) #[.asg (.n 5) .non] .nil] 0 6 [.asg 7 (.cond false (false,.isi [3,5,4,2]) [(true,.isiV)]),.ifa true (false,.is1 1) [(true,.v 7)] 5 (.tup [(.att "word"),(.att "at")])]) jay)
def jbb  : Fun:=⟨"_law_refused_with",["_law_plan_here", "_law_cycle", "_law_beats_here", "_law_stays_here", "_law_thing"],["_law_plan_here", "_law_cycle", "_law_beats_here", "_law_stays_here", "_law_thing", "_law_found", "e", "_law_strange"],(.cons (.asg (.n 5) (.tup #[.str "other",.non])) jaS)⟩
noncomputable def jc4  : Ss:=#[.ret (.v 4)]
def jc5  : Ss:=(.cons (.fr (.n 5) (.r2 (.blt .max #[.v 2,.bin .Sub (.v 3) (.int 10)]) (.v 3)) #[.asg (.n 4) (.tup #[.str "split",.int 0,.v 5,.v 1,.v 4])]) jc4)
def jc6  : Ss:=(.cons (.asg (.n 4) (.v 1)) jc5)
def jc7  : Ss:=(.cons (.asg (.t #[.n 2,.n 3]) (.ix (.v 0) (.int 0))) jc6)
def jeH  : Fun:=⟨"_law_deep",["_law_windows_here", "_law_node"],["_law_windows_here", "_law_node", "_law_least", "_law_most", "_law_found", "_law_cut"],(.cons (.ite (.bop false (.cmp .Eq (.v 0) (.tup .nil)) #[.cmp .GtE (.ix (.ix (.v 0) (.int 0)) (.int 0)) (.ix (.ix (.v 0) (.int 0)) (.int 1))]) #[.ret (.v 1)] .nil) jc7)⟩
noncomputable def jbX  : Ss:=#[.ite (.bop false (.cmp .NotEq (.blt .repr #[.v 14]) (.blt .repr #[.v 13])) #[.cmp .NotEq (.blt .repr #[.v 11]) (.v 12)]) #[.ret (.bl false)] .nil]
def jbY  : Ss:=(.cons (.asg (.n 14) (.call ja9 #[.v 5,.v 3,.v 7,.v 6,.v 11])) jbX)
def jbZ  : Ss:=(.cons (.asg (.n 13) (.call jb9 #[.v 5,.v 3,.v 7,.v 6,.v 11])) jbY)
def jb0  : Ss:=(.cons (.ite (.cmp .NotEq (.blt .repr #[.call jcr #[.v 5,.v 3,.v 11]]) (.blt .repr #[.v 13])) #[.ret (.bl false)] .nil) jbZ)
def jb1  : Ss:=(.cons (.asg (.n 13) (.call jb9 #[.v 5,.v 3,.v 7,.tup .nil,.v 11])) jb0)
def jbc  : Ss:=(.cons (.asg (.n 12) (.blt .repr #[.v 11])) jb1)
def jb6  : Ss:=#[.fr (.n 11) (.e (.v 9)) jbc]
def jb2  : Ss:=#[.expr (.meth .append (.v 9) #[.call jbQ #[.v 1,.v 11,.int 4]])]
def jb7  : Ss:=(.cons (.fr (.n 11) (.e (.mkL (.v 9))) jb2) jb6)
def jdw  : Ss:=(.cons (.asg (.n 9) (.bin .Add (.v 9) (.lst #[.tup #[.str "ring",.v 10],.tup #[.str "ring",.tup #[.tup #[.str "home",.int 0,.int 0]]],(.call jeu #[.call jbh #[.v 5,.v 3],.v 8])]))) jb7)
def jbN  : Ss:=(.cons (.asg (.n 10) (.mkT (.lc [none] (.n 0) (.e (.v 6)) .nil (.tup #[.str "home",.v 0,.v 0])))) jdw)
def jbO  : Ss:=(.cons (.asg (.n 9) (.bin .Add (.v 9) (.lst #[.tup #[.str "ring",.non],.tup #[.str "ring",.str "ring"],.tup #[.str "split",.int 0,.int 0,.non,.non],.call jcs #[.v 1]]))) jbN)
def jbP  : Ss:=(.cons (.asg (.n 9) (.bin .Add (.v 9) (.lst #[.tup #[.str "Ring",.tup .nil],.tup #[.str "ring",.tup .nil,.tup .nil],.tup #[.str "split",.int 0,.int 0,.v 8,.v 8,.v 8],.tup #[.tup .nil,.tup .nil],.tup #[.int 0,.int 1],.dic .nil]))) jbO)
def jcM  : Ss:=(.cons (.asg (.n 9) (.lst #[.non,.tup .nil,.lst .nil,.str "ring",.tup #[.str "ring"],.tup #[.str "ring",.tup .nil],.lst #[.str "ring",.tup .nil],.tup #[.str "split"],.tup #[.str "split",.int 0,.int 0,.v 8],.v 8])) jbP)
def jcN  : Ss:=(.cons (.asg (.n 8) (.tup #[.str "ring",(.tup #[.tup #[.int 0,.int 1],.tup #[.int 0,.neg (.int 1)]])])) jcM)
def jek  : Ss:=(.cons (.asg (.n 7) (.call jdM #[.v 1,.v 4,.v 3])) jcN)
def jel  : Ss:=(.cons (.asg (.n 6) (.call jdL #[.v 1,.v 4])) jek)
def jem  : Ss:=(.cons (.asg (.n 5) (.call jer #[.v 1,.v 4,.ix (.lst #[.int 0,.int 3,.int 24]) (.call jac #[.v 1,.int 3]),.v 3])) jel)
def jcO  : Ss:=(.cons (.asg (.n 3) (.call jbF #[.v 1])) (.cons (.asg (.n 4) (.bin .Add (.int 1) (.call jac #[.v 1,.int 8]))) jem))
def jic  : Ss:=#[.fr (.n 2) (.r1 (.int 2)) jcO,.ret (.bl true)]
def joU  : Fun:=⟨"law",["_law_script"],["_law_script", "_law_feed_here", "_law_k", "_law_cycle", "_law_works", "_law_plan_here", "_law_stays_here", "_law_beats_here", "_law_pair", "_law_things", "_law_homes", "_law_thing", "_law_kept", "_law_due", "_law_found"],(.cons (.asg (.n 1) (.call jes #[.v 0])) jic)⟩
def T  : Tab:=⟨[jeJ,jd6,jhl,jdY,jdf,jcA,jdj,jeK,jd8,jfI,jbJ,jfF,jdZ,jd7,jcB,jdg,jdh,jaX,jb3,jaR,jd0,jeE,jeG,jd4,jbI,jdi,jeC,jcF,jeD,jd5,jfG,jcZ,jfH,jcC,jd2,jeF,jcE,jeB,jeI,jd1,jd3,jcD,jbb,jeH,joU],[(.int 60)],["MOST_ENTRIES"],[1,2,3,4,5],[jaJ,jaK],[(19,jbk)]⟩
def top  (i:Nat):Stmt:=PySem.Challenge.pw_beatplans_k14_things_that_are_no_cases.main.body.getD i (.Pass ⟨0,0,0,0⟩)
noncomputable abbrev s_is_whole  : Stmt:=top 8
noncomputable abbrev s_is_within  : Stmt:=top 9
noncomputable abbrev s_top_of  : Stmt:=top 10
noncomputable abbrev s_window_of  : Stmt:=top 11
noncomputable abbrev s_windows_of  : Stmt:=top 12
noncomputable abbrev s_with_window  : Stmt:=top 13
noncomputable abbrev s_is_work_of  : Stmt:=top 16
noncomputable abbrev s_is_entry  : Stmt:=top 17
noncomputable abbrev s_ends_of  : Stmt:=top 18
noncomputable abbrev s_is_ring  : Stmt:=top 19
noncomputable abbrev s_entry_sums  : Stmt:=top 20
noncomputable abbrev s_sums_of  : Stmt:=top 21
noncomputable abbrev s_ring_bars  : Stmt:=top 22
noncomputable abbrev s_has_shape  : Stmt:=top 24
noncomputable abbrev s_split_fault  : Stmt:=top 25
noncomputable abbrev s_ring_fault  : Stmt:=top 26
noncomputable abbrev s_node_fault  : Stmt:=top 27
noncomputable abbrev s_split_sides  : Stmt:=top 28
noncomputable abbrev s_look_through  : Stmt:=top 29
noncomputable abbrev s_lets_none_with  : Stmt:=top 31
noncomputable abbrev s_lets_none  : Stmt:=top 32
noncomputable abbrev s_law_feed  : Stmt:=top 34
noncomputable abbrev s_law_draw  : Stmt:=top 35
noncomputable abbrev s_law_names  : Stmt:=top 36
noncomputable abbrev s_law_any_cycle  : Stmt:=top 37
noncomputable abbrev s_law_number  : Stmt:=top 38
noncomputable abbrev s_law_span  : Stmt:=top 39
noncomputable abbrev s_law_fitting  : Stmt:=top 40
noncomputable abbrev s_law_plan  : Stmt:=top 41
noncomputable abbrev s_law_beats  : Stmt:=top 42
noncomputable abbrev s_law_odd  : Stmt:=top 43
noncomputable abbrev s_law_bent  : Stmt:=top 44
noncomputable abbrev s_law_end  : Stmt:=top 45
noncomputable abbrev s_law_windows  : Stmt:=top 46
noncomputable abbrev s_law_whole  : Stmt:=top 47
noncomputable abbrev s_law_ends  : Stmt:=top 48
noncomputable abbrev s_law_is_ring  : Stmt:=top 49
noncomputable abbrev s_law_sums  : Stmt:=top 50
noncomputable abbrev s_law_bars  : Stmt:=top 51
noncomputable abbrev s_law_wrong  : Stmt:=top 52
noncomputable abbrev s_law_stays  : Stmt:=top 53
noncomputable abbrev s_law_refused  : Stmt:=top 54
noncomputable abbrev s_law_refused_with  : Stmt:=top 55
noncomputable abbrev s_law_deep  : Stmt:=top 56
noncomputable abbrev s_law  : Stmt:=top 57
end
local macro_rules
 |`(tactic| simp! only[$xs,*])=>do
  let ys <- ("D_v T_v D_non D_bl D_int D_str D_g T_g D_ty T_ty D_bin T_bin D_neg D_cmp T_cmp D_cmp2 T_cmp2 D_tup D_lst D_dic D_ix T_ix D_sl D_rev D_call T_call D_blt T_blt D_meth D_lc D_mkL D_mkT D_not T_not D_ife T_ife D_bop0 D_and D_or T_and T_or O_no O_so A_nil A_cons C_nil C_cons P_nil P_cons I_e I_r1 I_r2 F_nil F_cons S_expr S_asg S_asgC S_setS S_par S_aug S_ite S_fr S_ret S_raise S_tr B_nil B_cons V_add V_cat V_catL V_sub V_mul V_mulL V_mulT V_fdiv V_mod V_pow V_neg W_eqI W_neI W_eqS W_neS W_lt W_le W_gt W_ge W_neT W_eqT W_eqT0 W_neL W_eqL W_in W_nin W_is W_isn Y_bl Y_non Y_int Y_tup J_tup X_tup F_len F_repr F_min F_max F_sum F_all F_int F_str F_isi X_str V_addB V_subB V_subI F_lenT F_min2 F_max2 F_intB F_intI G_n G_t G_nil G_cons sl_0 sl_s dr_0 dr_s pk_nil pk_none pk_some K_str K_int fx_cells fx_at fx_left fx_turn fs_at fs_left".splitOn " ").toArray.mapM λs=>`(YfG| $(Lean.mkIdent s.toName):ident)
  `(tactic| try simp only[YaK,YdP,YfU,Ybn,YaJ,Yb0,List.set_cons_zero,List.set_cons_succ,Yfx,List.zip_nil_right,List.zip_nil_left,Yef,List.foldl_nil,List.getElem?_cons_zero,YeK,Option.join_some,ite_true,ite_false,YbV,YbE,$ys:simpLemma,*,$xs,*])

def jag    (hf:Fd G f c)(h0:0<m)(h1:m<1073741824)(q:∀r G' ,0<=r->r<m->Fd G' f c->Sm f G G'->Q (.int r) G'):jab T (k+1) jac [.loc f,.int m] G Q X:=by
 obtain⟨ns,a,l,t,g1,g2,hn⟩:=hf.ex;have fin:∀(z a' l' t':Int),Q (.int (z%m)) (gup G f (.dK (fdU c a' l' t'))):=λz a' l' t'=>q _ _ (YcE z (by lia)) (Ycn z h0) (Fd.put ⟨rfl⟩ g1 g2 hn) Sm.put
 have hlen:0<ns.length:=List.length_pos_iff.mpr hn;have gc:∀kvs,gup G f (.dK kvs) c=some (.lst (ns.map .int)):=λkvs=>by rw[jbH (λz=>by rw[z,g1]at g2;cases g2)];exact g2
 obtain⟨z,hz,ez⟩:=jfU (l:=ns) (r:=a%ns.length) (YcE _ (by lia)) (Ycn _ (by lia))
 refine⟨rfl,?_⟩;simp! only[jeG,jad,Yaa,ix_d g1 jk4,jlC g1,jf7,jnR,jjf,true_and,jgm (gc _),Yai,ix_l (gc _) ((jcf U.int ns _).trans (congrArg _ ez))];have cut:∀(l' a' t':Int),(0<m/\0<m/\m<1073741824/\Q (.int (l'%m)) (gup G f (.dK (fdU c a' (l'/m) t')))):=λl' a' t'=>⟨h0,h0,by lia,fin _ _ _ _⟩
 by_cases hl:l=0
 ·rw[if_pos (by simpa using hl)]
  refine⟨by lia,by constructor<;>decide,?_⟩
  by_cases hc:z<10 ^ Int.toNat 18
  ·rw[if_pos (by simpa using hc)]
   exact⟨by decide,.inl (by decide),.inr (by decide),by decide,by decide,by decide,.inl (by decide),.inr (by decide),by decide,by decide,by decide,h0,fin _ _ _ _⟩
  ·rw[if_neg (by simpa using hc)]
   exact cut _ _ _
 ·rw[if_neg (by simpa using hl)]
  exact cut _ _ _
def jmd   {ns:List Int}(ha:G a=some (.fro (ns.map .int)))(hl:ns.length<=63)(q:∀f c G' ,Fd G' f c->Q (.loc f) G'):jab T (k+1) jes [.loc a] G Q X:=by
 have hcl:(cut ns none (some 63)).length<=63:=by rw[show(63:Int)=((63:Nat):Int)from rfl,jfJ];simp;lia
 refine⟨rfl,?_⟩;simp! only[jeE,jad,Yaa,sl_f ha,jmQ];intro p1 G1 n1;rw[it_l n1.at];intro p2 G2 n2;refine⟨by decide,λp3 G3 n3=>?_⟩
 simp! only[jp0 (n3.sa _ _ (n2.sa _ _ (n1.sa _ _ ha)))];obtain⟨zs,ez,lz,hz⟩:∃zs:List Int,(Yaa (Int.toNat (if decide (((ns.map U.int).length:Int)=0)=true then 1 else 0)) [U.int 0]).flatten=zs.map U.int/\zs.length<=1/\(ns=[]->zs≠[]):=by
  by_cases h:ns=[]
  ·subst h;exact⟨[0],rfl,by decide,λ_=>by simp⟩
  ·refine⟨[],?_,by decide,λz=>absurd z h⟩
   rw[if_neg (by simpa using h)]
   rfl
 refine⟨_,n3.at,by split<;>decide,by split<;>decide,by split<;>decide,λp4 G4 n4=>?_⟩
 rw[ez]at n4;refine⟨_,_,n4.sa _ _ (n3.sa _ _ n2.at),n4.at,?_,λp5 G5 n5=>⟨by decide,λp6 G6 n6=>?_⟩⟩
 ·rw[Yai,Yai];exact Yah (Nat.add_le_add hcl lz) (by decide:63+1<=Yag)
 rw[jol]at n6;rw[<- Yav]at n5;refine q _ p5 _ ⟨_,0,0,0,n6.at,n6.sa _ _ n5.at,λz=>?_⟩;obtain⟨z1,z2⟩:=List.append_eq_nil_iff.mp z;refine hz ?_ z2;rw[show(63:Int)=((63:Nat):Int)from rfl,jfJ]at z1;cases ns with
 |nil=>rfl
 |cons _ _=>cases z1

structure Nm (x:Str):Prop where
 l8:x.length<=8
 ch:∀c∈x.cps.toList,c<128
structure Spn where
 w:Str
 o:Nat
 t:Nat
 lo:Int
 hi:Int
noncomputable def Spn.u  (s:Spn):U:=.tup [.str s.w,.int s.o,.int s.t,.int s.lo,.int s.hi]
structure Spn.Ok (W:Nat)(s:Spn):Prop where
 w:s.w = "apart" \/ s.w = "span"
 o:s.o<W
 t:s.t<W
 lo:0<=s.lo/\s.lo<=9999
 hi:0<=s.hi/\s.hi<=9999
noncomputable def jai  (l:List Int):U:=.tup (l.map .int)
noncomputable def menu  : List Str:=["a", "ab", "abc", "b", "ba", "works", "span", "apart", "at", "none", "hold", "zzzzzzzz", "z", "o", "find", "late", "n"]
def jmn  : ∀x∈menu,Nm x:=by
 have h:∀x∈menu,x.length<=8/\∀c∈x.cps.toList,c<128:=by decide +kernel
 exact λx hx=>⟨(h x hx).1,(h x hx).2⟩
def jao  (xs:List Str)(ss:List Spn):U:=.tup [.tup (xs.map .str),.tup (ss.map Spn.u)]
def jp7        (g:G a=some (.lst xs)):jaI .insert (.loc a) [.int i,v] G Q=(0<=i/\i<=xs.length/\xs.length<Yag/\putO G a (.lst (xs.take i.toNat++v::xs.drop i.toNat)) (Q .non)):=by unfold jaI jgs;dsimp only;rw[g]
def joh     (g:G a=some (.lst xs)):mtU .insert (.loc a) G=some ("list", "list.insert"):=by unfold mtU;dsimp only;rw[g]

def jj9    (hf:Fd G f c)(h1:m<=8)(q:∀(xs:List Str) G' ,xs.length=m->(∀x∈xs,Nm x)->Fd G' f c->Sm f G G'->Q (.tup (xs.map .str)) G'):jab T (k+2) jca [.loc f,.int m] G Q X:=by
 refine⟨rfl,?_⟩;simp! only[jd4,jad,Yaa];refine⟨by decide,λp G1 n1=>⟨by decide,λp2 G2 n2=>⟨_,_,n2.sa _ _ n1.at,n2.at,by decide,λp3 G3 n3=>?_⟩⟩⟩
 have f3:=((hf.new n1).new n2).new n3;have s3:Sm f G G3:=n1.sa.sm.trans (n2.sa.sm.trans n3.sa.sm);have hp:=((hf.new n1).new n2).away n3;have g3:G3 p3=some (.lst (menu.map .str)):=n3.at
 refine jag f3 (by decide) (by decide) λfirst G4 a4 b4 f4 s4=>jag f4 (by decide) (by decide) λr5 G5 a5 b5 f5 s5=>?_
 have g5:=s5 _ _ hp.1 (s4 _ _ hp.1 g3);simp! only[];refine⟨by lia,by lia,by rw[jaz];exact Yah (show((m:Int)).toNat<=8 by lia) (by decide),?_⟩
 refine jav (λi acc G'=>G'=G5/\∃xs:List Str,acc=xs.map .str/\xs.length=i/\∀x∈xs,Nm x) ?_ ?_ ⟨rfl,[],rfl,rfl,λ_ h=>nomatch h⟩
 ·rintro acc G' ⟨rfl,xs,rfl,hl,hx⟩;rw[jaz]at hl;refine⟨trivial,λp6 G6 n6=>?_⟩;simp! only[it_l n6.at];exact q xs G6 (by lia) hx (f5.new n6) ((s3.trans (s4.trans s5)).nw n6)
 ·rintro i x acc G' K hx ⟨rfl,xs,rfl,hl,hn⟩ hk _;obtain⟨hi,rfl⟩:=jcP hx;simp! only[];obtain⟨y,hy,ey⟩:=jfU (l:=menu) (r:=(first+(1+r5)*(i:Int))%17) (YcE _ (by decide)) (Ycn _ (by decide))
  refine⟨trivial,.inr (by constructor<;>lia),by decide,?_⟩
  rw[ix_l g5 ((jcf U.str menu _).trans (congrArg _ ey))];exact hk _ _ ⟨rfl,xs++[y],by simp,by simp[hl],λz hz=>by
   rcases List.mem_append.mp hz with z'|z'
   ·exact hn z z'
   ·rw[List.mem_singleton.mp z'];exact jmn y hy⟩
def jkf   (hf:Fd G f c)(q:∀P G' ,1<=P->P<=600->Fd G' f c->Sm f G G'->Q (.int P) G'):jab T (k+2) jbF [.loc f] G Q X:=by
 refine⟨rfl,?_⟩;simp! only[jbI,jad,Yaa];refine jag hf (by decide) (by decide) λr1 G1 a1 b1 f1 s1=>jag f1 (by decide) (by decide) λr2 G2 a2 b2 f2 s2=>⟨by decide,λp G3 n3=>jag (f2.new n3) (by decide) (by decide) λr4 G4 a4 b4 f4 s4=>?_⟩
 refine jcy [1,2,3,5,7,12,60,600,1+r1,1+r2] (s4 _ _ (f2.away n3).1 n3.at) a4 b4 λz hz=>?_;have:1<=z/\z<=600:=by simp only[YaW,YaE,or_false]at hz;first|omega
 exact q z _ this.1 this.2 f4 (((s1.trans s2).nw n3).trans s4)
def jdG    (hf:Fd G f c)(h1:1<=P)(h2:P<=600)(q:∀z G' ,0<=z->z<=1801->Fd G' f c->Sm f G G'->Q (.int z) G'):jab T (k+2) jba [.loc f,.int P] G Q X:=by
 refine⟨rfl,?_⟩;simp! only[jdi,jad,Yaa];refine jag hf (by lia) (by lia) λr1 G1 a1 b1 f1 s1=>jag f1 (by lia) (by lia) λr2 G2 a2 b2 f2 s2=>⟨.inl (by decide),jag f2 (by lia) (by lia) λr3 G3 a3 b3 f3 s3=>⟨by decide,λp G4 n4=>jag (f3.new n4) (by decide) (by decide) λr5 G5 a5 b5 f5 s5=>?_⟩⟩
 refine jcy [0,r1,r2,r3] (s5 _ _ (f3.away n4).1 n4.at) a5 b5 λz hz=>?_;have:0<=z/\z<=1801:=by simp only[YaW,YaE,or_false]at hz;lia
 exact q z _ this.1 this.2 f5 (((s1.trans (s2.trans s3)).nw n4).trans s5)
def jma     (hf:Fd G f c)(h1:1<=P)(h2:P<=600)(w0:0<W)(w8:W<=8)(q:∀(s:Spn) G' ,s.Ok W->Fd G' f c->Sm f G G'->Q s.u G'):jab T (k+3) jeq [.loc f,.int W,.int P] G Q X:=by
 refine⟨rfl,?_⟩;simp! only[jeC,jad,Yaa];refine jag hf (by lia) (by lia) λo' Ga aa ba fa sa=>jag fa (by lia) (by lia) λt' Gb ab bb fb sb=>?_
 obtain⟨o,rfl⟩:=Yaz aa;obtain⟨t,rfl⟩:=Yaz ab;refine⟨trivial,?_⟩;refine jdG fb h1 h2 λlo G1 a1 b1 f1 s1=>?_;refine jag f1 (by decide) (by decide) λr G2 a2 b2 f2 s2=>?_
 have S2:=sa.trans (sb.trans (s1.trans s2));simp! only[];by_cases hr:r=0
 ·rw[if_pos (by simpa using hr)]
  refine jdG f2 h1 h2 λhi G3 a3 b3 f3 s3=>⟨by decide,?_⟩
  exact q ⟨"apart",o,t,lo,hi⟩ _ ⟨.inl rfl,by dsimp only;lia,by dsimp only;lia,by dsimp only;lia,by dsimp only;lia⟩ f3 (S2.trans s3)
 ·rw[if_neg (by simpa using hr)]
  refine jag f2 (by lia) (by lia) λr3 G3 a3 b3 f3 s3=>jag f3 (by decide) (by decide) λr4 G4 a4 b4 f4 s4=>⟨by decide,λp G5 n5=>jag (f4.new n5) (by decide) (by decide) λr6 G6 a6 b6 f6 s6=>?_⟩
  refine jcy [0,0,1,r3,P-1,P+r4] (s6 _ _ (f4.away n5).1 n5.at) a6 b6 λz hz=>?_;have hz':0<=z/\z<=700:=by simp only[YaW,YaE,or_false]at hz;lia
  simp! only[];exact⟨by decide,q ⟨"span",o,t,lo,lo+z⟩ _ ⟨.inr rfl,by dsimp only;lia,by dsimp only;lia,by dsimp only;lia,by dsimp only;lia⟩ f6 ((S2.trans (s3.trans s4)).nw n5 |>.trans s6)⟩
def jhI     {bs:List Int}(hf:Fd G f c)(h1:1<=P)(h2:P<=600)(gb:G pb=some (.lst (bs.map .int)))(hb:pb≠f)(bl:bs.length=W)(w0:0<W)(w8:W<=8)(q:∀(s:Spn) G' ,s.Ok W->Fd G' f c->Sm f G G'->Q s.u G'):jab T (k+3) jcu [.loc f,.loc pb,.int P] G Q X:=by
 refine⟨rfl,?_⟩;simp! only[jcF,jad,Yaa,jgm gb,Yai,bl];refine jag hf (by lia) (by lia) λo' Ga aa ba fa sa=>?_
 have ga:=sa _ _ hb gb;simp! only[jgm ga,Yai,bl];refine jag fa (by lia) (by lia) λt' Gb ab bb fb sb=>?_
 have gb2:=sb _ _ hb ga;obtain⟨o,rfl⟩:=Yaz aa;obtain⟨t,rfl⟩:=Yaz ab;obtain⟨x,hx,ex⟩:=jfU (l:=bs) (r:=(t:Int)) ab (by lia)
 obtain⟨y,hy,ey⟩:=jfU (l:=bs) (r:=(o:Int)) aa (by lia)
 simp! only[ix_l gb2 ((jcf U.int bs _).trans (congrArg _ ex)),ix_l gb2 ((jcf U.int bs _).trans (congrArg _ ey))];refine⟨trivial,by lia,jag fb (by decide) (by decide) λr G2 a2 b2 f2 s2=>?_⟩
 have S2:=sa.trans (sb.trans s2);obtain⟨gap,hg⟩:∃gap,gap=(x-y)%P:=⟨_,rfl⟩;have g0:0<=gap:=by rw[hg];exact YcE _ (by lia)
 have g1:gap<P:=by rw[hg];exact Ycn _ (by lia)
 rw[<- hg];simp! only[];by_cases hr:r=0
 ·rw[if_pos (by simpa using hr)]
  refine jag f2 (by lia) (by lia) λlo G3 a3 b3 f3 s3=>jag f3 (by lia) (by lia) λhi G4 a4 b4 f4 s4=>⟨by decide,?_⟩
  exact q ⟨"apart",o,t,lo,hi⟩ _ ⟨.inl rfl,by dsimp only;lia,by dsimp only;lia,by dsimp only;lia,by dsimp only;lia⟩ f4 (S2.trans (s3.trans s4))
 ·rw[if_neg (by simpa using hr)]
  refine jdG f2 h1 h2 λlo G3 a3 b3 f3 s3=>⟨by lia,jag f3 (by lia) (by lia) λr4 G4 a4 b4 f4 s4=>⟨by decide,λp G5 n5=>jag (f4.new n5) (by decide) (by decide) λr6 G6 a6 b6 f6 s6=>?_⟩⟩
  refine jcy [0,0,1,r4] (s6 _ _ (f4.away n5).1 n5.at) a6 b6 λz hz=>?_;have hz':0<=z/\z<=700:=by simp only[YaW,YaE,or_false]at hz;lia
  have e0:0<=(gap-lo)%P:=YcE _ (by lia)
  have e1:(gap-lo)%P<P:=Ycn _ (by lia)
  simp! only[];exact⟨by decide,q ⟨"span",o,t,lo,lo+(gap-lo)%P+z⟩ _ ⟨.inr rfl,by dsimp only;lia,by dsimp only;lia,by dsimp only;lia,by dsimp only;lia⟩ f6 ((S2.trans (s3.trans s4)).nw n5 |>.trans s6)⟩


def jiu  {X: KX}{ss:List Spn}{G0 G3:Gp}(s0:Sm f G G0)(n0:G0 p5=none)(hf:Fd G3 f c)(h5:p5≠f/\p5≠c)(g5:G3 p5=some (.lst (ss.map Spn.u)))(sl:ss.length<=24)(so:∀s∈ss,s.Ok W)(w8:W<=8)(s3:Sm f G G3)
  (q:∀(xs:List Str) (ss:List Spn) G' ,xs.length=W->(∀x∈xs,Nm x)->ss.length<=24->(∀s∈ss,s.Ok W)->Fd G' f c->Sm f G G'->Q (jao xs ss) G') :
  jal T.gs (jab T (k+3)) jbv ⟨λ_ G'=>Q .non G',Q,λx _ G'=>X x G'⟩ [some (.loc f),some (.int W),some (.int m),some (.int P),some (.loc pb),some (.loc p5),o6] G3:=by
 have fin:∀(ss:List Spn) (G4:Gp),G4 p5=some (.lst (ss.map Spn.u))->ss.length<=24->(∀s∈ss,s.Ok W)->Fd G4 f c->Sm f G G4->jab T (k+3) jca [.loc f,.int W] G4 (λx G1=>itU (.loc p5) G1 λxs _=>0+1+1<=Yag/\Q (.tup [x,.tup xs]) G1) X:=λss G4 g4 l4 o4 f4 s4=>by
  refine jj9 f4 w8 λxs G5 lx nx f5 s5=>?_;rw[it_l (s5 _ _ h5.1 g4)];exact⟨by decide,q xs ss _ lx nx l4 o4 f5 (s4.trans s5)⟩
 simp! only[jbv,jgm g5,Yai];by_cases z1:(0:Int)<ss.length
 ·rw[if_pos (by simpa using z1)]
  by_cases z2:(ss.length:Int)<24
  ·rw[if_pos (by simpa using z2)]
   refine jag hf (by decide) (by decide) λr G4 a4 b4 f4 s4=>?_
   have g4:=s4 _ _ h5.1 g5;simp! only[];by_cases hr:r=0
   ·rw[if_pos (by simpa using hr)]
    simp! only[joh g4,jgm g4,Yai];refine jag f4 (by lia) (by lia) λr5 G5 a5 b5 f5 s5=>?_
    have g5':=s5 _ _ h5.1 g4;obtain⟨x,hx⟩:∃x,ss[0]?=some x:=⟨ss[0]'(by lia),YaB _⟩
    have ox:=so x (YaI hx);rw[ix_l g5' (show atI (ss.map Spn.u) 0=some x.u from(jcf Spn.u ss _).trans (congrArg _ (jbj (j:=0) hx))),jp7 g5'];obtain⟨j,rfl⟩:=Yaz a5;refine⟨by lia,by rw[Yai];lia,by rw[Yai];exact YaS sl (by decide),λG6 p6=>?_⟩
    have e:(ss.map Spn.u).take (j:Int).toNat++x.u::(ss.map Spn.u).drop (j:Int).toNat=(ss.take j++x::ss.drop j).map Spn.u:=by
     rw[YbE,Yav,YeI,YaK,YeJ]
    rw[e]at p6;refine fin (ss.take j++x::ss.drop j) G6 p6.at ?_ (λs hs=>?_) (f5.off h5 p6) (Sm.wr s0 n0 (s3.trans (s4.trans s5)) p6)
    ·simp;lia
    ·rcases List.mem_append.mp hs with z|z
     ·exact so s (List.mem_of_mem_take z)
     ·rcases YaW.mp z with rfl|z
      ·exact ox
      ·exact so s (List.mem_of_mem_drop z)
   ·rw[if_neg (by simpa using hr)]
    exact fin ss G4 g4 sl so f4 (s3.trans s4)
  ·rw[if_neg (by simpa using z2)]
   exact fin ss G3 g5 sl so hf s3
 ·rw[if_neg (by simpa using z1)]
  exact fin ss G3 g5 sl so hf s3
def jmb     (hf:Fd G f c)(h1:1<=P)(h2:P<=600)(w0:0<W)(w8:W<=8)(m0:0<=m)(m1:m<=24)
  (q:∀(xs:List Str) (ss:List Spn) G' ,xs.length=W->(∀x∈xs,Nm x)->ss.length<=24->(∀s∈ss,s.Ok W)->Fd G' f c->Sm f G G'->Q (jao xs ss) G'):jab T (k+4) jer [.loc f,.int W,.int m,.int P] G Q X:=by
 refine⟨rfl,?_⟩;simp! only[jeD,jad,Yaa];refine⟨by lia,by lia,by rw[jaz];exact Yah w8 (by decide),?_⟩
 refine jav (λi acc G'=>Fd G' f c/\Sm f G G'/\∃bs:List Int,acc=bs.map .int/\bs.length=i) ?_ ?_ ⟨hf,Sm.refl,[],rfl,rfl⟩
 ·rintro acc G1 ⟨f1,s1,bs,rfl,hl⟩;rw[jaz]at hl;refine⟨trivial,λpb G2 n2=>?_⟩;simp! only[];refine⟨by decide,λp5 G3 n3=>?_⟩
  have f2:=f1.new n2;have hb:=f1.away n2;have h5:=f2.away n3;have s2:=s1.nw n2;refine jag (f2.new n3) (by lia) (by lia) λm' G4 a4 b4 f4 s4=>?_
  have hb5:p5≠pb:=jgh n2.at n3.no;refine⟨by lia,by lia,?_⟩
  refine jcd (λi ς G'=>∃(ss:List Spn) (o6:Option U),ς=[some (.loc f),some (.int W),some (.int m),some (.int P),some (.loc pb),some (.loc p5),o6]/\Fd G' f c/\Sm f G G'/\G' pb=some (.lst (bs.map .int))/\G' p5=some (.lst (ss.map Spn.u))/\ss.length=i/\∀s∈ss,s.Ok W) ?_ ?_
   ⟨[],_,rfl,f4,(s2.nw n3).trans s4,s4 _ _ hb.1 (n3.sa _ _ n2.at),s4 _ _ h5.1 n3.at,rfl,λ_ h=>nomatch h⟩
  ·rintro ς G5 ⟨ss,o6,rfl,f5,s5,gb,g5,l5,o5⟩;rw[jaz]at l5;exact⟨trivial,jiu s2 n3.no f5 h5 g5 (by lia) o5 w8 s5 q⟩
  ·rintro i x ς G5 K hx ⟨ss,o6,rfl,f5,s5,gb,g5,l5,o5⟩ hk;obtain⟨hi,rfl⟩:=jcP hx;refine⟨trivial,?_⟩;simp! only[];have add:∀(s:Spn) (G6:Gp),s.Ok W->Fd G6 f c->Sm f G5 G6->jaI .append (.loc p5) [s.u] G6 λ_ G1=>K [some (.loc f),some (.int W),some (.int m),some (.int P),some (.loc pb),some (.loc p5),some (.int i)] G1:=λs G6 os f6 s6=>by
    have g6:=s6 _ _ h5.1 g5;rw[jky g6];refine⟨by rw[Yai];exact Yan (show ss.length<25 by lia) (by decide),λG7 p7=>?_⟩
    refine hk _ _ ⟨ss++[s],_,rfl,f6.off h5 p7,Sm.wr s2 n3.no (s5.trans s6) p7,p7.sm _ _ (Ne.symm hb5) (s6 _ _ hb.1 gb),by rw[Yav];exact p7.at,by simp[l5],λz hz=>?_⟩
    rcases List.mem_append.mp hz with z'|z'
    ·exact o5 z z'
    ·rw[List.mem_singleton.mp z'];exact os
   refine jag f5 (by decide) (by decide) λr G6 a6 b6 f6 s6=>?_
   have g6:=s6 _ _ h5.1 g5;simp! only[];by_cases hr:0<r
   ·rw[if_pos (by simpa using hr)]
    simp! only[jfv g6];exact jhI f6 h1 h2 (s6 _ _ hb.1 gb) hb.1 hl w0 w8 λs G7 os f7 s7=>add s G7 os f7 (s6.trans s7)
   ·rw[if_neg (by simpa using hr)]
    simp! only[jfv g6];exact jma f6 h1 h2 w0 w8 λs G7 os f7 s7=>add s G7 os f7 (s6.trans s7)
 ·rintro i x acc G1 K hx ⟨f1,s1,bs,rfl,hl⟩ hk _;exact⟨trivial,jag f1 (by lia) (by lia) λr G2 a2 b2 f2 s2=>hk _ _ ⟨f2,s1.trans s2,bs++[r],by simp,by simp[hl]⟩⟩

def atM  {α:Type}{f:α->U}{l:List α}{n:Nat}{a:α}(h:l[n]?=some a):atI (l.map f) (n:Int)=some (f a):=(jcf f l _).trans (congrArg _ (jbj h))
def joF   z (l:List Int):((l.map U.int).any λy=>eqF y (.int z))=decide (z∈l):=by
 rw[Ybf,List.any_eq_true,decide_eq_true_eq];constructor
 ·rintro⟨y,hy,e⟩;obtain⟨x,hx,rfl⟩:=List.mem_map.mp hy;have:x=z:=by simpa[eqF]using e
  rw[<- this];exact hx
 ·intro h;exact⟨.int z,List.mem_map.mpr ⟨z,h,rfl⟩,by simp[eqF]⟩
def jkp  (l:List Int):(l.map U.int).all flat=true:=by simp[flat]
def jgg     (h:k false):cmpU .NotEq (.str x) (.str x) G k:=by
 show k (!decide (x=x));rw[decide_eq_true rfl];exact h

mutual
inductive Th (G:Gp):U->PyData->Prop
 |non:Th G .non .none
 |bl (b:Bool):Th G (.bl b) (.bool b)
 |int (i:Int):Th G (.int i) (.int i)
 |str (x:Str):Th G (.str x) (.str x)
 |tup {us:List U} {ds:List PyData}:Ths G us ds->Th G (.tup us) (.tuple ds)
 |lst {a:Addr} {us:List U} {ds:List PyData}:G a=some (.lst us)->Ths G us ds->Th G (.loc a) (.list ds)
 |dic {a:Addr}:G a=some (.dK [])->Th G (.loc a) (.dict [])
inductive Ths (G:Gp):List U->List PyData->Prop
 |nil:Ths G [] []
 |cons {u:U} {d:PyData} {us:List U} {ds:List PyData}:Th G u d->Ths G us ds->Ths G (u::us) (d::ds)
end
mutual
theorem Th.du {G:Gp}:∀{u:U} {d:PyData},Th G u d->DU G u d
 |_,_,.non=>.non
 |_,_,.bl b=>.bl b
 |_,_,.int i=>.int i
 |_,_,.str x=>.str x
 |_,_,.tup h=>.tup (Ths.dus h)
 |_,_,.lst g h=>.lst (by unfold lsG;rw[g]) (Ths.dus h)
 |_,_,.dic g=>.dic g
theorem Ths.dus {G:Gp}:∀{us:List U} {ds:List PyData},Ths G us ds->DUs G us ds
 |_,_,.nil=>.nil
 |_,_,.cons a b=>.cons (Th.du a) (Ths.dus b)
end
mutual
theorem Th.mono {G G':Gp}{f c:Addr}(hf:Fd G f c)(s:Sm f G G'):∀{u:U} {d:PyData},Th G u d->Th G' u d
 |_,_,.non=>.non
 |_,_,.bl b=>.bl b
 |_,_,.int i=>.int i
 |_,_,.str x=>.str x
 |_,_,.tup h=>.tup (Ths.mono hf s h)
 |_,_,.lst g h=>.lst (s _ _ (λe=>by obtain⟨ns,x,y,z,h1,_⟩:=hf.ex;rw[e,h1]at g;cases g) g) (Ths.mono hf s h)
 |_,_,.dic g=>.dic (s _ _ (λe=>by obtain⟨ns,x,y,z,h1,_⟩:=hf.ex;rw[e,h1]at g;cases g) g)
theorem Ths.mono {G G':Gp}{f c:Addr}(hf:Fd G f c)(s:Sm f G G'):∀{us:List U} {ds:List PyData},Ths G us ds->Ths G' us ds
 |_,_,.nil=>.nil
 |_,_,.cons a b=>.cons (Th.mono hf s a) (Ths.mono hf s b)
end
mutual
theorem Th.sa {G G':Gp}(s:Sa G G'):∀{u:U} {d:PyData},Th G u d->Th G' u d
 |_,_,.non=>.non
 |_,_,.bl b=>.bl b
 |_,_,.int i=>.int i
 |_,_,.str x=>.str x
 |_,_,.tup h=>.tup (Ths.sa s h)
 |_,_,.lst g h=>.lst (s _ _ g) (Ths.sa s h)
 |_,_,.dic g=>.dic (s _ _ g)
theorem Ths.sa {G G':Gp}(s:Sa G G'):∀{us:List U} {ds:List PyData},Ths G us ds->Ths G' us ds
 |_,_,.nil=>.nil
 |_,_,.cons a b=>.cons (Th.sa s a) (Ths.sa s b)
end
section
variable {G:Gp}
theorem Ths.get  : ∀{us } {ds } {i:Nat} {u },Ths G us ds->us[i]?=some u->∃d,ds[i]?=some d/\Th G u d
 |_,_,_,_,.nil,e=>by simp at e
 |_,_,0,_,.cons a _,e=>by simp at e;subst e;exact⟨_,rfl,a⟩
 |_,_,i+1,u,.cons _ b,e=>by
  obtain⟨d,e1,h⟩:=Ths.get (i:=i) (u:=u) b (by simpa using e)
  exact⟨d,by simpa using e1,h⟩
end
noncomputable def kdD  : PyData->String
 |.none => "NoneType"
 |.bool _ => "bool"
 |.int _ => "int"
 |.str _ => "str"
 |.tuple _ => "tuple"
 |.list _ => "list"
 |.dict _ => "dict"
def isD  (d:PyData)(t:String):Bool:=kdD d==t||(kdD d == "bool" && t == "int")
def jpo     (h:Th G u d):tyN u G=some (kdD d):=by
 cases h with
 |lst g _=>unfold tyN;dsimp only;rw[g];rfl
 |dic g=>unfold tyN;dsimp only;rw[g];rfl
 |_=>rfl
def jau       (h:Th G u d)(ht:t∈["bool", "int", "str", "list", "tuple", "dict"]):jhT [u,.ty t] G Q=Q (.bl (isD d t)) G:=by
 unfold jhT isiU;dsimp only;rw[jpo h];dsimp only;rw[if_pos ht];rfl
noncomputable def cmpD  (d:PyData):Bool:=(match d with|.dict []=>true|.tuple _=>true|_=>d.canLay0)&&decide (d.depth<=100)
noncomputable def jdS  : U->Bool
 |.str w=>decide (w = "home")
 |_=>false
def jmL      (h:Th G u d)(hc:cmpD d=true)(q:k (jdS u)):cmpU .Eq u (.str "home") G k:=by
 show eqQ u (.str "home") G k;unfold cmpD at hc;rw[Yaf,decide_eq_true_eq]at hc;cases h with
 |non=>exact q
 |bl b=>exact q
 |int i=>exact q
 |str x=>exact q
 |tup h=>exact q
 |lst g h=>
  refine .inr (.inr ⟨_,_,(Th.lst g h).du,.str _,⟨hc.1,hc.2⟩,⟨by decide +kernel,by decide⟩,?_⟩)
  exact q
 |dic g=>exact .inl ⟨_,g,q⟩
noncomputable def isI  : U->Bool
 |.int _=>true
 |_=>false
noncomputable def inI  (lo hi:Int):U->Bool
 |.int i=>decide (lo<=i)&&decide (i<=hi)
 |_=>false
noncomputable def jaV  (st:List Int):U->Bool
 |.int i=>decide (i∈st)
 |_=>false
noncomputable def wayB  : U->Bool
 |.int i=>decide (i=1)||decide (i=-1)
 |_=>false
def entB  (n:Nat)(st:List Int):U->Bool
 |.tup [w,a,b]=>jdS w&&(jaV st a&&jaV st b)
 |.tup [s,y]=>inI 0 ((n:Int)-1) s&&wayB y
 |_=>false
def entD  : PyData->Bool
 |.tuple ds=>ds.all cmpD
 |_=>true
def jnt  : PyData->Bool
 |.tuple ds=>ds.all entD
 |_=>true
noncomputable def endZ  (ss:List Spn):U->Int×Int
 |.tup [_,.int a,.int b]=>(a,b)
 |.tup [.int s,.int y]=>if y=1 then (((ss.getD s.toNat ⟨"",0,0,0,0⟩).o:Int),((ss.getD s.toNat ⟨"",0,0,0,0⟩).t:Int)) else (((ss.getD s.toNat ⟨"",0,0,0,0⟩).t:Int),((ss.getD s.toNat ⟨"",0,0,0,0⟩).o:Int))
 |_=>(0,0)
noncomputable def prZ  (p:Int×Int):U:=.tup [.int p.1,.int p.2]
def gs07  : T.gs=[.int 60]:=rfl
def ji4      (q:k (decide (i∈st))):inU (.int i) (jai st) G k:=by
 refine⟨rfl,jkp _,?_⟩;rw[joF];exact q

def jeY  (h:Th G u d)(q:Q (.bl (isI u)) G):jab T (k+1) jbR [u] G Q X:=by
 refine⟨rfl,?_⟩;simp! only[jeJ,jad,Yaa,jau h (show "int" ∈ ["bool", "int", "str", "list", "tuple", "dict"] by decide),jau h (show "bool" ∈ ["bool", "int", "str", "list", "tuple", "dict"] by decide)]
 cases h<;>exact q
def jdE   (h:Th G u d)(q:Q (.bl (inI lo hi u)) G):jab T (k+2) jbi [u,.int lo,.int hi] G Q X:=by
 refine⟨rfl,?_⟩;simp! only[jd6,jad,Yaa];refine jeY h ?_;simp! only[];cases h with
 |int i=>
  rw[show isI (.int i)=true from rfl,if_pos rfl];simp! only[];by_cases c:lo<=i
  ·rw[if_pos (decide_eq_true c)];have:inI lo hi (.int i)=decide (i<=hi):=by show(decide (lo<=i)&&_)=_;rw[decide_eq_true c];rfl
   rw[this]at q;exact q
  ·rw[if_neg (by simpa using c)]
   have:inI lo hi (.int i)=false:=by show(decide (lo<=i)&&_)=_;rw[decide_eq_false c];rfl
   rw[this]at q;exact q
 |_=>exact q
def jeo  (h:Th G u d)(q:Q (.bl (jaV st u)) G):jab T (k+2) jbG [jai st,u] G Q X:=by
 refine⟨rfl,?_⟩;simp! only[jdj,jad,Yaa];refine jeY h ?_;simp! only[];cases h with
 |int i=>
  rw[show isI (.int i)=true from rfl,if_pos rfl];simp! only[];exact ji4 q
 |_=>exact q
def and3   : (a&&(b&&c))=true↔a=true/\b=true/\c=true:=by cases a<;>cases b<;>cases c<;>simp
def jke  (h:Th G u d)(hd:entD d=true)(sl:ss.length<=24)(q:Q (.bl (entB ss.length st u)) G):jab T (k+3) jew [jao xs ss,jai st,u] G Q X:=by
 refine⟨rfl,?_⟩;simp! only[jeK,jad,Yaa,jau h (show "tuple" ∈ ["bool", "int", "str", "list", "tuple", "dict"] by decide)]
 cases h with
 |@tup us ds h=>
  rw[show isD (.tuple ds) "tuple" = true from rfl,if_neg (by decide)]
  simp! only[jc9];have hd:ds.all cmpD=true:=hd
  match us,ds,h with
  |[],_,.nil=>
   rw[if_neg (by simp)]
   simp! only[jaM];exact q
  |[x],_,.cons _ .nil=>
   rw[if_neg (by simp)]
   simp! only[jaM];exact q
  |[s,y],[_,_],.cons hs (.cons hy .nil)=>
   rw[if_neg (by simp)]
   simp! only[jaM];simp! only[jc8,jao,ix_t (jaB _ _ _),Yai];refine⟨trivial,jdE (k:=k) hs ?_⟩
   have eq:entB ss.length st (.tup [s,y])=(inI 0 ((ss.length:Int)-1) s&&wayB y):=rfl;rw[eq]at q;simp! only[];cases c:inI 0 ((ss.length:Int)-1) s with
   |false=>rw[if_neg (by decide)];rw[c]at q;exact q
   |true=>
    rw[if_pos rfl];rw[c,YdC]at q;refine jeY (k:=k+1) hy ?_;simp! only[];cases hy with
    |int i=>
     rw[show isI (.int i)=true from rfl,if_pos rfl];simp! only[];refine⟨by decide,rfl,rfl,?_⟩
     have:(List.any [U.int 1,.int (-1)] λy=>eqF y (.int i))=wayB (.int i):=by
      show((1==i)||(((-1:Int)==i)||false))=(decide (i=1)||decide (i=-1));rw[Ybf];simp;lia
     rw[this];exact q
    |_=>exact q
  |[w,x,y],[dw,_,_],.cons hw (.cons hx (.cons hy .nil))=>
   rw[if_pos (by simp)]
   simp! only[];have cw:cmpD dw=true:=by simp only[Ybd,Yaf]at hd;exact hd.1
   refine⟨trivial,jmL hw cw ?_⟩;have eq:entB ss.length st (.tup [w,x,y])=(jdS w&&(jaV st x&&jaV st y)):=rfl;rw[eq]at q;cases c:jdS w with
   |false=>rw[c]at q;exact q
   |true=>
    rw[c,YdC]at q;simp! only[];refine jeo (k:=k) hx ?_;simp! only[];cases c2:jaV st x with
    |false=>rw[c2]at q;exact q
    |true=>
     rw[c2,YdC]at q;rw[if_pos rfl];simp! only[];exact jeo (k:=k) hy q
  |_::_::_::_::r,_,h=>
   rw[if_neg (by simp;lia)]
   simp! only[jaM];rw[if_pos (by simp;lia)]
   simp! only[];exact q
 |non=>exact q
 |bl b=>exact q
 |int i=>exact q
 |str x=>exact q
 |lst g h=>exact q
 |dic g=>exact q
def jcz   (he:entB n st u=true):(∃a b ,u=.tup [.str "home",.int a,.int b]/\a∈st/\b∈st)\/∃(s:Nat) (y:Int),u=.tup [.int s,.int y]/\s<n/\(y=1\/y=-1):=by
 unfold entB at he;split at he
 ·rename_i w a b;rw[and3]at he;obtain⟨h1,h2,h3⟩:=he;cases w<;>try (cases h1;done)
  cases a<;>try (cases h2;done)
  cases b<;>try (cases h3;done)
  rename_i w a b;refine .inl ⟨a,b,?_,of_decide_eq_true h2,of_decide_eq_true h3⟩;rw[of_decide_eq_true h1]
 ·rename_i s y;rw[Yaf]at he;cases s<;>try (cases he.1;done)
  cases y<;>try (cases he.2;done)
  rename_i s y;obtain⟨h1,h2⟩:=he;have h1:(decide (0<=s)&&decide (s<=(n:Int)-1))=true:=h1;have h2:(decide (y=1)||decide (y=-1))=true:=h2;simp only[Yaf,YbD,decide_eq_true_eq]at h1 h2;exact .inr ⟨s.toNat,y,by rw[show((s.toNat:Nat):Int)=s by lia],by lia,h2⟩
 ·cases he
def jnk  {ss: List Spn}(h:s<ss.length):ss[s]?=some (ss.getD s ⟨"",0,0,0,0⟩):=by simp[Yck,h]
def jhJ  (he:entB ss.length st u=true)(q:Q (prZ (endZ ss u)) G):jab T (k+1) jft [jao xs ss,u] G Q X:=by
 refine⟨rfl,?_⟩;rcases jcz he with⟨a,b,rfl,_,_⟩|⟨s,y,rfl,hs,hy⟩
 ·simp! only[jd8,jad,Yaa,ix_t (jaB _ _ _)];rw[if_pos (by decide)]
  simp! only[ix_t (jaB _ _ _)];exact⟨by decide,q⟩
 ·have e:=atM (f:=Spn.u) (jnk hs);simp! only[jd8,jad,Yaa];rw[if_neg (by decide)]
  simp! only[jao,ix_t (jaB _ _ _),ix_t e,Spn.u];refine⟨trivial,trivial,?_⟩;rcases hy with rfl|rfl
  ·rw[if_pos (by decide)]
   exact⟨by decide,q⟩
  ·rw[if_neg (by decide)]
   exact⟨by decide,q⟩

noncomputable def prvZ  (l:List (Int×Int))(i:Nat):Int×Int:=l.getD (if i=0 then l.length-1 else i-1) (0,0)
def fitB  (l:List (Int×Int))(i:Nat):Bool:=decide ((prvZ l i).2=(l.getD i (0,0)).1)
def jcH  (l:List (Int×Int)):Bool:=(YaO l.length).all (fitB l)
def jcl  (ss:List Spn)(st:List Int):U->Bool
 |.tup us=>decide (1<=us.length/\us.length<=60)&&(us.all (entB ss.length st)&&jcH (us.map (endZ ss)))
 |_=>false
def jlc   {i:Nat}(h:i<l.length):atI (l.map prZ) ((i:Int)-1)=some (prZ (prvZ l i)):=by
 suffices h:atI l ((i:Int)-1)=some (prvZ l i) by rw[jcf,h];rfl
 unfold prvZ;by_cases z:i=0
 ·subst z;rw[if_pos rfl];have:atI l (((0:Nat):Int)-1)=l[l.length-1]?:=by
   unfold atI ixN;simp only[show ¬(0:Int)<=((0:Nat):Int)-1 by lia,if_false]
   rw[if_pos (by lia)]
   show l[_]?=_;congr 1
   lia
  rw[this];simp[Yck,YaB (show l.length-1<l.length by lia)]
 ·rw[if_neg z,show(i:Int)-1=((i-1:Nat):Int) by lia]
  refine jbj ?_;simp[Yck,YaB (show i-1<l.length by lia)]
def jld  {l:List (Int×Int)}(h:i<l.length):atI (l.map prZ) (i:Int)=some (prZ (l.getD i (0,0))):=atM (by simp[Yck,h])
def jo3   {bs:List Bool}(g:G a=some (.lst (bs.map .bl)))(q:Q (.bl (bs.all id)) G):allU [.loc a] G Q:=by
 unfold allU;dsimp only;rw[g];have:jed (bs.map .bl)=some bs:=by
  clear g q
  induction bs with
  |nil=>rfl
  |cons b r ih=>rw[YaK,jed,ih]
 dsimp only;rw[this];exact q

def jhH  (h:Th G u d)(hd:jnt d=true)(sl:ss.length<=24)(q:∀G',Sa G G'->Q (.bl (jcl ss st u)) G'):jab T (k+4) jfs [jao xs ss,jai st,u] G Q X:=by
 refine⟨rfl,?_⟩;simp! only[jfI,jad,Yaa,jau h (show "tuple" ∈ ["bool", "int", "str", "list", "tuple", "dict"] by decide)]
 cases h with
 |@tup us ds h=>
  have hd:ds.all entD=true:=hd;rw[show isD (.tuple ds) "tuple" = true from rfl,if_pos rfl];simp! only[gs07,glU];by_cases c1:1<=us.length
  ·rw[if_pos (by simpa using (by lia:(1:Int)<=us.length))]
   by_cases c2:us.length<=60
   ·have e:decide ((us.length:Int)<=60)=true:=decide_eq_true (by lia)
    rw[e,if_neg (by decide)]
    have q:∀G',Sa G G'->Q (.bl (us.all (entB ss.length st)&&jcH (us.map (endZ ss)))) G':=λG' s=>by
     have:=q G' s;have e:jcl ss st (.tup us)=(us.all (entB ss.length st)&&jcH (us.map (endZ ss))):=by
      show(decide (1<=us.length/\us.length<=60)&&_)=_;rw[decide_eq_true ⟨c1,c2⟩];rfl
     rw[e]at this;exact this
    simp! only[jdz];refine⟨Yah c2 (by decide),?_⟩
    refine jav (λi acc G'=>G'=G/\acc=((us.take i).map (entB ss.length st)).map .bl) ?_ ?_ ⟨rfl,rfl⟩
    ·rintro acc G1 ⟨rfl,rfl⟩;rw[Yca];refine⟨trivial,λp G2 n2=>jo3 n2.at ?_⟩;have ea:(us.map (entB ss.length st)).all id=us.all (entB ss.length st):=by rw[List.all_map];rfl
     rw[ea];cases c:us.all (entB ss.length st)with
     |false=>
      have:=q G2 n2.sa;rw[c]at this;exact this
     |true=>
      simp! only[];have he:∀v∈us,entB ss.length st v=true:=Yc1.mp c;simp! only[jdy];refine⟨Yah c2 (by decide),?_⟩
      refine jav (λi acc G'=>G'=G2/\acc=((us.take i).map (endZ ss)).map prZ) ?_ ?_ ⟨rfl,rfl⟩
      ·rintro acc G3 ⟨rfl,rfl⟩;rw[Yca];refine⟨trivial,λp4 G4 n4=>?_⟩;rw[c]at q;have q:∀G',Sa G1 G'->Q (.bl (jcH (us.map (endZ ss)))) G':=q;generalize hl:us.map (endZ ss)=l at n4 q;have ll:l.length=us.length:=by rw[<- hl,Yai]
       have g4:=n4.at
       simp! only[jdx,jgm g4,Yai];refine⟨by lia,by lia,by rw[jaz];exact Yah (show _<=60 by lia) (by decide),?_⟩
       refine jav (λi acc G'=>G'=G4/\acc=((YaO i).map (fitB l)).map .bl) ?_ ?_ ⟨rfl,rfl⟩
       ·rintro acc G5 ⟨rfl,rfl⟩;rw[jaz];refine⟨trivial,λp6 G6 n6=>jo3 n6.at ?_⟩;have:((YaO l.length).map (fitB l)).all id=jcH l:=by unfold jcH;rw[List.all_map];rfl
        rw[this];exact q G6 ((n2.sa.trans n4.sa).trans n6.sa)
       ·rintro i x acc G5 K hx ⟨rfl,rfl⟩ hk _;obtain⟨hi,rfl⟩:=jcP hx;refine⟨trivial,?_⟩;have hi:i<l.length:=by lia
        simp! only[ix_l g4 (jlc hi),ix_l g4 (jld hi),prZ,ix_t (jaB _ _ _),ix_t (jbd _ _)];exact hk _ _ ⟨rfl,by rw[Yed,Yav,Yav];rfl⟩
      ·rintro i x acc G3 K hx ⟨rfl,rfl⟩ hk _;refine⟨trivial,?_⟩;simp! only[];refine jhJ (k:=k+2) (he x (YaI hx)) (hk _ _ ⟨rfl,?_⟩);rw[YbQ,hx];simp
    ·rintro i x acc G1 K hx ⟨rfl,rfl⟩ hk _;refine⟨trivial,?_⟩;obtain⟨dx,ex,hx'⟩:=h.get hx;simp! only[];refine jke (k:=k) hx' (Yc1.mp hd dx (YaI ex)) sl (hk _ _ ⟨rfl,?_⟩);rw[YbQ,hx];simp
   ·have e:decide ((us.length:Int)<=60)=false:=decide_eq_false (by lia)
    rw[e,if_pos (by decide)]
    simp! only[];have e:jcl ss st (.tup us)=false:=by
     show(decide (1<=us.length/\us.length<=60)&&_)=_;rw[decide_eq_false (by lia)];rfl
    have:=q G Sa.refl;rw[e]at this;exact this
  ·rw[if_neg (by simp;lia),if_pos (by decide)]
   simp! only[];have e:jcl ss st (.tup us)=false:=by
    show(decide (1<=us.length/\us.length<=60)&&_)=_;rw[decide_eq_false (by lia)];rfl
   have:=q G Sa.refl;rw[e]at this;exact this
 |non=>exact q G Sa.refl
 |bl b=>exact q G Sa.refl
 |int i=>exact q G Sa.refl
 |str x=>exact q G Sa.refl
 |lst g h=>exact q G Sa.refl
 |dic g=>exact q G Sa.refl
def jbD   (h:Th G u d)(q:Q (.bl (inI lo hi u)) G):jab T (k+1) jaE [u,.int lo,.int hi] G Q X:=by
 refine⟨rfl,?_⟩;simp! only[jd2,jad,Yaa,jau h (show "int" ∈ ["bool", "int", "str", "list", "tuple", "dict"] by decide),jau h (show "bool" ∈ ["bool", "int", "str", "list", "tuple", "dict"] by decide)]
 cases h with
 |int i=>
  rw[show isD (.int i) "int" = true from rfl,if_pos rfl,show isD (.int i) "bool" = false from rfl,if_pos (by decide)]
  simp! only[];by_cases c:lo<=i
  ·rw[if_pos (decide_eq_true c)];have:inI lo hi (.int i)=decide (i<=hi):=by show(decide (lo<=i)&&_)=_;rw[decide_eq_true c];rfl
   rw[this]at q;exact q
  ·rw[if_neg (by simpa using c)]
   have:inI lo hi (.int i)=false:=by show(decide (lo<=i)&&_)=_;rw[decide_eq_false c];rfl
   rw[this]at q;exact q
 |_=>exact q
def jhY  (ss:List Spn)(st:List Int)(u:U):U:=if entB ss.length st u=true then prZ (endZ ss u) else .non
def jli  (hs:∀z∈st,0<=z/\z<=7) v:(inI 0 7 v&&jaV st v)=jaV st v:=by
 cases v with
 |int i=>
  show((decide (0<=i)&&decide (i<=7))&&decide (i∈st))=decide (i∈st);by_cases c:i∈st
  ·have:=hs i c;rw[decide_eq_true c,decide_eq_true this.1,decide_eq_true this.2];rfl
  ·rw[decide_eq_false c];simp
 |_=>rfl
def jj6    {K:Option U->Gp->Prop}(hv:Th G v dv)(hs:∀z∈st,0<=z/\z<=7)(hK:K (some (.bl (jaV st v))) G) :
  jab T (k+1) jaE [v,.int 0,.int 7] G (λx G1=>truU x G1 λc=>if c=true then inU v (jai st) G1 λc=>K (some (.bl c)) G1 else K (some x) G1) (λ_ _=>False):=by
 refine jbD (k:=k) hv ?_;show(if inI 0 7 v=true then _ else _)
 have e:=jli hs v;cases c:inI 0 7 v with
 |true=>
  rw[if_pos rfl];cases hv<;>first|(cases c;done)|exact ji4 hK
 |false=>
  rw[if_neg (by decide)]
  rw[c,Bool.false_and]at e;rw[<- e]at hK;exact hK
def in23   {kk:Bool->Prop}(h2:n≠2)(h3:n≠3)(q:kk false):inU (.int n) (.tup [.int 2,.int 3]) G kk:=by
 refine⟨rfl,rfl,?_⟩;have:(List.any [U.int 2,.int 3] λy=>eqF y (.int n))=false:=by
  show(((2:Int)==n)||(((3:Int)==n)||false))=false;simp;lia
 rw[this];exact q
def jme  (h:Th G u d)(hs:∀z∈st,0<=z/\z<=7)(sl:ss.length<=24)(q:∀G',Sa G G'->Q (jhY ss st u) G'):jab T (k+2) jet [jao xs ss,jai st,u] G Q X:=by
 refine⟨rfl,?_⟩;simp! only[jeF,jad,Yaa,jau h (show "tuple" ∈ ["bool", "int", "str", "list", "tuple", "dict"] by decide)]
 cases h with
 |@tup us ds h=>
  rw[show isD (.tuple ds) "tuple" = true from rfl,if_neg (by decide)]
  match us,ds,h with
  |[],_,.nil=>
   refine⟨by decide,rfl,rfl,?_⟩
   exact q G Sa.refl
  |[x],_,.cons _ .nil=>
   refine⟨by decide,rfl,rfl,?_⟩
   exact q G Sa.refl
  |[s,y],[_,_],.cons hs' (.cons hy .nil)=>
   refine⟨by decide,rfl,rfl,?_⟩
   have q:∀G',Sa G G'->Q (if (inI 0 ((ss.length:Int)-1) s&&wayB y)=true then prZ (endZ ss (.tup [s,y])) else .non) G':=q
   simp! only[jbz];rw[if_neg (by decide),if_neg (by simp)]
   simp! only[jc3,ix_t (jbd _ _),ix_t (jaB _ _ _),jao,Yai];refine jbD (k:=k) hs' ?_;simp! only[];cases c:inI 0 ((ss.length:Int)-1) s with
   |false=>rw[if_pos (by decide)];simp! only[];have:=q G Sa.refl;rw[c]at this;exact this
   |true=>
    rw[if_neg (by decide)]
    rw[c]at q;simp! only[ix_t (jaB _ _ _)];refine jbD (k:=k) hy ?_;simp! only[];cases hy with
    |int y=>
     cases s with
     |int s=>
      have hr:0<=s/\s<=(ss.length:Int)-1:=by
       have:(decide (0<=s)&&decide (s<=(ss.length:Int)-1))=true:=c;simpa using this
      obtain⟨n,rfl⟩:=Yaz hr.1;have e:=atM (f:=Spn.u) (jnk (ss:=ss) (s:=n) (by lia))
      have fin:∀y:Int,(y=1\/y=-1)->jal T.gs (jab T (k+1)) ja8 ⟨λ_ G'=>Q .non G',Q,λx _ G'=>X x G'⟩ [some (jao xs ss),some (jai st),some (.tup [.int n,.int y]),none] G->Q (prZ (endZ ss (.tup [.int n,.int y]))) G->True:=λ_ _ _ _=>trivial;have w:wayB (.int y)=(decide (y=1)||decide (y=-1)):=rfl;have i1:inI (-1) 1 (.int y)=(decide (-1<=y)&&decide (y<=1)):=rfl;by_cases c1:y=1
      ·subst c1;rw[show inI (-1) 1 (.int 1)=true from rfl,if_neg (by decide)]
       simp! only[ix_t (jaB _ _ _)];rw[if_neg (by decide)]
       simp! only[ja8,jao,ix_t (jaB _ _ _),ix_t (jbd _ _),ix_t e,Spn.u];rw[if_pos (by decide)]
       simp! only[ix_t (jaB _ _ _),ix_t (jh3 _ _ _ _)];exact⟨by decide,q G Sa.refl⟩
      ·by_cases c2:y=-1
       ·subst c2;rw[show inI (-1) 1 (.int (-1))=true from rfl,if_neg (by decide)]
        simp! only[ix_t (jaB _ _ _)];rw[if_neg (by decide)]
        simp! only[ja8,jao,ix_t (jaB _ _ _),ix_t (jbd _ _),ix_t e,Spn.u];rw[if_neg (by decide)]
        simp! only[ix_t (jaB _ _ _),ix_t (jh3 _ _ _ _)];exact⟨by decide,q G Sa.refl⟩
       ·have q:=q G Sa.refl;rw[w,decide_eq_false c1,decide_eq_false c2]at q;by_cases c3:y=0
        ·subst c3;rw[show inI (-1) 1 (.int 0)=true from rfl,if_neg (by decide)]
         simp! only[ix_t (jaB _ _ _)];exact q
        ·have:inI (-1) 1 (.int y)=false:=by rw[i1];simp;lia
         rw[this,if_pos (by decide)]
         simp! only[];exact q
     |_=>cases c
    |_=>rw[if_pos (by rfl)];simp! only[];exact q G Sa.refl
  |[w,x,y],[dw,_,_],.cons hw (.cons hx (.cons hy .nil))=>
   refine⟨by decide,rfl,rfl,?_⟩
   have q:∀G',Sa G G'->Q (if (jdS w&&(jaV st x&&jaV st y))=true then prZ (endZ ss (.tup [w,x,y])) else .non) G':=q
   simp! only[jbz];rw[if_neg (by decide),if_pos (by simp)]
   simp! only[ix_t (jbd _ _),jau hw (show "str" ∈ ["bool", "int", "str", "list", "tuple", "dict"] by decide)]
   cases hw with
   |str w=>
    rw[show isD (.str w) "str" = true from rfl,if_neg (by decide)]
    simp! only[ix_t (jbd _ _)];by_cases c:w = "home"
    ·subst c;rw[show jdS (.str "home")=true from rfl,YdC]at q;rw[if_neg (by simp)]
     simp! only[];have ec:cut [U.str "home",x,y] (some 1) none=[x,y]:=jds [U.str "home",x,y] 1;rw[ec];refine⟨show 2<=Yag by decide,?_⟩
     have hxy:Ths G [x,y] _:=.cons hx (.cons hy .nil);refine jav (λi acc G'=>G'=G/\acc=([x,y].take i).map λv=>.bl (jaV st v)) ?_ ?_ ⟨rfl,rfl⟩
     ·rintro acc G1 ⟨rfl,rfl⟩;refine⟨trivial,λp G2 n2=>?_⟩;have g2:G2 p=some (.lst [.bl (jaV st x),.bl (jaV st y)]):=n2.at
      refine in_l g2 rfl rfl ?_;have ea:(List.any [U.bl (jaV st x),.bl (jaV st y)] λz=>eqF z (.bl false)) = !(jaV st x&&jaV st y):=by
       show((jaV st x==false)||((jaV st y==false)||false))=_;cases jaV st x<;>cases jaV st y<;>rfl
      rw[ea];cases c2:(jaV st x&&jaV st y)with
      |false=>
       rw[c2]at q;exact q G2 n2.sa
      |true=>
       rw[c2]at q;rw[if_neg (by decide)]
       rw[Yaf]at c2;obtain⟨w1,w2⟩:=c2;cases hx<;>try (cases w1;done)
       cases hy<;>try (cases w2;done)
       exact q G2 n2.sa
     ·rintro i v acc G1 K hv ⟨rfl,rfl⟩ hk _;obtain⟨dv,_,tv⟩:=hxy.get hv;refine⟨trivial,jj6 tv hs (hk _ _ ⟨rfl,?_⟩)⟩;rw[YbQ,hv,Yav];rfl
    ·rw[if_pos (by simpa using c)]
     simp! only[];have:=q G Sa.refl;rw[show jdS (.str w)=decide (w = "home")from rfl,decide_eq_false c]at this;exact this
   |_=>exact q G Sa.refl
  |_::_::_::_::r,_,h=>
   simp! only[];refine⟨by decide,in23 (by simp;lia) (by simp;lia) ?_⟩
   exact q G Sa.refl
 |non=>exact q G Sa.refl
 |bl b=>exact q G Sa.refl
 |int i=>exact q G Sa.refl
 |str x=>exact q G Sa.refl
 |lst g h=>exact q G Sa.refl
 |dic g=>exact q G Sa.refl

def jgB  (ss:List Spn)(st:List Int)(u:U):PyData:=if entB ss.length st u=true then .tuple [.int (endZ ss u).1,.int (endZ ss u).2] else .none
theorem jji     : ∀us:List U,DUs G (us.map (jhY ss st)) (us.map (jgB ss st))
 |[]=>.nil
 |u::r=>by
  refine .cons ?_ (jji r);unfold jhY jgB;split
  ·exact .tup (.cons (.int _) (.cons (.int _) .nil))
  ·exact .non
def jhX     u:Small (jgB ss st u):=by
 unfold jgB;split
 ·exact⟨rfl,by show max 0 (max 0 0)+1<=100;decide⟩
 ·exact⟨rfl,by decide⟩
def jmj      {us:List U}{kk:Bool->Prop}(g:G p=some (.lst (us.map (jhY ss st))))(q:kk (!us.all (entB ss.length st))):inU .non (.loc p) G kk:=by
 unfold inU;dsimp only;rw[g];refine .inr ⟨.none,us.map (jgB ss st),.non,jji us,⟨rfl,by decide⟩,λe he=>?_,?_⟩
 ·obtain⟨v,_,rfl⟩:=List.mem_map.mp he;exact jhX v
 ·have:(us.map (jgB ss st)).any (λe=>YaR e .none) = !us.all (entB ss.length st):=by
   clear g q
   induction us with
   |nil=>rfl
   |cons v r ih=>
    rw[YaK,Ybc,Ybd,ih,Bool.not_and];congr 1;unfold jgB;cases entB ss.length st v<;>rfl
  rw[this];exact q

def jkb  (h:Th G u d)(hs:∀z∈st,0<=z/\z<=7)(sl:ss.length<=24)(q:∀G',Sa G G'->Q (.bl (jcl ss st u)) G'):jab T (k+3) jct [jao xs ss,jai st,u] G Q X:=by
 refine⟨rfl,?_⟩;simp! only[jcE,jad,Yaa,jau h (show "tuple" ∈ ["bool", "int", "str", "list", "tuple", "dict"] by decide)]
 cases h with
 |@tup us ds h=>
  rw[show isD (.tuple ds) "tuple" = true from rfl,if_neg (by decide)]
  simp! only[];by_cases c1:1<=us.length
  ·rw[if_pos (by simpa using (by lia:(1:Int)<=us.length))]
   by_cases c2:us.length<=60
   ·have e:decide ((us.length:Int)<=60)=true:=decide_eq_true (by lia)
    rw[e,if_neg (by decide)]
    have q:∀G',Sa G G'->Q (.bl (us.all (entB ss.length st)&&jcH (us.map (endZ ss)))) G':=λG' s=>by
     have:=q G' s;have e:jcl ss st (.tup us)=(us.all (entB ss.length st)&&jcH (us.map (endZ ss))):=by
      show(decide (1<=us.length/\us.length<=60)&&_)=_;rw[decide_eq_true ⟨c1,c2⟩];rfl
     rw[e]at this;exact this
    simp! only[jby];refine⟨Yah c2 (by decide),?_⟩
    refine jav (λi acc G'=>Sa G G'/\acc=(us.take i).map (jhY ss st)) ?_ ?_ ⟨Sa.refl,rfl⟩
    ·rintro acc G1 ⟨s1,rfl⟩;rw[Yca];refine⟨trivial,λp G2 n2=>?_⟩;simp! only[jbx];refine jmj n2.at ?_;cases c:us.all (entB ss.length st)with
     |false=>
      have:=q G2 (s1.trans n2.sa);rw[c]at this;exact this
     |true=>
      rw[if_neg (by decide)]
      rw[c]at q;have q:∀G',Sa G G'->Q (.bl (jcH (us.map (endZ ss)))) G':=q;have he:∀v∈us,entB ss.length st v=true:=Yc1.mp c;have eu:us.map (jhY ss st)=(us.map (endZ ss)).map prZ:=by
       rw[Ycv];refine Ycd λv hv=>?_;show(if entB ss.length st v=true then _ else _)=_
       rw[if_pos (he v hv)];rfl
      have g2:=n2.at
      rw[eu]at g2;generalize hl:us.map (endZ ss)=l at g2 q;have ll:l.length=us.length:=by rw[<- hl,Yai]
      simp! only[jbw,jgm g2,Yai];refine⟨by lia,by lia,by rw[jaz];exact Yah (show _<=60 by lia) (by decide),?_⟩
      refine jav (λi acc G'=>G'=G2/\acc=((YaO i).filter λj=>!fitB l j).map λ(j:Nat)=>U.int (j:Int)) ?_ ?_ ⟨rfl,rfl⟩
      ·rintro acc G3 ⟨rfl,rfl⟩;rw[jaz];refine⟨trivial,λp4 G4 n4=>⟨by decide,λp5 G5 n5=>?_⟩⟩
       simp! only[];refine joO (n:=0) (n5.sa _ _ n4.at) n5.at (λu hu=>?_) (by decide) ?_
       ·obtain⟨j,_,rfl⟩:=List.mem_map.mp hu;exact Sml.int _
       ·have e:(((YaO l.length).filter λj=>!fitB l j).map λ(j:Nat)=>U.int (j:Int)).isEmpty=jcH l:=by
         unfold jcH;rw[Ybf,YfS,List.map_eq_nil_iff,List.filter_eq_nil_iff,Yc1];exact forall_congr' λj=>forall_congr' λ_=>by simp
        rw[e];exact q G5 (((s1.trans n2.sa).trans n4.sa).trans n5.sa)
      ·rintro i x acc G3 K hx ⟨rfl,rfl⟩ hk hn;obtain⟨hi,rfl⟩:=jcP hx;have hi:i<l.length:=by lia
       refine⟨trivial,?_⟩;simp! only[ix_l g2 (jlc hi),ix_l g2 (jld hi),prZ,ix_t (jaB _ _ _),ix_t (jbd _ _)];have ef:fitB l i=decide ((prvZ l i).2=(l.getD i (0,0)).1):=rfl;have er:(YaO (i+1)).filter (λj=>!fitB l j)=(YaO i).filter (λj=>!fitB l j)++if fitB l i=true then [] else [i]:=by
        rw[Yed,List.filter_append];cases c:fitB l i<;>simp[c]
       rw[<- ef];cases c:fitB l i with
       |true=>
        rw[c,if_pos rfl,Ya7]at er;rw[if_neg (by decide)]
        exact hn _ ⟨rfl,by rw[er]⟩
       |false=>
        rw[c,if_neg (by decide)]at er
        rw[if_pos (by decide)]
        exact hk _ _ ⟨rfl,by rw[er,Yav];rfl⟩
    ·rintro i x acc G1 K hx ⟨s1,rfl⟩ hk _;refine⟨trivial,?_⟩;obtain⟨dx,ex,hx'⟩:=h.get hx;simp! only[];refine jme (k:=k) (hx'.sa s1) hs sl λG2 s2=>hk _ _ ⟨s1.trans s2,?_⟩;rw[YbQ,hx,Yav];rfl
   ·have e:decide ((us.length:Int)<=60)=false:=decide_eq_false (by lia)
    rw[e,if_pos (by decide)]
    simp! only[];have e:jcl ss st (.tup us)=false:=by
     show(decide (1<=us.length/\us.length<=60)&&_)=_;rw[decide_eq_false (by lia)];rfl
    have:=q G Sa.refl;rw[e]at this;exact this
  ·rw[if_neg (by simp;lia),if_pos (by decide)]
   simp! only[];have e:jcl ss st (.tup us)=false:=by
    show(decide (1<=us.length/\us.length<=60)&&_)=_;rw[decide_eq_false (by lia)];rfl
   have:=q G Sa.refl;rw[e]at this;exact this
 |non=>exact q G Sa.refl
 |bl b=>exact q G Sa.refl
 |int i=>exact q G Sa.refl
 |str x=>exact q G Sa.refl
 |lst g h=>exact q G Sa.refl
 |dic g=>exact q G Sa.refl

mutual
noncomputable def gdD (y:Bool)(B:Nat):PyData->Bool
 |.str x=>x.cps.all (·< 128)
 |.int i=>decide (i.natAbs<B)
 |.tuple ds=>gdDs y B ds
 |.list ds=>gdDs true B ds
 |.dict kvs=>!y&&kvs.isEmpty
 |_=>true
noncomputable def gdDs (y:Bool)(B:Nat):List PyData->Bool
 |[]=>true
 |d::ds=>gdD y B d&&gdDs y B ds
end
mutual
theorem jk3 {y:Bool}{B C:Nat}(h:B<=C):∀{d:PyData},gdD y B d=true->gdD y C d=true
 |.str _,q=>q
 |.int i,q=>decide_eq_true (Yan (of_decide_eq_true (show decide (i.natAbs<B)=true from q)) h)
 |.tuple _,q=>je4 h (show gdDs y B _=true from q)
 |.list _,q=>je4 h (show gdDs true B _=true from q)
 |.dict _,q=>q
 |.none,_=>rfl
 |.bool _,_=>rfl
theorem je4 {y:Bool}{B C:Nat}(h:B<=C):∀{ds:List PyData},gdDs y B ds=true->gdDs y C ds=true
 |[],_=>rfl
 |d::ds,q=>by
  have q:(gdD y B d&&gdDs y B ds)=true:=q
  rw[Yaf]at q
  show(gdD y C d&&gdDs y C ds)=true
  rw[jk3 h q.1,je4 h q.2];rfl
end
mutual
theorem jjb {y:Bool}{B:Nat}:∀{d:PyData},gdD true B d=true->gdD y B d=true
 |.str _,q=>q
 |.int _,q=>q
 |.tuple _,q=>je5 (show gdDs true B _=true from q)
 |.list _,q=>q
 |.dict kvs,q=>nomatch (show(!true&&kvs.isEmpty)=true from q)
 |.none,_=>rfl
 |.bool _,_=>rfl
theorem je5 {y:Bool}{B:Nat}:∀{ds:List PyData},gdDs true B ds=true->gdDs y B ds=true
 |[],_=>rfl
 |d::ds,q=>by
  have q:(gdD true B d&&gdDs true B ds)=true:=q
  rw[Yaf]at q
  show(gdD y B d&&gdDs y B ds)=true
  rw[jjb q.1,je5 q.2];rfl
end
mutual
theorem jfD {B:Nat}:∀{d:PyData},gdD true B d=true->d.canLay0=true
 |.str x,q=>by
  have q:x.cps.all (·< 128)=true:=q
  rw[<- Ycy,Yc1]at q
  show x.cps.all (λc=>decide (c<1114112))=true
  rw[<- Ycy]
  exact Yc1.mpr λc hc=>decide_eq_true (YdV (of_decide_eq_true (q c hc)) (by decide))
 |.int _,_=>rfl
 |.tuple _,q=>jgv (show gdDs true B _=true from q)
 |.list _,q=>jgv (show gdDs true B _=true from q)
 |.dict kvs,q=>nomatch (show(!true&&kvs.isEmpty)=true from q)
 |.none,_=>rfl
 |.bool _,_=>rfl
theorem jgv {B:Nat}:∀{ds:List PyData},gdDs true B ds=true->YcM ds=true
 |[],_=>rfl
 |d::ds,q=>by
  have q:(gdD true B d&&gdDs true B ds)=true:=q
  rw[Yaf]at q
  show(d.canLay0&&YcM ds)=true
  rw[jfD q.1,jgv q.2];rfl
end
mutual
noncomputable def szD:PyData->Nat
 |.str x=>10*x.length+2
 |.int _=>50
 |.tuple ds=>szDs ds+3
 |.list ds=>szDs ds+3
 |_=>5
noncomputable def szDs:List PyData->Nat
 |[]=>0
 |d::ds=>szD d+2+szDs ds
end
def jhq  {z:Str}(h:∀c∈z.cps.toList,c<128):z.cps.all (·< 128)=true:=by
 rw[<- Ycy];exact Yc1.mpr λc hc=>decide_eq_true (h c hc)
def ji3   (h:i.natAbs<10 ^ 40):(PyData.int i).showable=true/\(PyData.int i).shown.length<=50:=by
 have hl:i.natAbs.log2<1920:=by
  by_cases z:i.natAbs=0
  ·rw[z];decide
  ·exact Yan ((Nat.log2_lt z).mpr (Yan h (by decide:10 ^ 40<=2 ^ 140))) (by decide)
 refine⟨by simp[YcB,hl],?_⟩
 simp only[Yb9];have:=int_text_length_le10 (a:=i) (k:=40) (by decide) h
 show(PySem.Str.ofString (toString i)).length<=50;rw[ofString_length]
 lia
mutual
theorem jjJ {y:Bool}{B:Nat}(hB:B<=10 ^ 40):∀{d:PyData},gdD y B d=true->d.showable=true/\d.shown.length<=szD d
 |.none,_=>⟨rfl,by decide +kernel⟩
 |.bool b,_=>⟨rfl,by cases b<;>decide +kernel⟩
 |.int i,h=>ji3 (Yan (of_decide_eq_true (show decide (i.natAbs<B)=true from h)) hB)
 |.str x,h=>by
  have h:x.cps.all (·< 128)=true:=h
  rw[<- Ycy,Yc1]at h
  refine⟨rfl,?_⟩
  simp only[Yb9]
  exact Yah (StrLaws.reprText_len x λc hc=>YdV (of_decide_eq_true (h c hc)) (by decide)) (by show _<=10*x.length+2;lia)
 |.tuple ds,h=>by
  obtain⟨h1,h2⟩:=jie hB (show gdDs y B ds=true from h)
  refine⟨by simp only[YcB];exact h1,?_⟩
  simp only[Yb9]
  have hp:=jmv (YcA ds)
  have z:∀b:Bool,((((if b=true then ",)" else ")"):String):Str)).length<=2:=by decide
  have z:=z ((YcA ds).length==1)
  have one:(("(" : String):Str).length=1:=rfl
  simp only[tupleText,Yfm]at z ⊢
  show _<=szDs ds+3
  lia
 |.list ds,h=>by
  obtain⟨h1,h2⟩:=jie (y:=true) hB (show gdDs true B ds=true from h)
  refine⟨by simp only[YcB];exact h1,?_⟩
  simp only[Yb9]
  have hp:=jdu (YcA ds) 0 "["
  have one:(("[" : String):Str).length=1/\(("]" : String):Str).length=1:=⟨rfl,rfl⟩
  simp only[listText,Yfm]
  show _<=szDs ds+3
  lia
 |.dict kvs,h=>by
  have h:(!y&&kvs.isEmpty)=true:=h
  rw[Yaf]at h
  have:kvs=[]:=YfS.mp h.2
  subst this
  exact⟨rfl,by decide +kernel⟩
theorem jie {y:Bool}{B:Nat}(hB:B<=10 ^ 40):∀{ds:List PyData},gdDs y B ds=true->Ye8 ds=true/\piled (YcA ds)<=szDs ds
 |[],_=>⟨rfl,Yab _⟩
 |d::ds,h=>by
  have h:(gdD y B d&&gdDs y B ds)=true:=h
  rw[Yaf]at h
  obtain⟨a1,a2⟩:=jjJ hB h.1
  obtain⟨b1,b2⟩:=jie hB h.2
  refine⟨?_,?_⟩
  ·show(d.showable&&Ye8 ds)=true
   rw[a1,b1];rfl
  ·rw[YcA,piled_cons]
   show _<=szD d+2+szDs ds
   lia
end
noncomputable def mk  (p:Addr)(G:Gp):Gp:=λa=>if a=p then none else G a
def jhM    (h:a≠p):mk p G a=G a:=if_neg h
def jki     (h:mk p G a=some o):a≠p/\G a=some o:=by
 unfold mk at h;split at h
 ·cases h
 ·rename_i z;exact⟨z,h⟩
mutual
theorem Th.ext {G G':Gp}(e:∀a o,G a=some o->((∃us,o=.lst us)\/o=.dK [])->G' a=some o):∀{u:U} {d:PyData},Th G u d->Th G' u d
 |_,_,.non=>.non
 |_,_,.bl b=>.bl b
 |_,_,.int i=>.int i
 |_,_,.str x=>.str x
 |_,_,.tup h=>.tup (Ths.ext e h)
 |_,_,.lst g h=>.lst (e _ _ g (.inl ⟨_,rfl⟩)) (Ths.ext e h)
 |_,_,.dic g=>.dic (e _ _ g (.inr rfl))
theorem Ths.ext {G G':Gp}(e:∀a o,G a=some o->((∃us,o=.lst us)\/o=.dK [])->G' a=some o):∀{us:List U} {ds:List PyData},Ths G us ds->Ths G' us ds
 |_,_,.nil=>.nil
 |_,_,.cons a b=>.cons (Th.ext e a) (Ths.ext e b)
end
def joi    (s:Sa G G'):∀a o,mk p G a=some o->((∃us,o=.lst us)\/o=.dK [])->mk p G' a=some o:=λa o h _=>by
 obtain⟨h1,h2⟩:=jki h;rw[jhM h1];exact s _ _ h2
def jhL    (hf:Fd G f c)(s:Sm f G G'):∀a o,mk p G a=some o->((∃us,o=.lst us)\/o=.dK [])->mk p G' a=some o:=λa o h q=>by
 obtain⟨h1,h2⟩:=jki h;rw[jhM h1];refine s _ _ (λe=>?_) h2;obtain⟨ns,x,y,z,g1,_⟩:=hf.ex;rw[e,g1]at h2;rcases q with⟨us,rfl⟩|rfl<;>cases h2
def jhK    : ∀a o,mk p G a=some o->((∃us,o=.lst us)\/o=.dK [])->G a=some o:=λa o h _=>(jki h).2
def jfp     (n:New G q o G')(h:G p≠none):q≠p:=λe=>h (e ▸ n.no)
def jik    (s:Sm f G G')(hpf:p≠f)(h:G p≠none):G' p≠none:=λe=>by
 cases g:G p with
 |none=>exact h g
 |some o=>rw[s _ _ hpf g]at e;cases e
structure Td (y:Bool)(G:Gp)(B N n:Nat)(u:U):Prop where
 ex:∃d,Th G u d/\gdD y B d=true/\d.depth<=n/\szD d<=N
structure Tds (y:Bool)(G:Gp)(B S n:Nat)(us:List U):Prop where
 ex:∃ds,Ths G us ds/\gdDs y B ds=true/\Ybb ds<=n/\szDs ds<=S
section
variable {G G':Gp}{B B' N N' S S' n n':Nat}{u:U}{us vs:List U}{f c:Addr}{y:Bool}
def Td.ext (h:Td y G B N n u)(e:∀a o,G a=some o->((∃us,o=.lst us)\/o=.dK [])->G' a=some o):Td y G' B N n u:=let ⟨d,a,b⟩:=h.ex;⟨d,a.ext e,b⟩
def Tds.ext  (h:Tds y G B S n us)(e:∀a o,G a=some o->((∃us,o=.lst us)\/o=.dK [])->G' a=some o):Tds y G' B S n us:=let ⟨d,a,b⟩:=h.ex;⟨d,a.ext e,b⟩
def Td.any  (h:Td true G B N n u):Td y G B N n u:=let ⟨d,a,b,c⟩:=h.ex;⟨d,a,jjb b,c⟩
def Tds.any  (h:Tds true G B S n us):Tds y G B S n us:=let ⟨d,a,b,c⟩:=h.ex;⟨d,a,je5 b,c⟩
def Td.sa  (h:Td y G B N n u)(s:Sa G G'):Td y G' B N n u:=let ⟨d,a,b⟩:=h.ex;⟨d,a.sa s,b⟩
def Td.sm  (h:Td y G B N n u)(hf:Fd G f c)(s:Sm f G G'):Td y G' B N n u:=let ⟨d,a,b⟩:=h.ex;⟨d,a.mono hf s,b⟩
def Td.up  (h:Td y G B N n u)(h1:B<=B')(h2:N<=N')(h3:n<=n'):Td y G B' N' n' u:=let ⟨d,a,b,c,e⟩:=h.ex;⟨d,a,jk3 h1 b,Yah c h3,Yah e h2⟩
def Tds.up  (h:Tds y G B S n us)(h1:B<=B')(h2:S<=S')(h3:n<=n'):Tds y G B' S' n' us:=let ⟨d,a,b,c,e⟩:=h.ex;⟨d,a,je4 h1 b,Yah c h3,Yah e h2⟩
def Tds.nil  : Tds y G B 0 n []:=⟨[],.nil,rfl,Ya8 _,Yab _⟩
def Tds.cons  (h:Td y G B N n u)(hs:Tds y G B S n us):Tds y G B (N+2+S) n (u::us):=by
 obtain⟨d,a1,a2,a3,a4⟩:=h.ex;obtain⟨ds,b1,b2,b3,b4⟩:=hs.ex;refine⟨d::ds,.cons a1 b1,?_,Nat.max_le.mpr ⟨a3,b3⟩,by show szD d+2+szDs ds<=_;lia⟩
 show(gdD y B d&&gdDs y B ds)=true;rw[a2,b2];rfl
def Tds.one  (h:Td y G B N n u):Tds y G B (N+2) n [u]:=h.ex.elim λ_ _=>Tds.cons h Tds.nil
def Tds.uncons  (h:Tds y G B S n (u::us)):∃N S',Td y G B N n u/\Tds y G B S' n us/\N+2+S'<=S:=by
 obtain⟨ds,b1,b2,b3,b4⟩:=h.ex;cases b1 with
 |@cons _ d _ ds a b=>
  have b2:(gdD y B d&&gdDs y B ds)=true:=b2;rw[Yaf]at b2;have b3:max d.depth (Ybb ds)<=n:=b3;have b4:szD d+2+szDs ds<=S:=b4;exact⟨_,_,⟨d,a,b2.1,(Nat.max_le.mp b3).1,Yab _⟩,⟨ds,b,b2.2,(Nat.max_le.mp b3).2,Yab _⟩,b4⟩
theorem Tds.app  : ∀{us } {S S' },Tds y G B S n us->Tds y G B S' n vs->Tds y G B (S+S') n (us++vs)
 |[],_,_,_,h=>h.up (Yab _) (Nat.le_add_left _ _) (Yab _)
 |u::us,S,S',h,h'=>by
  obtain⟨N,S1,a,b,e⟩:=h.uncons;exact(Tds.cons a (Tds.app b h')).up (Yab _) (by lia) (Yab _)
theorem Tds.split  : ∀{us } {S },Tds y G B S n (us++vs)->∃S1 S2,Tds y G B S1 n us/\Tds y G B S2 n vs/\S1+S2<=S
 |[],S,h=>⟨0,S,.nil,h,by lia⟩
 |u::us,S,h=>by
  obtain⟨N,S1,a,b,e⟩:=Tds.uncons (us:=us++vs) h;obtain⟨S2,S3,b1,b2,e2⟩:=Tds.split b;exact⟨_,S3,.cons a b1,b2,by lia⟩
theorem Tds.rev  : ∀{us } {S },Tds y G B S n us->Tds y G B S n us.reverse
 |[],_,h=>h
 |u::us,S,h=>by
  obtain⟨N,S1,a,b,e⟩:=h.uncons;rw[Ycp];exact((Tds.rev b).app (Tds.one a)).up (Yab _) (by lia) (Yab _)
theorem Tds.len  : ∀{us } {S },Tds y G B S n us->us.length<=S
 |[],_,_=>Ya8 _
 |v::us,S,h=>by
  obtain⟨N,S1,a,b,e⟩:=h.uncons;have:=Tds.len b;rw[YaJ];lia
def Tds.tup  (h:Tds y G B S n us):Td y G B (S+3) (n+1) (.tup us):=let ⟨ds,b1,b2,b3,b4⟩:=h.ex;⟨.tuple ds,.tup b1,b2,Yd9 b3,Ydj b4 3⟩
def Tds.lst   (g:G a=some (.lst us))(h:Tds true G B S n us):Td y G B (S+3) (n+1) (.loc a):=let ⟨ds,b1,b2,b3,b4⟩:=h.ex;⟨.list ds,.lst g b1,b2,Yd9 b3,Ydj b4 3⟩
def Td.untup  (h:Td y G B N n (.tup us)):∃m S,n=m+1/\N=S+3/\Tds y G B S m us:=by
 obtain⟨d,a,b,c,e⟩:=h.ex;cases a with
 |@tup _ ds a=>
  have c:Ybb ds+1<=n:=c;have e:szDs ds+3<=N:=e;exact⟨n-1,N-3,by lia,by lia,ds,a,b,by lia,by lia⟩
def Td.non  (h:5<=N):Td y G B N n .non:=⟨_,.non,rfl,Ya8 _,h⟩
def Td.bl   b (h:5<=N):Td y G B N n (.bl b):=⟨_,.bl b,rfl,Ya8 _,h⟩
def Td.int   (h:i.natAbs<B)(hN:50<=N):Td y G B N n (.int i):=⟨_,.int i,decide_eq_true h,Ya8 _,hN⟩
def Td.str  {x:Str}(h:∀c∈x.cps.toList,c<128)(hN:10*x.length+2<=N):Td y G B N n (.str x):=⟨_,.str x,(by show x.cps.all (·< 128)=true;exact jhq h),Ya8 _,hN⟩
def Td.unstr   (h:Td y G B N n (.str x)):(∀c∈x.cps.toList,c<128)/\10*x.length+2<=N:=by
 obtain⟨d,a,b,c,e⟩:=h.ex;cases a;have b:x.cps.all (·< 128)=true:=b;rw[<- Ycy,Yc1]at b;exact⟨λc hc=>of_decide_eq_true (b c hc),e⟩
def Td.unint   (h:Td y G B N n (.int i)):i.natAbs<B/\50<=N:=by
 obtain⟨d,a,b,c,e⟩:=h.ex;cases a;exact⟨of_decide_eq_true b,e⟩
def Td.th  (h:Td y G B N n u):∃d,Th G u d:=let ⟨d,a,_⟩:=h.ex;⟨d,a⟩
def Td.keep  (hf:Fd G f c)(h:Td y G B N n u)(hB:B<=10 ^ 40)(hN:N<=16000000)(hn:n<=60):∃z ,∀G' Q ,Sm f G G'->Q (.str z) G'->jip [u] G' Q:=by
 obtain⟨d,a,b,c,e⟩:=h.ex;obtain⟨h1,h2⟩:=jjJ hB b;exact⟨d.shown,λG' Q s q=>⟨d,(a.mono hf s).du,⟨h1,Yah h2 (Yah e hN),Yah c hn⟩,q⟩⟩
end

section
variable {k:Nat}{G:Gp}{Q:K1}{X:KX}{u v:U}{us vs:List U}{d e:PyData}{W:Int}{B N n S:Nat}{f c:Addr}{y:Bool}
def Tds.take  (h:Tds y G B S n us) i:Tds y G B S n (us.take i):=by
 rw[<- Yc7 i us]at h;obtain⟨S1,S2,h1,h2,h3⟩:=h.split;exact h1.up (Yab _) (by lia) (Yab _)
def Tds.drop  (h:Tds y G B S n us) i:Tds y G B S n (us.drop i):=by
 rw[<- Yc7 i us]at h;obtain⟨S1,S2,h1,h2,h3⟩:=h.split;exact h2.up (Yab _) (by lia) (Yab _)
def Tds.cut  (h:Tds y G B S n us) lo hi:Tds y G B S n (Z.cut us lo hi):=(h.drop _).take _
theorem Tds.all  : ∀{us },(∀u∈us,Td y G B N n u)->Tds y G B (us.length*(N+2)) n us
 |[],_=>Tds.nil.up (Yab _) (Ya8 _) (Yab _)
 |u::us,h=>(Tds.cons (h u YaC) (Tds.all λv hv=>h v (Yao _ hv))).up (Yab _) (by rw[YaJ,Nat.add_mul];lia) (Yab _)
def Td.some   (h:∀u∈us,Td y G B N n u)(hl:us.length<=m)(hM:m*(N+2)+3<=M):Td y G B M (n+1) (.tup us):=
 (Tds.all h).tup.up (Yab _) (Yah (Ydj (Nat.mul_le_mul_right _ hl) 3) hM) (Yab _)
def Tds.nth   (h:Tds y G B S n us)(e:us[i]?=some u):∃S1 S2 S3,Tds y G B S1 n (us.take i)/\Td y G B S2 n u/\Tds y G B S3 n (us.drop (i+1))/\S1+(S2+2)+S3<=S:=by
 obtain⟨hi,e⟩:=List.getElem?_eq_some_iff.mp e;have h2:us=us.take i++(u::us.drop (i+1)):=by rw[<- e,List.getElem_cons_drop,Yc7]
 rw[h2]at h;obtain⟨S1,S2,h1,h3,h4⟩:=h.split;obtain⟨N,S3,a,b,q⟩:=h3.uncons;exact⟨S1,N,S3,h1,a,b,by lia⟩
noncomputable def BB  : Nat:=10 ^ 30+1
def Od  (G:Gp)(B N n:Nat)(u:U):Prop:=Td true G B N n u\/∃a,u=.loc a/\G a=some (.dK [])
def Od.any  (h:Od G B N n u)(hN:5<=N)(hn:1<=n):Td false G B N n u:=by
 rcases h with h|⟨a,rfl,g⟩
 ·exact h.any
 ·exact⟨.dict [],.dic g,rfl,Yah (by decide:(PyData.dict []).depth<=1) hn,hN⟩
def Od.ext  {G':Gp}(h:Od G B N n u)(e:∀a o,G a=some o->((∃us,o=.lst us)\/o=.dK [])->G' a=some o):Od G' B N n u:=by
 rcases h with h|⟨a,rfl,g⟩
 ·exact .inl (h.ext e)
 ·exact .inr ⟨a,rfl,e _ _ g (.inr rfl)⟩
def Od.sm   (h:Od G B N n u)(hf:Fd G f c)(s:Sm f G G'):Od G' B N n u:=by
 rcases h with h|⟨a,rfl,g⟩
 ·exact .inl (h.sm hf s)
 ·refine .inr ⟨a,rfl,s _ _ (λe=>?_) g⟩;obtain⟨ns,x,y,z,h1,_⟩:=hf.ex;rw[e,h1]at g;cases g
def Od.sa   (h:Od G B N n u)(s:Sa G G'):Od G' B N n u:=by
 rcases h with h|⟨a,rfl,g⟩
 ·exact .inl (h.sa s)
 ·exact .inr ⟨a,rfl,s _ _ g⟩
def jcS   (hf:Fd G f c)(hp:G p≠none)(hpf:p≠f)(q:∀u G',Od (mk p G') BB 100 2 u->Fd G' f c->Sm f G G'->Q u G'):jab T (k+2) jcs [.loc f] G Q X:=by
 refine⟨rfl,?_⟩;simp! only[jfG,jad,Yaa];refine⟨⟨by decide,by decide,by decide⟩,by decide,λp1 G1 n1=>?_⟩
 simp! only[];refine⟨by decide,by decide,λp2 G2 n2=>⟨by decide,by decide,λp3 G3 n3=>⟨by decide,λp4 G4 n4=>⟨by decide,by decide,by decide,by decide,by decide,λp5 G5 n5=>?_⟩⟩⟩⟩
 refine⟨_,_,n5.sa _ _ (n4.sa _ _ (n3.sa _ _ (n2.sa _ _ n1.at))),n5.at,show 18+11<=Yag by decide,λp6 G6 n6=>?_⟩
 have f6:=(((((hf.new n1).new n2).new n3).new n4).new n5).new n6;have h6:=(((((hf.new n1).new n2).new n3).new n4).new n5).away n6;have s6:Sa G G6:=n1.sa.trans (n2.sa.trans (n3.sa.trans (n4.sa.trans (n5.sa.trans n6.sa))));simp! only[];refine jag f6 (by decide) (by decide) λz G7 a7 b7 f7 s7=>?_
 have h2:p2≠f:=((hf.new n1).away n2).1;have h3:p3≠f:=(((hf.new n1).new n2).away n3).1;have h4:p4≠f:=((((hf.new n1).new n2).new n3).away n4).1;have q1:=jik n1.sa.sm hpf hp;have q2:=jik n2.sa.sm hpf q1;have q3:=jik n3.sa.sm hpf q2;have g2:G7 p2=some (.lst []):=s7 _ _ h2 (n6.sa _ _ (n5.sa _ _ (n4.sa _ _ (n3.sa _ _ n2.at))));have g3:G7 p3=some (.lst [.str "a"]):=s7 _ _ h3 (n6.sa _ _ (n5.sa _ _ (n4.sa _ _ n3.at)));have g4:G7 p4=some (.dK []):=s7 _ _ h4 (n6.sa _ _ (n5.sa _ _ n4.at));have k2:mk p G7 p2=some (.lst []):=(jhM (jfp n2 q1)).trans g2;have k3:mk p G7 p3=some (.lst [.str "a"]):=(jhM (jfp n3 q2)).trans g3;have k4:mk p G7 p4=some (.dK []):=(jhM (jfp n4 q3)).trans g4;have S:∀(x:Str),(x.length<=9/\∀c∈x.cps.toList,c<128)->Td true (mk p G7) BB 92 0 (.str x):=λx h=>Td.str h.2 (by lia)
 have I:∀(i:Int),i.natAbs<BB->Td true (mk p G7) BB 92 0 (.int i):=λi h=>Td.int h (by decide)
 have A:Td true (mk p G7) BB 12 0 (.str "a"):=Td.str (by decide +kernel) (by decide +kernel)
 have T1:Td true (mk p G7) BB 17 1 (.tup [.str "a"]):=(Tds.one A).tup;have T0:Td true (mk p G7) BB 3 1 (.tup []):=Tds.nil.tup;have dd:Od (mk p G7) BB 100 2 (.loc p4):=.inr ⟨p4,rfl,k4⟩;refine je2 (s7 _ _ h6.1 n6.at) a7 (by simpa using b7) λu hu=>q u G7 ?_ f7 (s6.sm.trans s7)
 simp only[YfU,Ybn,YaW,YaE,or_false]at hu;have up:∀{N n:Nat} {u:U},Td true (mk p G7) BB N n u->N<=100->n<=2->Td true (mk p G7) BB 100 2 u:=λh h1 h2=>h.up (Yab _) h1 h2;rcases hu with rfl|rfl|rfl|rfl|rfl|rfl|rfl|rfl|rfl|rfl|rfl|rfl|rfl|rfl|rfl|rfl|rfl|rfl|rfl|rfl|rfl|rfl|rfl|rfl|rfl|rfl|rfl|rfl|rfl
 ·exact .inl (Td.non (by decide))
 ·exact .inl (Td.bl _ (by decide))
 ·exact .inl (Td.bl _ (by decide))
 ·exact .inl (up (I _ (by decide)) (by decide) (by decide))
 ·exact .inl (up (I _ (by decide)) (by decide) (by decide))
 ·exact .inl (up (I _ (by decide)) (by decide) (by decide))
 ·exact .inl (up (I _ (by decide)) (by decide) (by decide))
 ·exact .inl (up (I _ (by decide)) (by decide) (by decide))
 ·exact .inl (up (I _ (by decide)) (by decide) (by decide))
 ·exact .inl (up (I _ (by decide)) (by decide) (by decide))
 ·exact .inl (up (I _ (by decide)) (by decide) (by decide))
 ·exact .inl (up (I _ (by decide)) (by decide) (by decide))
 ·exact .inl (up (I _ (by decide)) (by decide) (by decide))
 ·exact .inl (up (S _ (by decide +kernel)) (by decide) (by decide))
 ·exact .inl (up (S _ (by decide +kernel)) (by decide) (by decide))
 ·exact .inl (up (S _ (by decide +kernel)) (by decide) (by decide))
 ·exact .inl (up (S _ (by decide +kernel)) (by decide) (by decide))
 ·exact .inl (up (S _ (by decide +kernel)) (by decide) (by decide))
 ·exact .inl (up (S _ (by decide +kernel)) (by decide) (by decide))
 ·exact .inl (up (S _ (by decide +kernel)) (by decide) (by decide))
 ·exact .inl (up (S _ (by decide +kernel)) (by decide) (by decide))
 ·exact .inl (up (S _ (by decide +kernel)) (by decide) (by decide))
 ·exact .inl (up T0 (by decide) (by decide))
 ·exact .inl (up (Tds.lst k2 (n:=0) .nil) (by decide) (by decide))
 ·exact .inl (up T1 (by decide) (by decide))
 ·exact .inl (up (Tds.lst k3 (Tds.one A)) (by decide) (by decide))
 ·exact dd
 ·exact .inl (up (Tds.one (I 0 (by decide))).tup (by decide) (by decide))
 ·exact .inl (up (Tds.cons T1 (Tds.one T0)).tup (by decide) (by decide))
end

def jjj   m:∀c∈((Nat.toDigits 10 m).map Char.toNat),c<128:=λc hc=>by
 obtain⟨d,hd,rfl⟩:=List.mem_map.mp hc;have:=Nat.isDigit_of_mem_toDigits (by decide) (by decide) hd
 unfold Char.isDigit at this;rw[Yaf]at this;have:=UInt32.le_iff_toNat_le.mp (of_decide_eq_true this.2);exact YaS this (by decide)
def jmD  (i:Int):∀c∈((toString i:String):Str).cps.toList,c<128:=by
 cases i with
 |ofNat m=>
  rw[PyProof.Rows.text_ofNat m];exact jjj m
 |negSucc m=>
  have e:((toString (Int.negSucc m):String):Str).cps.toList=45::(Nat.toDigits 10 (m+1)).map Char.toNat:=by
   show(YbN ("-" ++ Nat.repr (m+1))).cps.toList=_;rw[Str.ofString_eq_toList];simp[Nat.repr]
  rw[e];intro c hc;rcases YaW.mp hc with rfl|hc
  ·decide
  ·exact jjj _ c hc
def jpA     : revU (.tup xs) (.int (-1)) G Q=Q (.tup xs.reverse) G:=by
 show((-1:Int)=-1/\Q (.tup xs.reverse) G)=_;simp
def jpx     : strU [.int i] G Q=(i.natAbs.log2<1920/\Q (.str (toString i:String)) G):=rfl

def Td.istr   {i:Int}(h:i.natAbs<10 ^ 40)(hN:502<=N):Td y G B N n (.str (toString i:String)):=by
 refine Td.str (jmD i) ?_;have:=int_text_length_le10 (a:=i) (k:=40) (by decide) h
 show 10*(YbN (toString i)).length+2<=_;rw[ofString_length]
 lia
def jpZ  {i:Int}(h:i.natAbs<10 ^ 40):i.natAbs.log2<1920:=by simpa[YcB]using (ji3 h).1
def jgd  {X: KX}(hp:G p≠none)(hpf:p≠f)(h:Td true (mk p G) B N n (.tup us))(hB:BB<=B)(hf:Fd G f c)(hN:N<=100000)(q:∀u' G',Td false (mk p G') (B+10000) (2*N+600) (n+2) u'->Fd G' f c->Sm f G G'->Q u' G') :
  jal T.gs (jab T (k+2)) jap ⟨λ_ G'=>Q .non G',Q,λx _ G'=>X x G'⟩ [some (.loc f),some (.tup us),u2,o3,o4] G:=by
 obtain⟨m,S,rfl,rfl,hu⟩:=h.untup;obtain⟨d,t⟩:=(h.ext jhK).th;have ul:=hu.len;have c1:(cut us none (some 1)).length<=us.length:=by unfold cut;rw[Ycb,Ycc];lia
 simp! only[jap,jau t (show "tuple" ∈ ["bool", "int", "str", "list", "tuple", "dict"] by decide)]
 cases t with
 |@tup _ ds hs=>
  rw[show isD (.tuple ds) "tuple" = true from rfl,if_pos rfl];simp! only[jpA];intro p1 G1 n1;refine⟨Yah (show _<=200000 by lia) (by decide),by decide,Yah (show us.length+1<=200000 by lia) (by decide),by decide,by decide,λp2 G2 n2=>?_⟩
  have f2:=(hf.new n1).new n2;have h2:=(hf.new n1).away n2;refine jag f2 (by decide) (by decide) λr G3 a3 b3 f3 s3=>?_
  have s2:Sa G G2:=n1.sa.trans n2.sa;have h3:Tds true (mk p G3) B S m us:=(hu.ext (joi s2)).ext (jhL f2 s3);have g1:mk p G3 p1=some (.lst us):=(jhM (jfp n1 hp)).trans (s3 _ _ (hf.away n1).1 (n2.sa _ _ n1.at));refine je2 (s3 _ _ h2.1 n2.at) a3 b3 λu hu=>q u G3 ?_ f3 (s2.sm.trans s3);simp only[YaW,YaE,or_false]at hu;have up:∀{N' n':Nat} {u:U},Td false (mk p G3) B N' n' u->N'<=2*(S+3)+600->n'<=m+1+2->Td false (mk p G3) (B+10000) (2*(S+3)+600) (m+1+2) u:=λh h1 h2=>h.up (Ycz _ _) h1 h2;have z0:Td true (mk p G3) B 50 m (.int 0):=Td.int (Yan (by decide:_<BB) hB) (Yab _)
  rcases hu with rfl|rfl|rfl|rfl|rfl|rfl|rfl
  ·exact up (Tds.lst g1 h3) (by lia) (by lia)
  ·exact up (h3.app (h3.cut _ _)).tup.any (by lia) (by lia)
  ·exact up (h3.cut _ _).tup.any (by lia) (by lia)
  ·exact up (h3.cut _ _).tup.any (by lia) (by lia)
  ·exact up h3.rev.tup.any (by lia) (by lia)
  ·exact up (h3.app (Tds.one z0)).tup.any (by lia) (by lia)
  ·exact up (Tds.nil (n:=0)).tup (by lia) (by lia)
def jge  {X: KX}(hp:G p≠none)(hpf:p≠f)(h:Td true (mk p G) B N n (.int i))(hB:BB<=B)(hB2:B<=10 ^ 40)(hf:Fd G f c)(q:∀u' G',Td false (mk p G') (B+10000) (2*N+600) (n+2) u'->Fd G' f c->Sm f G G'->Q u' G') :
  jal T.gs (jab T (k+2)) jap ⟨λ_ G'=>Q .non G',Q,λx _ G'=>X x G'⟩ [some (.loc f),some (.int i),u2,o3,o4] G:=by
 obtain⟨hi,hN⟩:=h.unint;have h40:i.natAbs<10 ^ 40:=Yan hi hB2;simp! only[jap,jau (Th.int i) (show "tuple" ∈ ["bool", "int", "str", "list", "tuple", "dict"] by decide)]
 rw[show isD (.int i) "tuple" = false from rfl,if_neg (by decide)]
 simp! only[jaL,jau (Th.int i) (show "int" ∈ ["bool", "int", "str", "list", "tuple", "dict"] by decide),jau (Th.int i) (show "bool" ∈ ["bool", "int", "str", "list", "tuple", "dict"] by decide)]
 rw[show isD (.int i) "int" = true from rfl,if_pos rfl,show isD (.int i) "bool" = false from rfl,if_pos (by decide)]
 simp! only[jpx];refine⟨jpZ h40,by decide,λp2 G2 n2=>?_⟩
 have f2:=hf.new n2;have h2:=hf.away n2;refine jag f2 (by decide) (by decide) λr G3 a3 b3 f3 s3=>?_
 refine je2 (s3 _ _ h2.1 n2.at) a3 b3 λu hu=>q u G3 ?_ f3 (n2.sa.sm.trans s3);simp only[YaW,YaE,or_false]at hu;have I:∀z:Int,z.natAbs<=i.natAbs+10000->Td false (mk p G3) (B+10000) (2*N+600) (n+2) (.int z):=λz hz=>Td.int (by lia) (by lia)
 rcases hu with rfl|rfl|rfl|rfl|rfl|rfl|rfl
 ·exact I _ (by lia)
 ·exact I _ (by lia)
 ·exact Td.bl _ (by lia)
 ·exact Td.istr h40 (by lia)
 ·exact I _ (by lia)
 ·exact Td.non (by lia)
 ·exact I _ (by lia)
def jiL  {X: KX}(hp:G p≠none)(hpf:p≠f)(h:Td true (mk p G) B N n u)(hB:BB<=B)(hB2:B<=10 ^ 40)(hf:Fd G f c)(hN:N<=100000)(q:∀u' G',Td false (mk p G') (B+10000) (2*N+600) (n+2) u'->Fd G' f c->Sm f G G'->Q u' G') :
  jal T.gs (jab T (k+2)) jap ⟨λ_ G'=>Q .non G',Q,λx _ G'=>X x G'⟩ [some (.loc f),some u,u2,o3,o4] G:=by
 obtain⟨d,t⟩:=(h.ext jhK).th;have odd:jab T (k+2) jcs [.loc f] G Q X:=jcS hf hp hpf λu' G' t' f' s'=>q u' G' ((t'.any (by decide) (by decide)).up (Yah hB (Ycz _ _)) (by lia) (by lia)) f' s'
 cases t with
 |tup hs=>exact jgd hp hpf h hB hf hN q
 |int i=>exact jge hp hpf h hB hB2 hf q
 |non=>exact odd
 |bl b=>exact odd
 |str x=>exact odd
 |lst g hs=>
  simp! only[jap,jau (Th.lst g hs) (show "tuple" ∈ ["bool", "int", "str", "list", "tuple", "dict"] by decide)]
  rw[show isD (.list _) "tuple" = false from rfl,if_neg (by decide)]
  simp! only[jaL,jau (Th.lst g hs) (show "int" ∈ ["bool", "int", "str", "list", "tuple", "dict"] by decide)]
  exact odd
 |dic g=>
  simp! only[jap,jau (Th.dic g) (show "tuple" ∈ ["bool", "int", "str", "list", "tuple", "dict"] by decide)]
  rw[show isD (.dict _) "tuple" = false from rfl,if_neg (by decide)]
  simp! only[jaL,jau (Th.dic g) (show "int" ∈ ["bool", "int", "str", "list", "tuple", "dict"] by decide)]
  exact odd

section
variable {k:Nat}{G:Gp}{Q:K1}{X:KX}{u v:U}{us vs:List U}{d e:PyData}{W:Int}{B N n S:Nat}{f c:Addr}
def jmP  {a:Nat}:cut us none (some (a:Int))=us.take a:=jfJ us a
def jmO  {a:Nat}:cut us (some ((a:Int)+1)) none=us.drop (a+1):=jds us (a+1)
theorem jdH  : ∀m {k } {G } {Q } {X } {u } {N n } {p } (_:G p≠none) (_:p≠f) (_:Td true (mk p G) B N n u) (_:BB<=B) (_:B<=10 ^ 40) (_:Fd G f c) (_:N<=100000)
  (_:∀u' G',Td false (mk p G') (B+10000) (2*N+600) (n+2) u'->Fd G' f c->Sm f G G'->Q u' G'),jab T (k+m+3) jbQ [.loc f,u,.int m] G Q X
 |m,k,G,Q,X,u,N,n,p,hp,hpf,h,hB,hB2,hf,hN,q=>by
  have rest:∀{o3 o4:Option U} {G1:Gp},Fd G1 f c->Sm f G G1->jal T.gs (jab T (k+m+2)) jap ⟨λ_ G'=>Q .non G',Q,λx _ G'=>X x G'⟩ [some (.loc f),some u,some (.int m),o3,o4] G1:=
   λf1 s1=>jiL (k:=k+m) (jik s1 hpf hp) hpf (h.ext (jhL hf s1)) hB hB2 f1 hN λu' G' t' f' s'=>q u' G' t' f' (s1.trans s')
  obtain⟨d,t⟩:=(h.ext jhK).th;refine⟨rfl,?_⟩;simp! only[jcZ,jad,Yaa,jau t (show "tuple" ∈ ["bool", "int", "str", "list", "tuple", "dict"] by decide)]
  cases t with
  |@tup us ds hs=>
   rw[show isD (.tuple ds) "tuple" = true from rfl,if_pos rfl];simp! only[];refine⟨by decide,?_⟩
   cases us with
   |nil=>exact rest hf Sm.refl
   |cons u0 ur=>
    show(if (!(u0::ur).isEmpty)=true then _ else _:Prop)
    rw[show(!(u0::ur).isEmpty)=true from rfl,if_pos rfl];cases m with
    |zero=>exact rest hf Sm.refl
    |succ m=>
     rw[decide_eq_true (show(0:Int)<((m+1:Nat):Int) by lia),if_pos rfl]
     obtain⟨us,eus⟩:∃us,us=u0::ur:=⟨_,rfl⟩;have ul0:0<us.length:=by rw[eus];simp
     rw[<- eus]at h hs rest ⊢;obtain⟨m',S,rfl,rfl,hu⟩:=h.untup;have ul:=hu.len;refine jag (k:=k+m+1+1) hf (by decide) (by decide) λr G1 a1 b1 f1 s1=>?_
     simp! only[];by_cases hr:0<r
     ·rw[if_pos (decide_eq_true hr)];refine jag (k:=k+m+1+1) f1 (by lia) (by lia) λz G2 a2 b2 f2 s2=>?_
      obtain⟨a,rfl⟩:=Yaz a2;have ha:a<us.length:=by lia
      have ea:us[a]?=some (us[a]'ha):=YaB ha;have s02:=s1.trans s2;obtain⟨S1,S2,S3,h1,h2,h3,hS⟩:=(hu.ext (jhL hf s02)).nth ea;simp! only[ix_t (jbj ea),jmP,jmO];rw[show((m+1:Nat):Int)-1=(m:Int) by lia]
      refine jdH m (k:=k) (jik s02 hpf hp) hpf h2 hB hB2 f2 (by lia) λu' G3 t3 f3 s3=>?_
      refine⟨by decide,?_⟩
      have l1:=List.length_take_le a us;have l2:(us.drop (a+1)).length<=us.length:=by rw[Ycc];lia
      have bd:∀j:Nat,j<=200000->j<=Yag:=λj hj=>Yah hj (by decide)
      simp! only[];refine⟨bd _ (by simp;lia),?_⟩
      simp! only[];refine⟨bd _ (by simp;lia),q _ G3 ?_ f3 (s02.trans s3)⟩
      have u1:∀{S:Nat} {vs:List U},Tds true (mk p G2) B S m' vs->Tds false (mk p G3) (B+10000) S (m'+2) vs:=λh=>(h.ext (jhL f2 s3)).any.up (Ycz _ _) (Yab _) (by lia)
      exact(((u1 h1).app (Tds.one t3)).app (u1 h3)).tup.up (Yab _) (by lia) (by lia)
     ·rw[if_neg (by simpa using hr)]
      exact rest f1 s1
  |_=>exact rest hf Sm.refl
end

abbrev Wn:=List (Int×Int)
noncomputable def wu  (w:Int×Int):U:=.tup [.int w.1,.int w.2]
def wsU  (ws:Wn):U:=.tup (ws.map wu)
noncomputable def topO  (P:Int)(s:Spn):Int:=if s.lo+P-1<(if s.w = "span" then s.hi else P-s.hi) then s.lo+P-1 else if s.w = "span" then s.hi else P-s.hi
def winO  (P:Int)(ss:List Spn):Wn:=ss.map λs=>(s.lo,topO P s)
def jng   {l:List Int}(g:G a=some (.lst (l.map .int))):sumU [.loc a] G Q=Q (.int l.sum) G:=by
 unfold sumU;dsimp only;rw[g];dsimp only;rw[jhd]

def joc  {i:Nat}(hs:ss[i]?=some s)(h:s.Ok W)(q:Q (.int (if s.w = "span" then s.hi else P-s.hi)) G):jab T (k+1) jg7 [jao xs ss,.int P,.int i] G Q X:=by
 refine⟨rfl,?_⟩;simp! only[jhl,jad,Yaa,jao,ix_t (jaB _ _ _),ix_t (atM hs),Spn.u];refine⟨trivial,?_⟩;rcases h.w with z|z
 ·rw[z,if_neg (by decide +kernel)]
  rw[z,if_neg (show ¬(("apart" : Str) = "span") by decide +kernel)]at q
  exact q
 ·rw[z,if_pos (by decide +kernel)]
  rw[z,if_pos rfl]at q;exact q
def jhF  (so:∀s∈ss,s.Ok W)(sl:ss.length<=24)(q:∀G',Sa G G'->Q (wsU (winO P ss)) G'):jab T (k+3) jbE [jao xs ss,.int P] G Q X:=by
 refine⟨rfl,?_⟩;simp! only[jdf,jad,Yaa,jao,ix_t (jaB _ _ _),Yai];refine⟨by lia,by lia,by rw[jaz];exact Yah (show((ss.length:Int)).toNat<=24 by lia) (by decide),?_⟩
 refine jav (λi acc G'=>G'=G/\acc=(winO P (ss.take i)).map wu) ?_ ?_ ⟨rfl,rfl⟩
 ·rintro acc G' ⟨rfl,rfl⟩;rw[jaz,Yca];refine⟨trivial,λp G1 n1=>?_⟩;dsimp only;rw[it_l n1.at];exact q G1 n1.sa
 ·rintro i x acc G' K hx ⟨rfl,rfl⟩ hk _;obtain⟨hi,rfl⟩:=jcP hx;have hi:i<ss.length:=by lia
  have es:ss[i]?=some ss[i]:=YaB hi;refine⟨trivial,?_⟩;simp! only[];refine⟨rfl,?_⟩;simp! only[jdY,jad,Yaa,jao,ix_t (jaB _ _ _),ix_t (atM es)];show ixU (.tup [.str ss[i].w,.int ss[i].o,.int ss[i].t,.int ss[i].lo,.int ss[i].hi]) _ _ _;rw[ix_t (show atI [U.str ss[i].w,.int ss[i].o,.int ss[i].t,.int ss[i].lo,.int ss[i].hi] 3=some (.int ss[i].lo)from rfl)];simp! only[];refine joc (xs:=xs) (P:=P) es (so _ (YdX hi)) ?_;simp! only[];refine⟨by decide,hk _ _ ⟨rfl,?_⟩⟩
  unfold winO;rw[YbQ,es,Yav,Yav];rfl
def jiH  {s:Nat}(hs:s<ws.length)(wl:ws.length<=24)(q:Q (wsU (ws.set s w)) G):jab T (k+1) jbg [wsU ws,.int s,wu w] G Q X:=by
 refine⟨rfl,?_⟩;simp! only[jcA,jad,Yaa,wsU];have e1:cut (ws.map wu) none (some (s:Int))=(ws.take s).map wu:=by rw[jfJ,YeI]
 have e2:cut (ws.map wu) (some ((s:Int)+1)) none=(ws.drop (s+1)).map wu:=by
  have:=jds (ws.map wu) (s+1);rw[YeJ];exact this
 rw[e1,e2];refine⟨by decide,Yah (show _<=30 by simp;lia) (by decide),Yah (show _<=60 by simp;lia) (by decide),?_⟩
 have e3:(ws.take s).map wu++[wu w]++(ws.drop (s+1)).map wu=(ws.set s w).map wu:=by
  rw[YdB,if_pos hs];simp
 rw[e3];exact q
def jod   (h:s.Ok W)(q:Q (.int (topO P s)) G):jab T (k+1) jfr [.int P,s.u] G Q X:=by
 refine⟨rfl,?_⟩;simp! only[jfH,jad,Yaa,Spn.u,ix_t (jbd _ _),ix_t (jaB _ _ _)];unfold topO at q;rcases h.w with z|z
 ·rw[z,if_neg (by decide +kernel)]
  rw[z,if_neg (show ¬(("apart" : Str) = "span") by decide +kernel)]at q
  exact q
 ·rw[z,if_pos (by decide +kernel)]
  rw[z,if_pos rfl]at q;exact q
def jiJ  (so:∀s∈ss,s.Ok W)(sl:ss.length<=24)(q:∀G',Sa G G'->Q (wsU (winO P ss)) G'):jab T (k+2) jbh [jao xs ss,.int P] G Q X:=by
 refine⟨rfl,?_⟩;simp! only[jcC,jad,Yaa,jao,ix_t (jaB _ _ _)];refine⟨by rw[Yai];exact Yah sl (by decide),?_⟩
 refine jav (λi acc G'=>G'=G/\acc=(winO P (ss.take i)).map wu) ?_ ?_ ⟨rfl,rfl⟩
 ·rintro acc G' ⟨rfl,rfl⟩;rw[Yai,Yca];refine⟨trivial,λp G1 n1=>?_⟩;dsimp only;rw[it_l n1.at];exact q G1 n1.sa
 ·rintro i x acc G' K hx ⟨rfl,rfl⟩ hk _;rw[YaD]at hx;cases es:ss[i]? with
  |none=>rw[es]at hx;cases hx
  |some s=>
   rw[es]at hx;cases hx;refine⟨trivial,?_⟩;simp! only[];show ixU (.tup [.str s.w,.int s.o,.int s.t,.int s.lo,.int s.hi]) _ _ _;rw[ix_t (show atI [U.str s.w,.int s.o,.int s.t,.int s.lo,.int s.hi] 3=some (.int s.lo)from rfl)];refine jod (k:=k) (so s (YaI es)) ⟨by decide,hk _ _ ⟨rfl,?_⟩⟩
   unfold winO;rw[YbQ,es,Yav,Yav];rfl
def jkc   (p1:1<=P)(p2:P<=600)(q:Q (.bl (decide (hi/P*P<lo))) G):jab T (k+1) jev [.int P,.tup [.int lo,.int hi]] G Q X:=by
 refine⟨rfl,?_⟩;simp! only[jeI,jad,Yaa];exact⟨trivial,by lia,by lia,.inr (by constructor<;>lia),q⟩
def jj7  {W: Nat}(hf:Fd G f c)(w8:W<=8)(q:∀(st:List Int) G' ,(∀z∈st,0<=z/\z<W)->st.length<=8->Fd G' f c->Sm f G G'->Q (jai st) G'):jab T (k+2) jdL [.loc f,.int W] G Q X:=by
 refine⟨rfl,?_⟩;simp! only[jd3,jad,Yaa];refine⟨by lia,by lia,by rw[jaz];exact Yah (show _<=8 by lia) (by decide),?_⟩
 refine jav (λi acc G'=>Fd G' f c/\Sm f G G'/\∃zs:List Int,acc=zs.map .int/\zs.length<=i/\∀z∈zs,0<=z/\z<W) ?_ ?_ ⟨hf,Sm.refl,[],rfl,Yab _,λ_ h=>(nomatch h)⟩
 ·rintro acc G1 ⟨f1,s1,zs,rfl,zl,zb⟩;rw[jaz]at zl;refine⟨trivial,λp2 G2 n2=>?_⟩;simp! only[];refine⟨by decide,by lia,by lia,λp3 G3 n3=>⟨by decide,λp4 G4 n4=>?_⟩⟩
  have f4:=((f1.new n2).new n3).new n4;refine jag f4 (by decide) (by decide) λr G5 a5 b5 f5 s5=>?_
  have h2:=f1.away n2;have h3:=(f1.new n2).away n3;have h4:=((f1.new n2).new n3).away n4;have S5:Sm f G G5:=(((s1.nw n2).nw n3).nw n4).trans s5;have g2:=s5 _ _ h2.1 (n4.sa _ _ (n3.sa _ _ n2.at));have g3:=s5 _ _ h3.1 (n4.sa _ _ n3.at);have g4:=s5 _ _ h4.1 n4.at
  have hz:zs.length<=8:=by lia
  rcases(show r=0\/r=1\/r=2\/r=3 by lia)with rfl|rfl|rfl|rfl
  ·rw[ix_l g4 (jbd _ _)];exact q [] _ (λ_ h=>(nomatch h)) (by decide) f5 S5
  ·rw[ix_l g4 (jaB _ _ _)];rw[it_l g2];exact q zs _ zb hz f5 S5
  ·rw[ix_l g4 (jh3 _ _ _ _)];rw[it_l g2];exact q zs _ zb hz f5 S5
  ·rw[ix_l g4 (show atI _ (3:Int)=some _ from jbj (j:=3) rfl)];rw[it_l g3];have e:rngU 0 ((W:Int)).toNat=((YaO W).map λ(i:Nat)=>(i:Int)).map .int:=by
    unfold rngU;rw[Ycv,show((W:Int)).toNat=W by lia]
    exact Ycd λi _=>by simp
   rw[e];refine q _ _ (λz hz=>?_) (by simp;exact w8) f5 S5
   obtain⟨i,hi,rfl⟩:=List.mem_map.mp hz;have:=List.mem_range.mp hi
   lia
 ·rintro i x acc G1 K hx ⟨f1,s1,zs,rfl,zl,zb⟩ hk hn;obtain⟨hi,rfl⟩:=jcP hx;refine⟨trivial,?_⟩;simp! only[];refine jag f1 (by decide) (by decide) λr G2 a2 b2 f2 s2=>?_
  simp! only[];by_cases c:r=0
  ·rw[if_pos (by simpa using c)]
   refine hk _ _ ⟨f2,s1.trans s2,zs++[(i:Int)],by simp,by simp;lia,λz hz=>?_⟩
   rcases List.mem_append.mp hz with h|h
   ·exact zb z h
   ·rw[List.mem_singleton.mp h];lia
  ·rw[if_neg (by simpa using c)]
   exact hn _ ⟨f2,s1.trans s2,zs,rfl,by lia,zb⟩

noncomputable def bt  (bs:List Int)(x:Int):Int:=bs.getD x.toNat 0
def jkw  {bs:List Int}{x:Int}(h0:0<=x)(h1:x<bs.length):atI (bs.map U.int) x=some (.int (bt bs x)):=by
 obtain⟨j,rfl⟩:=Yaz h0;have hj:j<bs.length:=by lia
 have:bs[j]?=some (bt bs (j:Int)):=by unfold bt;simp[Yck,hj]
 exact atM this
def esZ  (bs:List Int)(ws:Wn):U->Int×Int
 |.tup [_,.int a,.int b]=>(bt bs b-bt bs a,bt bs b-bt bs a)
 |.tup [.int s,.int y]=>if y=1 then ws.getD s.toNat (0,0) else (-(ws.getD s.toNat (0,0)).2,-(ws.getD s.toNat (0,0)).1)
 |_=>(0,0)
def sLo  (bs:List Int)(ws:Wn)(r:List U):Int:=(r.map λv=>(esZ bs ws v).1).sum
def sHi  (bs:List Int)(ws:Wn)(r:List U):Int:=(r.map λv=>(esZ bs ws v).2).sum
def barB  (P:Int)(bs:List Int)(ws:Wn)(r:List U):Bool:=decide (sHi bs ws r/P*P<sLo bs ws r)

def jkd  {ss: List Spn}(wl:ws.length=ss.length)(hs:∀z∈st,0<=z/\z<bs.length)(he:entB ss.length st v=true)(q:Q (prZ (esZ bs ws v)) G):jab T (k+1) jdd [jai bs,wsU ws,v] G Q X:=by
 refine⟨rfl,?_⟩;rcases jcz he with⟨a,b,rfl,ha,hb⟩|⟨s,y,rfl,hs',hy⟩
 ·have a1:=hs a ha;have b1:=hs b hb;simp! only[jbJ,jad,Yaa,jai,ix_t (jaB _ _ _),ix_t (jh3 _ _ _ _),ix_t (jkw a1.1 a1.2),ix_t (jkw b1.1 b1.2)];exact⟨by decide,q⟩
 ·have il:s<ws.length:=by lia
  have ew:ws[s]?=some ws[s]:=YaB il;have eg:ws.getD s (0,0)=ws[s]:=by simp[Yck,il]
  simp! only[jbJ,jad,Yaa,wsU,ix_t (atM ew),wu];refine⟨trivial,trivial,?_⟩;have e2:esZ bs ws (.tup [.int (s:Int),.int y])=if y=1 then ws[s] else (-ws[s].2,-ws[s].1):=by
   show(if y=1 then ws.getD ((s:Int)).toNat (0,0) else _)=_
   rw[YbE,eg]
  rw[e2]at q;rcases hy with rfl|rfl
  ·rw[if_pos (by decide)]
   exact⟨by decide,q⟩
  ·rw[if_neg (by decide)]
   exact⟨by decide,q⟩
def jl9  (wl:ws.length=ss.length)(hs:∀z∈st,0<=z/\z<bs.length)(hr:∀v∈r,entB ss.length st v=true)(rl:r.length<=60)(q:∀G',Sa G G'->Q (.tup [.int (sLo bs ws r),.int (sHi bs ws r)]) G'):jab T (k+2) jfq [jao xs ss,.int P,jai bs,wsU ws,.tup r] G Q X:=by
 refine⟨rfl,?_⟩;simp! only[jfF,jad,Yaa];refine⟨Yah rl (by decide),?_⟩
 refine jbK (λv=>prZ (esZ bs ws v)) trivial (λv hv K hK=>?_) ?_
 ·simp! only[];exact jkd wl hs (hr v hv) hK
 intro p1 G1 n1;rw[Ybn]at n1;simp! only[it_l n1.at];refine⟨by rw[Yai];exact Yah rl (by decide),?_⟩
 refine jbK (λu=>match u with|.tup [a,_]=>a|u=>u) (by unfold lsG;rw[n1.at]) (λu hu K hK=>?_) ?_
 ·obtain⟨e,he,rfl⟩:=List.mem_map.mp hu;simp! only[prZ];exact⟨trivial,hK⟩
 intro p2 G2 n2;have t1:[]++(r.map λv=>prZ (esZ bs ws v)).map (λu=>match u with|.tup [a,_]=>a|u=>u)=(r.map λv=>(esZ bs ws v).1).map .int:=by
  rw[Ybn,Ycv,Ycv];rfl
 rw[t1]at n2;rw[jng n2.at,it_l (n2.sa _ _ n1.at)];refine⟨by rw[Yai];exact Yah rl (by decide),?_⟩
 refine jbK (λu=>match u with|.tup [_,b]=>b|u=>u) (by unfold lsG;rw[n2.sa _ _ n1.at]) (λu hu K hK=>?_) ?_
 ·obtain⟨e,he,rfl⟩:=List.mem_map.mp hu;simp! only[prZ];exact⟨trivial,hK⟩
 intro p3 G3 n3;have t2:[]++(r.map λv=>prZ (esZ bs ws v)).map (λu=>match u with|.tup [_,b]=>b|u=>u)=(r.map λv=>(esZ bs ws v).2).map .int:=by
  rw[Ybn,Ycv,Ycv];rfl
 rw[t2]at n3;rw[jng n3.at];exact⟨by decide,q G3 ((n1.sa.trans n2.sa).trans n3.sa)⟩
def jmg  (wl:ws.length=ss.length)(hs:∀z∈st,0<=z/\z<bs.length)(hr:∀v∈r,entB ss.length st v=true)(rl:r.length<=60)(p1:1<=P)(p2:P<=600)(q:∀G',Sa G G'->Q (.bl (barB P bs ws r)) G'):jab T (k+3) jdJ [jao xs ss,.int P,jai bs,wsU ws,.tup r] G Q X:=by
 refine⟨rfl,?_⟩;simp! only[jdZ,jad,Yaa];refine jl9 wl hs hr rl λG1 s1=>?_;simp! only[];exact⟨trivial,by lia,by lia,.inr (by constructor<;>lia),q G1 s1⟩
def jka  {ss: List Spn}(wl:ws.length=ss.length)(hs:∀z∈st,0<=z/\z<bs.length)(hr:∀v∈r,entB ss.length st v=true)(q:Q (.tup [.int (sLo bs ws r),.int (sHi bs ws r)]) G):jab T (k+1) jep [jai bs,wsU ws,.tup r] G Q X:=by
 refine⟨rfl,?_⟩;simp! only[jeB,jad,Yaa,jc2];refine jcd (λi ς G'=>∃(o5:Option U),ς=[some (jai bs),some (wsU ws),some (.tup r),some (.int (sLo bs ws (r.take i))),some (.int (sHi bs ws (r.take i))),o5]/\G'=G) ?_ ?_ ⟨_,rfl,rfl⟩
 ·rintro ς G' ⟨o5,rfl,rfl⟩;rw[Yca];refine⟨trivial,?_⟩;simp! only[jc1];exact⟨by decide,q⟩
 ·rintro i x ς G' K hx ⟨o5,rfl,rfl⟩ hk;have he:=hr x (YaI hx);have a1:sLo bs ws (r.take (i+1))=sLo bs ws (r.take i)+(esZ bs ws x).1:=by unfold sLo;rw[YbQ,hx];simp
  have a2:sHi bs ws (r.take (i+1))=sHi bs ws (r.take i)+(esZ bs ws x).2:=by unfold sHi;rw[YbQ,hx];simp
  refine⟨trivial,?_⟩;rcases jcz he with⟨a,b,rfl,ha,hb⟩|⟨s,y,rfl,hs',hy⟩
  ·have h1:=hs a ha;have h2:=hs b hb;simp! only[];rw[if_pos (by decide)]
   simp! only[jai,ix_t (jaB _ _ _),ix_t (jh3 _ _ _ _),ix_t (jkw h1.1 h1.2),ix_t (jkw h2.1 h2.2)];refine hk _ _ ⟨some (.tup [.str "home",.int a,.int b]),?_,rfl⟩;rw[a1,a2,show(esZ bs ws (.tup [.str "home",.int a,.int b]))=(bt bs b-bt bs a,bt bs b-bt bs a)from rfl];rw[show sLo bs ws (r.take i)+(bt bs b-bt bs a)=sLo bs ws (r.take i)+bt bs b-bt bs a by lia,show sHi bs ws (r.take i)+(bt bs b-bt bs a)=sHi bs ws (r.take i)+bt bs b-bt bs a by lia]
   rfl
  ·have il:s<ws.length:=by lia
   have ew:ws[s]?=some ws[s]:=YaB il;have eg:ws.getD s (0,0)=ws[s]:=by simp[Yck,il]
   have e2:esZ bs ws (.tup [.int (s:Int),.int y])=if y=1 then ws[s] else (-ws[s].2,-ws[s].1):=by
    show(if y=1 then ws.getD ((s:Int)).toNat (0,0) else _)=_
    rw[YbE,eg]
   rw[e2]at a1 a2;simp! only[];rw[if_neg (by decide)]
   simp! only[ix_t (jbd _ _),ix_t (jaB _ _ _)];rcases hy with rfl|rfl
   ·rw[if_pos (by decide)]
    simp! only[ix_t (jbd _ _),wsU,ix_t (atM ew),wu,ix_t (jaB _ _ _)];refine hk _ _ ⟨some (.tup [.int (s:Int),.int 1]),?_,rfl⟩;rw[a1,a2];rfl
   ·rw[if_neg (by decide)]
    simp! only[ix_t (jbd _ _),wsU,ix_t (atM ew),wu,ix_t (jaB _ _ _)];refine hk _ _ ⟨some (.tup [.int (s:Int),.int (-1)]),?_,rfl⟩;rw[a1,a2];rfl

def jk2    : ∀{d },gdD y B d=true->d.depth<=100->cmpD d=true
 |.none,_,_=>rfl
 |.bool _,_,_=>rfl
 |.int _,_,_=>rfl
 |.str x,h,hd=>by
  have:=jfD (B:=B) (d:=.str x) h;show((Yen x).canLay0&&decide _)=true;rw[this,decide_eq_true hd];rfl
 |.tuple _,_,hd=>decide_eq_true hd
 |.list ds,h,hd=>by
  have:=jfD (B:=B) (d:=.list ds) h;show((PyData.list ds).canLay0&&decide _)=true;rw[this,decide_eq_true hd];rfl
 |.dict kvs,h,hd=>by
  have h:(!y&&kvs.isEmpty)=true:=h;rw[Yaf]at h;have:kvs=[]:=YfS.mp h.2;subst this;exact decide_eq_true hd
theorem jhf    : ∀{ds },gdDs y B ds=true->∀d∈ds,gdD y B d=true/\d.depth<=Ybb ds
 |[],_,_,h=>nomatch h
 |e::ds,q,d,h=>by
  have q:(gdD y B e&&gdDs y B ds)=true:=q;rw[Yaf]at q;rcases YaW.mp h with rfl|h
  ·exact⟨q.1,Nat.le_max_left _ _⟩
  ·have:=jhf q.2 d h;exact⟨this.1,Yah this.2 (Nat.le_max_right _ _)⟩
def joJ     (h:gdD y B d=true)(hd:d.depth<=100):entD d=true:=by
 cases d with
 |tuple es=>
  refine Yc1.mpr λe he=>?_;have:=jhf (show gdDs y B es=true from h) e he;have hd:Ybb es+1<=100:=hd;exact jk2 this.1 (by lia)
 |_=>rfl
def jmI     (h:gdD y B d=true)(hd:d.depth<=100):jnt d=true:=by
 cases d with
 |tuple es=>
  refine Yc1.mpr λe he=>?_;have:=jhf (show gdDs y B es=true from h) e he;have hd:Ybb es+1<=100:=hd;exact joJ this.1 (by lia)
 |_=>rfl
noncomputable def jb4  (x:Str):U->Bool
 |.str w=>decide (w=x)
 |_=>false
noncomputable def tupL  : U->List U
 |.tup us=>us
 |_=>[]
noncomputable def jeh  : U->Int
 |.int i=>i
 |_=>0
def jdV    (h:inI lo hi u=true):∃i,u=.int i/\lo<=i/\i<=hi:=by
 cases u with
 |int i=>
  have h:(decide (lo<=i)&&decide (i<=hi))=true:=h;rw[Yaf,decide_eq_true_eq,decide_eq_true_eq]at h;exact⟨i,rfl,h⟩
 |_=>cases h
def fltN  (P:Int)(ss:List Spn)(bs st:List Int)(ws:Wn):U->Option Str
 |.tup [w,r]=>if jb4 "ring" w=true then (if jcl ss st r=true then (if barB P bs ws (tupL r)=true then none else some "bar") else some "ring") else some "shape"
 |.tup [w,s,c,_,_]=>if jb4 "split" w=true then (if inI 0 ((ss.length:Int)-1) s=true then (if inI (ws.getD (jeh s).toNat (0,0)).1 ((ws.getD (jeh s).toNat (0,0)).2-1) c=true then none else some "cut") else some "span") else some "shape"
 |_=>some "shape"
noncomputable def fU  : Option Str->U
 |none=>.non
 |some x=>.str x
structure C14 (xs:List Str)(ss:List Spn)(P:Int)(bs st:List Int):Prop where
 so:∃W,∀s∈ss,s.Ok W
 sl:ss.length<=24
 p1:1<=P
 p2:P<=600
 hs:∀z∈st,0<=z/\z<bs.length
 s7:∀z∈st,0<=z/\z<=7

def jmK   {kk:Bool->Prop}(hx:∀c∈x.cps.toList,c<128)(h:Th G u d)(hc:cmpD d=true)(q:kk (jb4 x u)):cmpU .Eq u (.str x) G kk:=by
 show eqQ u (.str x) G kk;unfold cmpD at hc;rw[Yaf,decide_eq_true_eq]at hc;cases h with
 |non=>exact q
 |bl b=>exact q
 |int i=>exact q
 |str x=>exact q
 |tup h=>exact q
 |lst g h=>
  refine .inr (.inr ⟨_,_,(Th.lst g h).du,.str _,⟨hc.1,hc.2⟩,⟨jfD (B:=0) (d:=.str x) (show x.cps.all (·< 128)=true from jhq hx),(by decide:(0:Nat)<=100)⟩,?_⟩)
  exact q
 |dic g=>exact .inl ⟨_,g,q⟩
def shB  (x:Str)(n:Int):U->Bool
 |.tup us=>decide ((us.length:Int)=n)&&jb4 x (us.headD .non)
 |_=>false
def jg4    (hx:∀c∈x.cps.toList,c<128)(m1:1<=m)(h:Td y G B N n u)(hn:n<=100)(q:Q (.bl (shB x m u)) G):jab T (k+1) jcb [u,.str x,.int m] G Q X:=by
 obtain⟨d,t,gd,hd,_⟩:=h.ex;refine⟨rfl,?_⟩;simp! only[jd7,jad,Yaa,jau t (show "tuple" ∈ ["bool", "int", "str", "list", "tuple", "dict"] by decide)]
 cases t with
 |@tup us ds hs=>
  rw[show isD (.tuple ds) "tuple" = true from rfl,if_pos rfl];simp! only[];have e:shB x m (.tup us)=(decide ((us.length:Int)=m)&&jb4 x (us.headD .non)):=rfl;rw[e]at q;by_cases c:(us.length:Int)=m
  ·rw[decide_eq_true c]at q ⊢;rw[if_pos rfl];cases hs with
   |nil=>simp at c;lia
   |@cons u0 d0 ur dr t0 tr=>
    simp! only[ix_t (jbd _ _)];have gm:=jhf (show gdDs y B (d0::dr)=true from gd) d0 YaC;have hd:Ybb (d0::dr)+1<=n:=hd;exact jmK hx t0 (jk2 gm.1 (by lia)) q
  ·rw[decide_eq_false c]at q ⊢;rw[if_neg (by decide)]
   exact q
 |_=>exact q
def jho  : ∀c∈("ring" : Str).cps.toList,c<128:=by decide +kernel
def jfV  : ∀c∈("split" : Str).cps.toList,c<128:=by decide +kernel
def jeZ  (hC:C14 xs ss P bs st)(wl:ws.length=ss.length)(h:Td y G B N n u)(hn:n<=100)(q:∀G',Sa G G'->Q (fU (if jcl ss st u=true then (if barB P bs ws (tupL u)=true then none else some ("bar" : Str)) else some ("ring" : Str))) G') :
  jab T (k+5) jdb [jao xs ss,.int P,jai bs,jai st,wsU ws,u] G Q X:=by
 obtain⟨d,t,gd,hd,_⟩:=h.ex;refine⟨rfl,?_⟩;simp! only[jdg,jad,Yaa];refine jhH (k:=k) t (jmI gd (by lia)) hC.sl λG1 s1=>?_
 cases c:jcl ss st u with
 |false=>
  have:=q G1 s1;rw[c]at this;exact this
 |true=>
  simp! only[];cases t with
  |@tup us ds hs=>
   have c':(decide (1<=us.length/\us.length<=60)&&(us.all (entB ss.length st)&&jcH (us.map (endZ ss))))=true:=c;rw[Yaf,Yaf,decide_eq_true_eq]at c';refine jmg (k:=k+1) wl hC.hs (Yc1.mp c'.2.1) c'.1.2 hC.p1 hC.p2 λG2 s2=>?_;have:=q G2 (s1.trans s2);rw[c,if_pos rfl]at this;have e:tupL (.tup us)=us:=rfl;rw[e]at this;simp! only[];cases c2:barB P bs ws us<;>rw[c2]at this<;>exact this
  |_=>cases c
def jf4   (h:shB "split" 5 u=true):∃s c lo up,u=.tup [.str "split",s,c,lo,up]:=by
 cases u with
 |tup us=>
  have h:(decide ((us.length:Int)=5)&&jb4 "split" (us.headD .non))=true:=h;rw[Yaf,decide_eq_true_eq]at h
  match us,h with
  |[w,s,c,lo,up],h=>
   cases w with
   |str w=>
    have:w = "split" := of_decide_eq_true (show decide (w = "split")=true from h.2);subst this;exact⟨_,_,_,_,rfl⟩
   |_=>cases h.2
 |_=>cases h
def jhy   (h:shB "ring" 2 u=true):∃r,u=.tup [.str "ring",r]:=by
 cases u with
 |tup us=>
  have h:(decide ((us.length:Int)=2)&&jb4 "ring" (us.headD .non))=true:=h;rw[Yaf,decide_eq_true_eq]at h
  match us,h with
  |[w,r],h=>
   cases w with
   |str w=>
    have:w = "ring" := of_decide_eq_true (show decide (w = "ring")=true from h.2);subst this;exact⟨_,rfl⟩
   |_=>cases h.2
 |_=>cases h
def jco   (h1:shB "ring" 2 u=false)(h2:shB "split" 5 u=false):fltN P ss bs st ws u=some ("shape" : Str):=by
 unfold fltN;split
 ·rename_i w r;rw[if_neg];intro z;have:shB "ring" 2 (.tup [w,r])=true:=by show(true&&jb4 "ring" w)=true;rw[z];rfl
  rw[this]at h1;cases h1
 ·rename_i w s c lo up;rw[if_neg];intro z;have:shB "split" 5 (.tup [w,s,c,lo,up])=true:=by show(true&&jb4 "split" w)=true;rw[z];rfl
  rw[this]at h2;cases h2
 ·rfl


def jef  (hC:C14 xs ss P bs st)(wl:ws.length=ss.length)(hs:Th G s ds)(hc:Th G c dc)
  (q:Q (fU (if inI 0 ((ss.length:Int)-1) s=true then (if inI (ws.getD (jeh s).toNat (0,0)).1 ((ws.getD (jeh s).toNat (0,0)).2-1) c=true then none else some ("cut" : Str)) else some ("span" : Str))) G) :
  jab T (k+3) jcq [jao xs ss,wsU ws,.tup [.str "split",s,c,lo,up]] G Q X:=by
 refine⟨rfl,?_⟩;simp! only[jcB,jad,Yaa];refine⟨trivial,?_⟩;simp! only[jbt,jao,ix_t (jaB _ _ _),Yai];refine jdE (k:=k) hs ?_
 simp! only[];cases c1:inI 0 ((ss.length:Int)-1) s with
 |false=>rw[c1]at q;exact q
 |true=>
  rw[c1,if_pos rfl]at q;rw[if_neg (by decide)]
  obtain⟨i,rfl,i0,i1⟩:=jdV c1;obtain⟨j,rfl⟩:=Yaz i0;have il:j<ws.length:=by lia
  have ew:ws[j]?=some ws[j]:=YaB il;have eg:ws.getD (jeh (.int (j:Int))).toNat (0,0)=ws[j]:=by
   show ws.getD ((j:Int)).toNat (0,0)=_;rw[YbE];simp[Yck,il]
  rw[eg]at q;simp! only[jbs,wsU,ix_t (atM ew)];show tgU _ (.tup [.int ws[j].1,.int ws[j].2]) _ _;simp! only[];refine⟨trivial,?_⟩;refine jdE (k:=k) hc ?_
  simp! only[];cases c2:inI ws[j].1 (ws[j].2-1) c<;>rw[c2]at q<;>exact q
def Td.five  {up: U}(h:Td y G B N n (.tup [u,s,c,lo,up])):∃m N1 N2 N3 N4,n=m+1/\Td y G B N1 m s/\Td y G B N2 m c/\Td y G B N3 m lo/\Td y G B N4 m up/\N3+N4+7<=N:=by
 obtain⟨m,S,rfl,rfl,hu⟩:=h.untup;obtain⟨N0,S0,a0,b0,e0⟩:=hu.uncons;obtain⟨N1,S1,a1,b1,e1⟩:=b0.uncons;obtain⟨N2,S2,a2,b2,e2⟩:=b1.uncons;obtain⟨N3,S3,a3,b3,e3⟩:=b2.uncons;obtain⟨N4,S4,a4,b4,e4⟩:=b3.uncons;exact⟨m,N1,N2,N3,N4,rfl,a1,a2,a3,a4,by lia⟩
def Td.two  (h:Td y G B N n (.tup [u,v])):∃m N1,n=m+1/\Td y G B N1 m v:=by
 obtain⟨m,S,rfl,rfl,hu⟩:=h.untup;obtain⟨N0,S0,a0,b0,e0⟩:=hu.uncons;obtain⟨N1,S1,a1,b1,e1⟩:=b0.uncons;exact⟨m,N1,rfl,a1⟩
def je0  (hC:C14 xs ss P bs st)(wl:ws.length=ss.length)(h:Td y G B N n u)(hn:n<=100)(q:∀G',Sa G G'->Q (fU (fltN P ss bs st ws u)) G') :
  jab T (k+6) jdc [jao xs ss,.int P,jai bs,jai st,wsU ws,u] G Q X:=by
 refine⟨rfl,?_⟩;simp! only[jdh,jad,Yaa];refine jg4 (k:=k+4) jho (by decide) h hn ?_
 simp! only[];cases c1:shB "ring" 2 u with
 |true=>
  rw[if_pos rfl];obtain⟨r,rfl⟩:=jhy c1;obtain⟨m,N1,rfl,hr⟩:=h.two;simp! only[ix_t (jaB _ _ _)];exact jeZ (k:=k) hC wl hr (by lia) q
 |false=>
  rw[if_neg (by decide)]
  simp! only[jbW];refine jg4 (k:=k+4) jfV (by decide) h hn ?_
  simp! only[];cases c2:shB "split" 5 u with
  |true=>
   rw[if_pos rfl];obtain⟨s,c,lo,up,rfl⟩:=jf4 c2;obtain⟨m,N1,N2,N3,N4,rfl,h1,h2,_⟩:=h.five;obtain⟨d1,t1⟩:=h1.th;obtain⟨d2,t2⟩:=h2.th;simp! only[];exact jef (k:=k+2) hC wl t1 t2 (q G Sa.refl)
  |false=>
   rw[if_neg (by decide)]
   simp! only[jbV];have:=q G Sa.refl;rw[jco c1 c2]at this;exact this
def jgc  (hC:C14 xs ss P bs st)(wl:ws.length=ss.length)(h:Td y G B N n u)(hn:n<=100)(q:∀G',Sa G G'->Q (fU (fltN P ss bs st ws u)) G') :
  jab T (k+7) jcW [wsU ws,u,jao xs ss,.int P,jai bs,jai st] G Q X:=by
 refine⟨rfl,?_⟩;simp! only[jaK,jad,Yaa];exact je0 (k:=k) hC wl h hn q
noncomputable def lowW  (ws:Wn)(j:Nat)(i:Int):Wn:=ws.set j ((ws.getD j (0,0)).1,i)
noncomputable def jcY  (ws:Wn)(j:Nat)(i:Int):Wn:=ws.set j (i+1,(ws.getD j (0,0)).2)
def jj8    (hj:j<ws.length)(wl:ws.length<=24)(q:∀p G',New G p (.lst [.tup [lo,wsU (lowW ws j i)],.tup [up,wsU (jcY ws j i)]]) G'->Q (.loc p) G') :
  jab T (k+2) jcp [wsU ws,.tup [.str "split",.int j,.int i,lo,up]] G Q X:=by
 have ew:ws[j]?=some ws[j]:=YaB hj;have eg:ws.getD j (0,0)=ws[j]:=by simp[Yck,hj]
 refine⟨rfl,?_⟩;simp! only[jaX,jad,Yaa,ix_t (jbd _ _)];rw[if_neg (by decide +kernel)]
 simp! only[jbr];refine⟨trivial,?_⟩;rw[show wsU ws=.tup (ws.map wu)from rfl,ix_t (atM ew)];show tgU _ (.tup [.int ws[j].1,.int ws[j].2]) _ _;simp! only[];refine⟨trivial,by decide,?_⟩
 refine jiH (k:=k) (ws:=ws) (w:=(ws[j].1,i)) hj wl ?_
 simp! only[];refine⟨by decide,by decide,?_⟩
 refine jiH (k:=k) (ws:=ws) (w:=(i+1,ws[j].2)) hj wl ?_
 simp! only[];refine⟨by decide,by decide,λp G' n=>?_⟩
 unfold lowW jcY at q;rw[eg]at q;exact q p G' n
def jiI   (q:∀p G',New G p (.lst []) G'->Q (.loc p) G'):jab T (k+2) jcp [wsU ws,.tup [.str "ring",r]] G Q X:=by
 refine⟨rfl,?_⟩;simp! only[jaX,jad,Yaa,ix_t (jbd _ _)];rw[if_pos (by decide +kernel)]
 simp! only[];exact⟨by decide,q⟩

abbrev Nd:=U×Wn
def stU  (x:Nd):U:=.tup [x.1,wsU x.2]
inductive Out (P:Int)(ss:List Spn)(bs st:List Int):List Nd->Nat->Option (Str×Nat)->Prop
 |nil {n:Nat}:Out P ss bs st [] n none
 |bad {s:List Nd} {u:U} {ws:Wn} {n:Nat} {x:Str}:fltN P ss bs st ws u=some x->Out P ss bs st (s++[(u,ws)]) n (some (x,n))
 |ring {s:List Nd} {r:U} {ws:Wn} {n:Nat} {o:Option (Str×Nat)}:fltN P ss bs st ws (.tup [.str "ring",r])=none->Out P ss bs st s (n+1) o->Out P ss bs st (s++[(.tup [.str "ring",r],ws)]) n o
 |split {s:List Nd} {j:Nat} {i:Int} {lo up:U} {ws:Wn} {n:Nat} {o:Option (Str×Nat)}:fltN P ss bs st ws (.tup [.str "split",.int j,.int i,lo,up])=none->Out P ss bs st (s++[(up,jcY ws j i),(lo,lowW ws j i)]) (n+1) o->Out P ss bs st (s++[(.tup [.str "split",.int j,.int i,lo,up],ws)]) n o
def jaW  {α:Type}{s t:List α}{a b:α}(h:s++[a]=t++[b]):s=t/\a=b:=by
 have:=List.append_inj' h rfl;exact⟨this.1,(List.cons.inj this.2).1⟩
def Out.uniq        (h:Out P ss bs st s n o):∀{o' },Out P ss bs st s n o'->o=o':=by
 induction h with
 |nil=>
  intro o' h';generalize e:([]:List Nd)=z at h';cases h' with
  |nil=>rfl
  |_=>simp at e
 |@bad s u ws n x hx=>
  intro o' h';generalize e:s++[(u,ws)]=z at h';cases h' with
  |nil=>simp at e
  |bad h2=>
   obtain⟨rfl,e2⟩:=jaW e;cases e2;rw[hx]at h2;cases h2;rfl
  |ring h2=>
   obtain⟨rfl,e2⟩:=jaW e;cases e2;rw[hx]at h2;cases h2
  |split h2=>
   obtain⟨rfl,e2⟩:=jaW e;cases e2;rw[hx]at h2;cases h2
 |@ring s r ws n o hx _ ih=>
  intro o' h';generalize e:s++[(U.tup [.str "ring",r],ws)]=z at h';cases h' with
  |nil=>simp at e
  |bad h2=>
   obtain⟨rfl,e2⟩:=jaW e;cases e2;rw[hx]at h2;cases h2
  |ring h2 h3=>
   obtain⟨rfl,e2⟩:=jaW e;cases e2;exact ih h3
  |split h2=>
   obtain⟨_,e2⟩:=jaW e;cases e2
 |@split s j i lo up ws n o hx _ ih=>
  intro o' h';generalize e:s++[(U.tup [.str "split",.int j,.int i,lo,up],ws)]=z at h';cases h' with
  |nil=>simp at e
  |bad h2=>
   obtain⟨rfl,e2⟩:=jaW e;cases e2;rw[hx]at h2;cases h2
  |ring h2=>
   obtain⟨_,e2⟩:=jaW e;cases e2
  |@split _ j' _ _ _ _ _ _ h2 h3=>
   obtain⟨rfl,e2⟩:=jaW e;have e3:j=j':=by simp at e2;lia
   subst e3;cases e2;exact ih h3
def jfb    (h:jb4 x u=true):u=.str x:=by
 cases u with
 |str w=>rw[of_decide_eq_true (show decide (w=x)=true from h)]
 |_=>cases h
def jko       (h:fltN P ss bs st ws u=none):(∃r,u=.tup [.str "ring",r])\/∃(j:Nat) (i:Int) (lo up:U),u=.tup [.str "split",.int j,.int i,lo,up]/\j<ss.length:=by
 unfold fltN at h;split at h
 ·rename_i w r;by_cases c:jb4 "ring" w=true
  ·rw[jfb c];exact .inl ⟨_,rfl⟩
  ·rw[if_neg c]at h;cases h
 ·rename_i w s c lo up;by_cases c1:jb4 "split" w=true
  ·rw[if_pos c1]at h;by_cases c2:inI 0 ((ss.length:Int)-1) s=true
   ·rw[if_pos c2]at h;obtain⟨a,rfl,a0,a1⟩:=jdV c2;obtain⟨j,rfl⟩:=Yaz a0;by_cases c3:inI (ws.getD (jeh (.int (j:Int))).toNat (0,0)).1 ((ws.getD (jeh (.int (j:Int))).toNat (0,0)).2-1) c=true
    ·obtain⟨i,rfl,_⟩:=jdV c3;rw[jfb c1];exact .inr ⟨j,i,lo,up,rfl,by lia⟩
    ·rw[if_neg c3]at h;cases h
   ·rw[if_neg c2]at h;cases h
  ·rw[if_neg c1]at h;cases h
 ·cases h
abbrev Nn:=Nd×Nat
structure NdOk (y:Bool)(G:Gp)(B:Nat)(ss:List Spn)(x:Nn):Prop where
 l:x.1.2.length=ss.length
 t:Td y G B x.2 99 x.1.1
def Td.pos      (h:Td y G B N n u):1<=N:=by
 obtain⟨d,_,_,_,e⟩:=h.ex;have:1<=szD d:=by
  cases d<;>(show 1<=_)<;>first|exact Nat.le_add_left _ _|decide|exact Nat.succ_le_of_lt (by decide)
 lia
theorem jf2      : ∀{l:List Nn},(∀x∈l,NdOk y G B ss x)->l.length<=(l.map (·.2)).sum
 |[],_=>Yab _
 |x::l,h=>by
  have h1:=(h x YaC).t.pos;have h2:=jf2 λz hz=>h z (Yao _ hz);rw[YaJ,YaK,List.sum_cons]
  lia
def jij  {α:Type}(l:List α):l=[]\/∃s a,l=s++[a]:=by
 rcases List.eq_nil_or_concat l with h|⟨s,a,h⟩
 ·exact .inl h
 ·exact .inr ⟨s,a,by rw[h,List.concat_eq_append]⟩
def jna     {kk:Bool->Prop}(g:G a=some (.lst us)):truU (.loc a) G kk=kk (!us.isEmpty):=by unfold truU;dsimp only;rw[g]
def mt_pop     (g:G p=some (.lst us)):mtU .pop (.loc p) G=some ("list", "list.pop"):=by unfold mtU;dsimp only;rw[g]
def jkT     (g:G a=some (.lst xs)):mtU .extend (.loc a) G=some ("list", "list.extend"):=by unfold mtU;dsimp only;rw[g]
def joN      (g:G a=some (.lst xs))(g':G b=some (.lst ys)):jaI .extend (.loc a) [.loc b] G Q=(xs.length+ys.length<=Yag/\putO G a (.lst (xs++ys)) (Q .non)):=by unfold jaI jgz;dsimp only;rw[g,g']
def jnu      (g:G a=some (.lst us)):revU (.loc a) (.int (-1)) G Q=newO G (.lst us.reverse) Q:=by
 unfold revU lsG;dsimp only;rw[g];simp
def jkL       (g:G p=some (.lst (us++[u])))(q:∀G',Put G p (.lst us) G'->Q u G'):jaI .pop (.loc p) [] G Q:=by
 dsimp only[jaI];unfold popU;dsimp only;rw[g];dsimp only;have e1:(us++[u])[(us++[u]).length-1]?=some u:=by simp
 have e2:(us++[u]).dropLast=us:=by simp
 rw[e1,e2];exact λG' h=>q G' h
def jjQ    (s:Sa G G')(h:G' p=none):G p=none:=by
 cases e:G p with
 |none=>rfl
 |some o=>rw[s _ _ e]at h;cases h


def jpW  (hC:C14 xs ss P bs st)(h:Td y G B N 99 th)(hN:N<=100000)(w0l:w0.length=ss.length)(qt:∀G',Sa G G'->Out P ss bs st [(th,w0)] 0 none->Q (.bl true) G')(qx:∀x m G',Sa G G'->Out P ss bs st [(th,w0)] 0 (some (x,m))->m<=100000->X ⟨1,[.str x,.int m]⟩ G') :
  jab T (k+8) jcT [th,wsU w0,.non,.non,.non,.non,.non,jao xs ss,.int P,jai bs,jai st] G Q X:=by
 refine⟨rfl,?_⟩;simp! only[jaJ,jad,Yaa];refine⟨by decide,by decide,λpl G2 n2=>?_⟩
 dsimp only;rw[S_wh];have frm:∀{Ga Gb:Gp} {u:MO},Sa G Ga->Put Ga pl u Gb->Sa G Gb:=λ{Ga Gb u} s w b z e=>w.sm _ _ (λy=>by rw[y,n2.no]at e;cases e) (s b z e)
 refine⟨λn ς G'=>∃(l:List Nn) (i:Nat) (o4 o5 o6:Option U),ς=[some th,some (wsU w0),some (.loc pl),some (.int i),o4,o5,o6,some (jao xs ss),some (.int P),some (jai bs),some (jai st)]/\n=(l.map (·.2)).sum/\n+i<=100000/\Sa G G'/\G' pl=some (.lst ((l.map (·.1)).map stU))/\(∀x∈l,NdOk y G B ss x)/\∀o,Out P ss bs st (l.map (·.1)) i o->Out P ss bs st [(th,w0)] 0 o,
  ⟨N+0,[((th,w0),N)],0,some .non,some .non,some .non,rfl,rfl,by lia,n2.sa,n2.at,λx hx=>?_,λo (h:Out P ss bs st [(th,w0)] 0 o)=>h⟩,?_⟩
 ·rw[List.mem_singleton.mp hx];exact⟨w0l,h⟩
 rintro n ς G3 ⟨l,i,o4,o5,o6,rfl,rfl,hn,s3,g3,hl,ho⟩;have ll:=jf2 hl;simp! only[];rcases jij l with rfl|⟨l,x,rfl⟩
 ·rw[jna g3,if_neg (by simp)]
  simp! only[];exact qt G3 s3 (ho none .nil)
 ·rw[jna g3,if_pos (by simp)]
  obtain⟨⟨u,ws⟩,N1⟩:=x;have hx:=hl ((u,ws),N1) (by simp)
  have hl':∀x∈l,NdOk y G B ss x:=λx hx=>hl x (by simp[hx])
  have wl:ws.length=ss.length:=hx.l;have hu:Td y G B N1 99 u:=hx.t;rw[Yav,Yav]at g3;have e0:((l++[((u,ws),N1)]).map (·.2)).sum=(l.map (·.2)).sum+N1:=by simp
  rw[e0]at hn ⊢;rw[Yav]at ho;have ho:∀o,Out P ss bs st (l.map (·.1)++[(u,ws)]) i o->Out P ss bs st [(th,w0)] 0 o:=ho;have g3:G3 pl=some (.lst ((l.map (·.1)).map stU++[.tup [u,wsU ws]])):=g3;simp! only[ja7,mt_pop g3];refine jkL g3 λG4 p4=>?_;have g4:=p4.at
  have s4:=frm s3 p4;simp! only[];refine⟨trivial,?_⟩;refine jgc (k:=k) hC wl (hu.sa s4) (by decide) λG5 s5=>?_
  have s45:=s4.trans s5;have g5:=s5 _ _ g4;simp! only[];cases c:fltN P ss bs st ws u with
  |some x=>
   exact⟨rfl,qx x i G5 s45 (ho _ (.bad c)) (by lia)⟩
  |none=>
   simp! only[fU];rw[show ∀kk:Bool->Prop,isU .non .non kk=kk true from λ_=>rfl,if_neg (by decide)]
   rcases jko c with⟨r,rfl⟩|⟨j,a,lo,up,rfl,hj⟩
   ·simp! only[jkT g5];refine jiI (k:=k+5) λp6 G6 n6=>?_;have g6:=n6.sa _ _ g5;simp! only[];rw[jnu n6.at];intro p7 G7 n7;rw[joN (n7.sa _ _ g6) n7.at];refine⟨?_,λG8 p8=>?_⟩
    ·refine Yah (m:=100000) ?_ (by decide)
     simp only[Yai,YfQ,Yb0,Yar,YbZ]at ll ⊢
     lia
    have s8:=frm (s45.trans (n6.sa.trans n7.sa)) p8;have g8:=p8.at
    simp only[YfQ,Ya7]at g8;simp! only[];have:=hu.pos;exact⟨(l.map (·.2)).sum,by lia,l,i+1,_,_,_,rfl,rfl,by lia,s8,g8,hl',λo h=>ho o (.ring c h)⟩
   ·obtain⟨m,N2,N3,N4,N5,em,h2,h3,h4,h5,hs⟩:=hu.five;cases em;simp! only[jkT g5];refine jj8 (k:=k+5) (ws:=ws) (by lia) (by have:=hC.sl;lia) λp6 G6 n6=>?_
    have g6:=n6.sa _ _ g5;simp! only[];rw[jnu n6.at];intro p7 G7 n7;rw[joN (n7.sa _ _ g6) n7.at];refine⟨?_,λG8 p8=>?_⟩
    ·refine Yah (m:=200000) ?_ (by decide)
     simp only[Yai,List.length_reverse,YaJ,Yb0,Yar]at ll ⊢
     lia
    have s8:=frm (s45.trans (n6.sa.trans n7.sa)) p8;have g8:=p8.at
    simp! only[];have e8:(l.map (·.1)).map stU++[U.tup [lo,wsU (lowW ws j a)],.tup [up,wsU (jcY ws j a)]].reverse=((l++[((up,jcY ws j a),N5),((lo,lowW ws j a),N4)]).map (·.1)).map stU:=by
     rw[Yav,Yav];rfl
    rw[e8]at g8;have up99:∀{N:Nat} {u:U},Td y G B N 98 u->Td y G B N 99 u:=λh=>h.up (Yab _) (Yab _) (by decide)
    refine⟨(l.map (·.2)).sum+(N5+N4),by lia,l++[((up,jcY ws j a),N5),((lo,lowW ws j a),N4)],i+1,_,_,_,rfl,by simp,by lia,s8,g8,λx hx=>?_,λo h=>ho o (.split c ?_)⟩
    ·rcases List.mem_append.mp hx with h|h
     ·exact hl' x h
     ·simp only[YaW,YaE,or_false]at h;rcases h with rfl|rfl
      ·exact⟨by show(jcY ws j a).length=_;unfold jcY;rw[YcC];exact wl,up99 h5⟩
      ·exact⟨by show(lowW ws j a).length=_;unfold lowW;rw[YcC];exact wl,up99 h4⟩
    ·rw[Yav]at h;exact h

noncomputable def oU  : Option (Str×Nat)->U
 |none=>.non
 |some (x,n)=>.tup [.str x,.int n]
section
variable {k:Nat}{G:Gp}{Q:K1}{X:KX}{xs:List Str}{ss:List Spn}{ws w0:Wn}{P:Int}{bs st:List Int}{u v th:U}{us:List U}{y:Bool}{B N S n:Nat}
def jda  (hC:C14 xs ss P bs st)(h:Td y G B N 99 th)(hN:N<=100000)(qt:∀G',Sa G G'->Out P ss bs st [(th,winO P ss)] 0 none->Q (.bl true) G')(qx:∀x m G',Sa G G'->Out P ss bs st [(th,winO P ss)] 0 (some (x,m))->m<=100000->X ⟨1,[.str x,.int m]⟩ G') :
  jab T (k+9) jaQ [jao xs ss,.int P,jai bs,jai st,th] G Q X:=by
 obtain⟨W,so⟩:=hC.so;refine⟨rfl,?_⟩;simp! only[jaR,jad,Yaa];refine jhF (k:=k+5) so hC.sl λG1 s1=>?_;exact jpW (k:=k) hC (h.sa s1) hN (Yai _) (λG2 s2=>qt G2 (s1.trans s2)) λx m G2 s2=>qx x m G2 (s1.trans s2)
def jmc  (hC:C14 xs ss P [] [])(h:Td y G B N 99 th)(hN:N<=100000)(qt:∀G',Sa G G'->Out P ss [] [] [(th,winO P ss)] 0 none->Q (.bl true) G')(qx:∀x m G',Sa G G'->Out P ss [] [] [(th,winO P ss)] 0 (some (x,m))->m<=100000->X ⟨1,[.str x,.int m]⟩ G') :
  jab T (k+10) jdK [jao xs ss,.int P,th] G Q X:=by
 refine⟨rfl,?_⟩;simp! only[jd0,jad,Yaa];exact⟨by decide,by decide,jda (k:=k) (bs:=[]) (st:=[]) hC h hN qt qx⟩
def jhi   {m n:Int}:YaR (.tuple [.str a,.int m]) (.tuple [.str w,.int n])=(decide (a=w)&&decide (m=n)):=by
 have e1:YaR (.str a) (.str w)=decide (a=w):=by
  simp only[YaR];rw[Ybf];simp
 have e2:YaR (.int m) (.int n)=decide (m=n):=by
  simp only[YaR];rw[Ybf];simp
 show Ydm [.str a,.int m] [.str w,.int n]=_;simp only[Ydm,e1,e2,Bool.and_true]
def jkl  {w:Str}{n:Int}{kk:Bool->Prop}(hw:∀c∈w.cps.toList,c<128)(q:kk ((decide (("ring" : Str)=w)&&decide ((2:Int)=n))||(decide (("split" : Str)=w)&&decide ((5:Int)=n)))):inU (.tup [.str w,.int n]) (.tup [.tup [.str "ring",.int 2],.tup [.str "split",.int 5]]) G kk:=by
 have du:∀(x:Str) (i:Int),DU G (.tup [.str x,.int i]) (.tuple [.str x,.int i]):=λx i=>.tup (.cons (.str x) (.cons (.int i) .nil));have sm:∀(x:Str) (i:Int),(∀c∈x.cps.toList,c<128)->Small (.tuple [.str x,.int i]):=λx i h=>by
  have:(Yen x).canLay0=true:=jfD (B:=0) (d:=.str x) (show x.cps.all (·< 128)=true from jhq h);refine⟨?_,by show max 0 (max 0 0)+1<=100;decide⟩
  show((Yen x).canLay0&&(true&&true))=true;rw[this];rfl
 refine .inr ⟨_,_,du _ _,.cons (du _ _) (.cons (du _ _) .nil),sm _ _ hw,λe he=>?_,?_⟩
 ·simp only[YaW,YaE,or_false]at he;rcases he with rfl|rfl
  ·exact sm _ _ jho
  ·exact sm _ _ jfV
 ·rw[Ybc,Ybc,List.any_nil,jhi,jhi,Bool.or_false];exact q
def jkB    (hs:s<ws.length):cut (ws.map wu) none (some (s:Int))++[wu w]++cut (ws.map wu) (some ((s:Int)+1)) none=(ws.set s w).map wu:=by
 have e1:cut (ws.map wu) none (some (s:Int))=(ws.take s).map wu:=by rw[jfJ,YeI]
 have e2:cut (ws.map wu) (some ((s:Int)+1)) none=(ws.drop (s+1)).map wu:=by
  have:=jds (ws.map wu) (s+1);rw[YeJ];exact this
 rw[e1,e2,YdB,if_pos hs];simp
def joW    : (cut us lo hi).length<=us.length:=by
 unfold cut;rw[Ycb,Ycc];lia
def jlv   (h:Td y G B N n (.str x)):∀c∈x.cps.toList,c<128:=h.unstr.1
def Td.hd  (h:Td y G B N n (.tup (u::us))):∃m N',Td y G B N' m u:=by
 obtain⟨m,S,rfl,rfl,hu⟩:=h.untup;obtain⟨N0,S0,a0,b0,e0⟩:=hu.uncons;exact⟨_,_,a0⟩
end


def jg3  (hC:C14 xs ss P bs st)(h:Td y G B N 99 th)(hN:N<=100000)(q:∀o G',Sa G G'->Out P ss bs st [(th,winO P ss)] 0 o->(∀x m,o=some (x,m)->m<=100000)->Q (oU o) G'):jab T (k+5) jb9 [jao xs ss,.int P,jai bs,jai st,th] G Q X:=by
 obtain⟨W,so⟩:=hC.so;have sl:=hC.sl;refine⟨rfl,?_⟩;simp! only[jd1,jad,Yaa];refine jiJ (k:=k+2) so sl λG1 s1=>⟨by decide,by decide,λpl G2 n2=>?_⟩
 simp! only[jcj];rw[S_wh];have npl:G pl=none:=jjQ s1 n2.no;have frm:∀{Ga Gb:Gp} {u:MO},Sa G Ga->Put Ga pl u Gb->Sa G Gb:=λ{Ga Gb u} s w b z e=>w.sm _ _ (λy=>by rw[y,npl]at e;cases e) (s b z e)
 refine⟨λn ς G'=>∃(l:List Nn) (i:Nat) (o7 o8 o9 o10 o11 o12:Option U),ς=[some (jao xs ss),some (.int P),some (jai bs),some (jai st),some th,some (.loc pl),some (.int i),o7,o8,o9,o10,o11,o12]/\n=(l.map (·.2)).sum/\n+i<=100000/\Sa G G'/\G' pl=some (.lst ((l.map (·.1)).map stU))/\(∀x∈l,NdOk y G B ss x)/\∀o,Out P ss bs st (l.map (·.1)) i o->Out P ss bs st [(th,winO P ss)] 0 o,
  ⟨N+0,[((th,winO P ss),N)],0,_,_,_,_,_,_,rfl,rfl,by lia,s1.trans n2.sa,n2.at,λx hx=>?_,λo (h:Out P ss bs st [(th,winO P ss)] 0 o)=>h⟩,?_⟩
 ·rw[List.mem_singleton.mp hx];exact⟨Yai _,h⟩
 rintro n ς G3 ⟨l,i,o7,o8,o9,o10,o11,o12,rfl,rfl,hn,s3,g3,hl,ho⟩;have ll:=jf2 hl;simp! only[];refine⟨by decide,λpn G4 n4=>?_⟩
 have g4:=n4.sa _ _ g3;have s4:=s3.trans n4.sa;simp! only[];refine .inl ⟨_,g4,n4.at,?_⟩;rcases jij l with rfl|⟨l,x,rfl⟩
 ·rw[if_neg (by simp)]
  simp! only[jci];exact q none G4 s4 (ho none .nil) λx m e=>nomatch e
 ·rw[if_pos (by simp)]
  obtain⟨⟨u,ws⟩,N1⟩:=x;have hx:=hl ((u,ws),N1) (by simp)
  have hl':∀x∈l,NdOk y G B ss x:=λx hx=>hl x (by simp[hx])
  have wl:ws.length=ss.length:=hx.l;have hu:Td y G B N1 99 u:=hx.t;rw[Yav,Yav]at g4;have e0:((l++[((u,ws),N1)]).map (·.2)).sum=(l.map (·.2)).sum+N1:=by simp
  rw[e0]at hn ⊢;rw[Yav]at ho;have ho:∀o,Out P ss bs st (l.map (·.1)++[(u,ws)]) i o->Out P ss bs st [(th,winO P ss)] 0 o:=ho;have g4:G4 pl=some (.lst ((l.map (·.1)).map stU++[.tup [u,wsU ws]])):=g4;have np:=hu.pos;simp! only[jbo,mt_pop g4];refine jkL g4 λG5 p5=>?_;have g5:=p5.at
  have s5:=frm s4 p5;simp! only[];refine⟨trivial,?_⟩;have hu5:=hu.sa s5;obtain⟨d,t⟩:=hu5.th;have bad:∀x,fltN P ss bs st ws u=some x->∀G',Sa G5 G'->Q (.tup [.str x,.int i]) G':=λx e G' s=>q (some (x,i)) G' (s5.trans s) (ho _ (.bad e)) λy m e=>by cases e;lia
  simp! only[jbn,jau t (show "tuple" ∈ ["bool", "int", "str", "list", "tuple", "dict"] by decide)]
  have non:(∀us,u≠.tup us)->fltN P ss bs st ws u=some ("shape" : Str):=λz=>jco (by cases u<;>first|rfl|exact absurd rfl (z _)) (by cases u<;>first|rfl|exact absurd rfl (z _))
  cases t with
  |@tup us ds hs=>
   rw[show isD (.tuple ds) "tuple" = true from rfl,if_neg (by decide)]
   simp! only[];cases hs with
   |nil=>
    rw[if_pos (by decide)]
    exact⟨by decide,bad _ (jco rfl rfl) G5 Sa.refl⟩
   |@cons u0 d0 ur dr t0 tr=>
    rw[if_neg (by simp;lia)]
    simp! only[ix_t (jbd _ _),jau t0 (show "str" ∈ ["bool", "int", "str", "list", "tuple", "dict"] by decide)]
    have nos:(∀w,u0≠.str w)->fltN P ss bs st ws (.tup (u0::ur))=some ("shape" : Str):=λz=>by
     have z1:∀x:Str,jb4 x u0=false:=λx=>by cases u0<;>first|rfl|exact absurd rfl (z _)
     exact jco (by show(_&&jb4 "ring" u0)=false;rw[z1,Yew]) (by show(_&&jb4 "split" u0)=false;rw[z1,Yew])
    cases t0 with
    |str w=>
     obtain⟨m0,N0,hw⟩:=hu5.hd;rw[show isD (Yen w) "str" = true from rfl,if_neg (by decide)]
     simp! only[jbm,ix_t (jbd _ _)];refine⟨by decide,by decide,by decide,by decide,jkl (jlv hw) ?_⟩
     by_cases c1:("ring" : Str)=w/\ur.length=1
     ·obtain⟨rfl,c1⟩:=c1;obtain⟨r,rfl⟩:∃r,ur=[r]:=by
       match ur,c1 with
       |[r],_=>exact⟨r,rfl⟩
      rw[show [r].length=1 from rfl,if_neg (by decide +kernel)]
      have hr:=hu5.two;obtain⟨m1,N1',em,hr⟩:=hr;obtain⟨d1,t1⟩:=hr.th;simp! only[jaP,ix_t (jbd _ _)];rw[if_pos (by decide +kernel)]
      simp! only[];rw[ix_t (jaB _ _ _)];refine jkb (k:=k+1) t1 hC.s7 sl λG6 s6=>?_;simp! only[];have fr:fltN P ss bs st ws (.tup [.str "ring",r])=(if jcl ss st r=true then (if barB P bs ws (tupL r)=true then none else some ("bar" : Str)) else some ("ring" : Str)):=rfl
      cases c2:jcl ss st r with
      |false=>
       rw[c2,if_neg (by decide)]at fr
       exact⟨by decide,bad _ fr G6 s6⟩
      |true=>
       rw[c2,if_pos rfl]at fr;obtain⟨rs,rfl,c3⟩:∃rs,r=.tup rs/\(decide (1<=rs.length/\rs.length<=60)&&(rs.all (entB ss.length st)&&jcH (rs.map (endZ ss))))=true:=by
        cases r with
        |tup rs=>exact⟨rs,rfl,c2⟩
        |_=>cases c2
       rw[Yaf,Yaf]at c3;rw[if_neg (by decide)]
       simp! only[];rw[ix_t (jaB _ _ _)];refine jka (k:=k+3) wl hC.hs (Yc1.mp c3.2.1) ?_;refine jkc (k:=k+3) hC.p1 hC.p2 ?_;have eb:barB P bs ws rs=decide (sHi bs ws rs/P*P<sLo bs ws rs):=rfl;rw[<- eb];simp! only[];have et:tupL (.tup rs)=rs:=rfl;rw[et]at fr;cases c4:barB P bs ws rs with
       |false=>
        rw[c4,if_neg (by decide)]at fr
        exact⟨by decide,bad _ fr G6 s6⟩
       |true=>
        rw[c4,if_pos rfl]at fr;rw[if_neg (by decide)]
        simp! only[jaO];exact⟨(l.map (·.2)).sum,by lia,l,i+1,_,_,_,_,_,_,rfl,rfl,by lia,s5.trans s6,s6 _ _ g5,hl',λo h=>ho o (.ring fr h)⟩
     ·by_cases c2:("split" : Str)=w/\ur.length=4
      ·obtain⟨rfl,c2⟩:=c2;obtain⟨s,c,lo,up,rfl⟩:∃s c lo up,ur=[s,c,lo,up]:=by
        match ur,c2 with
        |[s,c,lo,up],_=>exact⟨s,c,lo,up,rfl⟩
       rw[show [s,c,lo,up].length=4 from rfl,if_neg (by decide +kernel)]
       obtain⟨m1,N2,N3,N4,N5,em,h2,h3,_⟩:=hu5.five;obtain⟨m2,N2',N3',N4',N5',em2,_,_,h4,h5,hs⟩:=hu.five;obtain⟨d2,t2⟩:=h2.th;obtain⟨d3,t3⟩:=h3.th;simp! only[jaP,ix_t (jbd _ _)];rw[if_neg (by decide +kernel)]
       simp! only[ja4];rw[ix_t (jaB _ _ _),ix_t (jh3 _ _ _ _)];refine⟨trivial,?_⟩;simp! only[ja3,jao,ix_t (jaB _ _ _),Yai];refine jbD (k:=k+3) t2 ?_;simp! only[];have fr:fltN P ss bs st ws (.tup [.str "split",s,c,lo,up])=(if inI 0 ((ss.length:Int)-1) s=true then (if inI (ws.getD (jeh s).toNat (0,0)).1 ((ws.getD (jeh s).toNat (0,0)).2-1) c=true then none else some ("cut" : Str)) else some ("span" : Str)):=rfl
       cases c3:inI 0 ((ss.length:Int)-1) s with
       |false=>
        rw[c3,if_neg (by decide)]at fr
        exact⟨by decide,bad _ fr G5 Sa.refl⟩
       |true=>
        rw[c3,if_pos rfl]at fr;rw[if_neg (by decide)]
        obtain⟨a,rfl,a0,a1⟩:=jdV c3;obtain⟨j,rfl⟩:=Yaz a0;have il:j<ws.length:=by lia
        have ew:ws[j]?=some ws[j]:=YaB il;have eg:ws.getD j (0,0)=ws[j]:=by simp[Yck,il]
        have eg2:ws.getD (jeh (.int (j:Int))).toNat (0,0)=ws[j]:=by
         show ws.getD ((j:Int)).toNat (0,0)=_;rw[YbE];exact eg
        rw[eg2]at fr;simp! only[ja2,wsU,ix_t (atM ew)];show tgU _ (.tup [.int ws[j].1,.int ws[j].2]) _ _;simp! only[];refine⟨trivial,?_⟩;simp! only[ja1];refine jbD (k:=k+3) t3 ?_;simp! only[];cases c4:inI ws[j].1 (ws[j].2-1) c with
        |false=>
         rw[c4,if_neg (by decide)]at fr
         exact⟨by decide,bad _ fr G5 Sa.refl⟩
        |true=>
         rw[c4,if_pos rfl]at fr;rw[if_neg (by decide)]
         obtain⟨ct,rfl,_,_⟩:=jdV c4;have i3:atI [U.str "split",.int j,.int ct,lo,up] 3=some lo:=rfl;have i4:atI [U.str "split",.int j,.int ct,lo,up] 4=some up:=rfl;simp! only[ja0,jfv g5];rw[ix_t i4];have wl2:(ws.map wu).length<=24:=by rw[Yai,wl];exact sl
         have cl1:=joW (us:=ws.map wu) (lo:=none) (hi:=some (j:Int));have cl2:=joW (us:=ws.map wu) (lo:=some ((j:Int)+1)) (hi:=none);have b1:(cut (ws.map wu) none (some (j:Int))).length+(0+1)<=Yag:=Yah (show _<=30 by lia) (by decide)
         have b2:∀u:U,(cut (ws.map wu) none (some (j:Int))++[u]).length+(cut (ws.map wu) (some ((j:Int)+1)) none).length<=Yag:=λu=>Yah (show _<=60 by rw[Yar,YbZ];lia) (by decide)
         have ln:∀m:Nat,m<=200000->m<Yag:=λm hm=>YaS hm (by decide)
         rw[Yar,YbZ,e0]at ll;refine⟨by decide,by decide,b1,b2 _,by decide,?_⟩
         rw[show(U.tup [.int (ct+1),.int ws[j].2])=wu (ct+1,ws[j].2)from rfl,jkB il,jky g5];refine⟨ln _ (by rw[Yai,Yai];lia),λG6 p6=>?_⟩
         have g6:=p6.at
         simp! only[jaZ,jfv g6];rw[ix_t i3];refine⟨by decide,by decide,b1,b2 _,by decide,?_⟩
         rw[show(U.tup [.int ws[j].1,.int ct])=wu (ws[j].1,ct)from rfl,jkB il,jky g6];refine⟨ln _ (by rw[Yar,Yai,Yai,YbZ];lia),λG7 p7=>?_⟩
         simp! only[jaO];have e7:((l.map (·.1)).map stU++[U.tup [up,.tup ((ws.set j (ct+1,ws[j].2)).map wu)]])++[U.tup [lo,.tup ((ws.set j (ws[j].1,ct)).map wu)]]=((l++[((up,jcY ws j ct),N5'),((lo,lowW ws j ct),N4')]).map (·.1)).map stU:=by
          unfold jcY lowW;rw[eg];simp[stU,wsU]
         have g7:=p7.at
         rw[e7]at g7;have em3:m2<=99:=by lia
         have up99:∀{N:Nat} {u:U},Td y G B N m2 u->Td y G B N 99 u:=λh=>h.up (Yab _) (Yab _) em3;refine⟨(l.map (·.2)).sum+(N5'+N4'),by lia,l++[((up,jcY ws j ct),N5'),((lo,lowW ws j ct),N4')],i+1,_,_,_,_,_,_,rfl,by simp,by lia,frm (frm s5 p6) p7,g7,λx hx=>?_,λo h=>ho o (.split fr ?_)⟩
         ·rcases List.mem_append.mp hx with h|h
          ·exact hl' x h
          ·simp only[YaW,YaE,or_false]at h;rcases h with rfl|rfl
           ·exact⟨by show(jcY ws j ct).length=_;unfold jcY;rw[YcC];exact wl,up99 h5⟩
           ·exact⟨by show(lowW ws j ct).length=_;unfold lowW;rw[YcC];exact wl,up99 h4⟩
         ·rw[Yav]at h;exact h
      ·have z:((decide (("ring" : Str)=w)&&decide ((2:Int)=((U.str w::ur).length:Nat)))||(decide (("split" : Str)=w)&&decide ((5:Int)=((U.str w::ur).length:Nat))))=false:=by
        rw[<- Yc8,<- Yc8,decide_eq_false,decide_eq_false]
        ·rfl
        ·rintro⟨a,b⟩;exact c2 ⟨a,by rw[YaJ]at b;lia⟩
        ·rintro⟨a,b⟩;exact c1 ⟨a,by rw[YaJ]at b;lia⟩
       have z1:shB "ring" 2 (.tup (.str w::ur))=false:=by
        show(decide (((U.str w::ur).length:Int)=2)&&decide (w = "ring"))=false;rw[<- Yc8,decide_eq_false];rintro⟨a,b⟩;exact c1 ⟨b.symm,by rw[YaJ]at a;lia⟩
       have z2:shB "split" 5 (.tup (.str w::ur))=false:=by
        show(decide (((U.str w::ur).length:Int)=5)&&decide (w = "split"))=false;rw[<- Yc8,decide_eq_false];rintro⟨a,b⟩;exact c2 ⟨b.symm,by rw[YaJ]at a;lia⟩
       rw[YaJ]at z
       first
        |rw[z]
        |(rw[show(((ur.length+1:Nat)):Int)=(ur.length:Int)+1 by lia]at z;rw[z])
       rw[if_pos (by decide)]
       exact⟨by decide,bad _ (jco z1 z2) G5 Sa.refl⟩
    |_=>exact⟨by decide,bad _ (nos (λ_ z=>by cases z)) G5 Sa.refl⟩
  |_=>exact⟨by decide,bad _ (non (λ_ z=>by cases z)) G5 Sa.refl⟩

noncomputable def W5  : List Str:=["shape", "ring", "bar", "span", "cut"]
def jkn        (h:fltN P ss bs st ws u=some x):x∈W5:=by
 unfold fltN at h;have e:∀{y:Str},y∈W5->some y=some x->x∈W5:=λhy z=>by cases z;exact hy
 split at h
 ·split at h
  ·split at h
   ·split at h
    ·cases h
    ·exact e (by simp[W5]) h
   ·exact e (by simp[W5]) h
  ·exact e (by simp[W5]) h
 ·split at h
  ·split at h
   ·split at h
    ·cases h
    ·exact e (by simp[W5]) h
   ·exact e (by simp[W5]) h
  ·exact e (by simp[W5]) h
 ·exact e (by simp[W5]) h
def jg2        (h:Out P ss bs st s n o):∀{x } {m },o=some (x,m)->x∈W5:=by
 induction h with
 |nil=>intro x m e;cases e
 |bad hx=>intro x m e;cases e;exact jkn hx
 |ring _ _ ih=>exact ih
 |split _ _ ih=>exact ih
def jo4  : ∀x∈W5,x.length<=5/\∀c∈x.cps.toList,c<128:=by decide +kernel
def jje     (h:gdD y B d=true)(hB:B<=10 ^ 40)(hN:szD d<=16000000)(hn:d.depth<=60):Fits 16000000 60 d:=⟨(jjJ hB h).1,Yah (jjJ hB h).2 hN,hn⟩
def jkP   (hw:∀x m,o=some (x,m)->x∈W5)(hm:∀x m,o=some (x,m)->m<=100000):∃z ,∀G Q ,Q (.str z) G->jip [oU o] G Q:=by
 match o,hw,hm with
 |none,_,_=>exact⟨_,λG Q q=>⟨.none,.non,jje (y:=true) (B:=0) rfl (Ya8 _) (by decide) (by decide),q⟩⟩
 |some (x,m),hw,hm=>
  have h1:=jo4 x (hw x m rfl);have h2:=hm x m rfl;refine⟨_,λG Q q=>⟨.tuple [.str x,.int m],.tup (.cons (.str x) (.cons (.int _) .nil)),jje (y:=true) (B:=BB) ?_ (by decide) ?_ ?_,q⟩⟩
  ·show(x.cps.all (·< 128)&&(decide ((m:Int).natAbs<BB)&&true))=true;rw[jhq h1.2,decide_eq_true (show(m:Int).natAbs<BB from YaS (by lia:(m:Int).natAbs<=100000) (by decide))];rfl
  ·show(10*x.length+2)+2+(50+2+0)+3<=16000000
   lia
  ·show max 0 (max 0 0)+1<=60;decide

def jhG  (hC:C14 xs ss P [] [])(h:Td y G B N 99 th)(hN:N<=100000)(q:∀o G',Sa G G'->Out P ss [] [] [(th,winO P ss)] 0 o->(∀x m,o=some (x,m)->m<=100000)->Q (oU o) G'):jab T (k+11) jcr [jao xs ss,.int P,th] G Q X:=by
 refine⟨rfl,?_⟩;simp! only[jcD,jad,Yaa];refine⟨by decide,?_⟩
 simp! only[jbu];refine jmc (k:=k) hC h hN (λG1 s1 o=>?_) λx m G1 s1 o hm=>⟨.inl trivial,?_⟩
 ·simp! only[ja5];exact q none G1 s1 o λx m e=>nomatch e
 ·simp[hsH,hvH,jbU,lit1,litH,atsH,atH,clsF,clsA,-YdE];simp! only[ja5];exact q (some (x,m)) G1 s1 o λx m e=>by cases e;exact hm
def jdF  (hC:C14 xs ss P bs st)(h:Td y G B N 99 th)(hN:N<=100000)(q:∀o G',Sa G G'->Out P ss bs st [(th,winO P ss)] 0 o->(∀x m,o=some (x,m)->m<=100000)->Q (oU o) G'):jab T (k+10) ja9 [jao xs ss,.int P,jai bs,jai st,th] G Q X:=by
 refine⟨rfl,?_⟩;simp! only[jbb,jad,Yaa];refine⟨by decide,?_⟩
 simp! only[jaS];refine jda (k:=k) hC h hN (λG1 s1 o=>?_) λx m G1 s1 o hm=>⟨.inl trivial,?_⟩
 ·simp! only[jay];exact q none G1 s1 o λx m e=>nomatch e
 ·simp[hsH,hvH,jbU,lit1,litH,atsH,atH,clsF,clsA,-YdE];simp! only[jay];exact q (some (x,m)) G1 s1 o λx m e=>by cases e;exact hm
def jgf   {m:Nat}(hf:Fd G f c)(hp:G p≠none)(hpf:p≠f)(g:G a=some (.dK []))(q:∀u' G',Od (mk p G') BB 100 2 u'->Fd G' f c->Sm f G G'->Q u' G'):jab T (k+3) jbQ [.loc f,.loc a,.int m] G Q X:=by
 refine⟨rfl,?_⟩;simp! only[jcZ,jad,Yaa,jau (Th.dic g) (show "tuple" ∈ ["bool", "int", "str", "list", "tuple", "dict"] by decide)]
 rw[show isD (.dict []) "tuple" = false from rfl,if_neg (by decide)]
 simp! only[jap,jau (Th.dic g) (show "tuple" ∈ ["bool", "int", "str", "list", "tuple", "dict"] by decide)]
 rw[show isD (.dict []) "tuple" = false from rfl,if_neg (by decide)]
 simp! only[jaL,jau (Th.dic g) (show "int" ∈ ["bool", "int", "str", "list", "tuple", "dict"] by decide)]
 exact jcS (k:=k) hf hp hpf q

def jqj  {i:Int}(h:i.natAbs<=100000):i.natAbs<BB:=YaS h (by decide)
noncomputable def jcR  : U:=.tup [.str "ring",.tup [.tup [.int 0,.int 1],.tup [.int 0,.int (-1)]]]
def jnb     (h:s.Ok W)(p1:1<=P)(p2:P<=600):topO P s<=11000:=by
 have:=h.lo;unfold topO;split<;>lia

def jdv   (h:i.natAbs<=100000):Td y G BB 50 n (.int i):=Td.int (jqj h) (Yab _)
def jbl    (h:x.length<=m/\∀c∈x.cps.toList,c<128):Td y G B (10*m+2) n (.str x):=Td.str h.2 (by have:=h.1;lia)
def jeR  : Td true G BB 270 3 jcR:=by
 have I:∀{i:Int} {n:Nat},i.natAbs<=100000->Td true G BB 50 n (.int i):=λh=>jdv h;have P:∀{i:Int},i.natAbs<=100000->Td true G BB 107 1 (.tup [.int 0,.int i]):=λh=>(Tds.cons (I (by decide)) (Tds.one (I h))).tup
 exact(Tds.cons (jbl (m:=4) (by decide +kernel)) (Tds.one (Tds.cons (P (by decide)) (Tds.one (P (by decide)))).tup)).tup.up (Yab _) (by decide) (by decide)
def jjG   (h:i.natAbs<=100000)(hv:Td true G BB N n v)(he:Td true G BB N' n e):Td true G BB (N+N'+165) (n+1) (.tup [.str "split",.int 0,.int i,v,e]):=
 (Tds.cons (jbl (m:=5) (by decide +kernel)) (Tds.cons (jdv (by decide)) (Tds.cons (jdv h) (Tds.cons hv (Tds.one he))))).tup.up (Yab _) (by lia) (Yab _)
def jmf  (so:∀s∈ss,s.Ok W)(p1:1<=P)(p2:P<=600)(q:∀u,(∀G,Td true G BB 5000 13 u)->Q u G):jab T (k+1) jeu [wsU (winO P ss),jcR] G Q X:=by
 have q0:Q jcR G:=q _ λG=>jeR.up (Yab _) (by decide) (by decide)
 refine⟨rfl,?_⟩;simp! only[jeH,jad,Yaa];cases ss with
 |nil=>exact⟨by decide,q0⟩
 |cons s r=>
  have os:=so s YaC;have lo:=os.lo;have hi:=jnb os p1 p2;have e0:wsU (winO P (s::r))=.tup (.tup [.int s.lo,.int (topO P s)]::(winO P r).map wu):=rfl;rw[e0];refine⟨by decide,?_⟩
  have ce:∀(a:U) (r:List U) (kk:Bool->Prop),cmpU .Eq (.tup (a::r)) (.tup []) G kk=kk false:=λ_ _ _=>rfl;rw[ce,if_neg (by decide)]
  simp! only[ix_t (jbd _ _),ix_t (jaB _ _ _)];by_cases c:topO P s<=s.lo
  ·rw[if_pos (by simpa using c)]
   exact q0
  ·rw[if_neg (by simpa using c)]
   simp! only[jc7,ix_t (jbd _ _)];refine⟨trivial,?_⟩;simp! only[jc6,jc5];obtain⟨a,ha⟩:∃a,a=(if topO P s-10>s.lo then topO P s-10 else s.lo):=⟨_,rfl⟩
   rw[<- ha];have a0:0<=a/\a<topO P s/\topO P s-a<=10:=by split at ha<;>lia
   refine⟨by lia,by lia,by lia,by lia,?_⟩
   refine jcd (λi ς G'=>G'=G/\∃u o5,ς=[some (.tup (.tup [.int s.lo,.int (topO P s)]::(winO P r).map wu)),some jcR,some (.int s.lo),some (.int (topO P s)),some u,o5]/\∀G,Td true G BB (270+435*i) (3+i) u) ?_ ?_ ⟨rfl,_,_,rfl,λG=>jeR⟩
   ·rintro ς G' ⟨rfl,u,o5,rfl,hu⟩;rw[jaz]at hu;refine⟨trivial,?_⟩;simp! only[jc4];exact q u λG=>(hu G).up (Yab _) (by lia) (by lia)
   ·rintro i x ς G' K hx ⟨rfl,u,o5,rfl,hu⟩ hk;obtain⟨hi2,rfl⟩:i<(topO P s-a).toNat/\x=.int (a+i):=by
     unfold rngU at hx;obtain⟨h1,h2⟩:=List.getElem?_eq_some_iff.mp hx;simp at h1 h2;exact⟨by lia,h2.symm⟩
    refine⟨trivial,?_⟩;simp! only[];refine⟨by decide,hk _ _ ⟨rfl,_,_,rfl,λG=>?_⟩⟩
    exact(jjG (i:=a+i) (by lia) ((jeR (G:=G)).up (Yab _) (Yab _) (by lia)) (hu G)).up (Yab _) (by lia) (by lia)

def joj     (n:New G p o G'):mk p G'=G:=by
 funext a;unfold mk;split
 ·rename_i e;rw[e,n.no]
 ·rename_i e;cases h:G a with
  |some o=>exact n.sa _ _ h
  |none=>rw[n.eq];unfold gup;rw[if_neg e,h]
def jkU     (w:Put G p o G'):mk p G'=mk p G:=by
 funext a;unfold mk;split
 ·rfl
 ·rename_i e;rw[w.eq];unfold gup;rw[if_neg e]
def jmT       (h:∀v∈r,entB n [] v=true):barB P bs ws r=barB P [] ws r:=by
 have e:∀v∈r,esZ bs ws v=esZ [] ws v:=λv hv=>by
  rcases jcz (h v hv)with⟨a,b,rfl,ha,_⟩|⟨s,y,rfl,_,_⟩
  ·exact nomatch ha
  ·rfl
 have e1:sLo bs ws r=sLo [] ws r:=by
  unfold sLo;rw[Ycd λv hv=>by rw[e v hv]]
 have e2:sHi bs ws r=sHi [] ws r:=by
  unfold sHi;rw[Ycd λv hv=>by rw[e v hv]]
 unfold barB;rw[e1,e2]
def jgw       : fltN P ss bs [] ws u=fltN P ss [] [] ws u:=by
 unfold fltN;split
 ·rename_i w r;by_cases c:jcl ss [] r=true
  ·rw[if_pos c,if_pos c];cases r with
   |tup rs=>
    have c':(decide (1<=rs.length/\rs.length<=60)&&(rs.all (entB ss.length [])&&jcH (rs.map (endZ ss))))=true:=c;rw[Yaf,Yaf]at c';rw[show tupL (.tup rs)=rs from rfl,jmT (Yc1.mp c'.2.1)]
   |_=>cases c
  ·rw[if_neg c,if_neg c]
 ·rfl
 ·rfl
def jl0        (h:Out P ss bs [] s n o):Out P ss [] [] s n o:=by
 induction h with
 |nil=>exact .nil
 |bad h=>exact .bad (jgw ▸ h)
 |ring h _ ih=>exact .ring (jgw ▸ h) ih
 |split h _ ih=>exact .split (jgw ▸ h) ih

def jiK  (hf:Fd G f c)(h1:1<=P)(h2:P<=600)(w8:W<=8)(q:∀(bs:List Int) G' ,bs.length=W->Fd G' f c->Sm f G G'->Q (jai bs) G'):jab T (k+2) jdM [.loc f,.int W,.int P] G Q X:=by
 refine⟨rfl,?_⟩;simp! only[jd5,jad,Yaa];refine⟨by lia,by lia,by rw[jaz];exact Yah w8 (by decide),?_⟩
 refine jav (λi acc G'=>Fd G' f c/\Sm f G G'/\∃bs:List Int,acc=bs.map .int/\bs.length=i) ?_ ?_ ⟨hf,Sm.refl,[],rfl,rfl⟩
 ·rintro acc G1 ⟨f1,s1,bs,rfl,hl⟩;rw[jaz]at hl;refine⟨trivial,λpb G2 n2=>?_⟩;simp! only[it_l n2.at];exact q bs _ hl (f1.new n2) (s1.nw n2)
 ·rintro i x acc G1 K hx ⟨f1,s1,bs,rfl,hl⟩ hk _;exact⟨trivial,jag f1 (by lia) (by lia) λr G2 a2 b2 f2 s2=>hk _ _ ⟨f2,s1.trans s2,bs++[r],by simp,by simp[hl]⟩⟩
def jon  (hf:Fd G f c)(g:G p=some (.lst us)):p≠f:=λe=>by
 obtain⟨ns,x,y,z,h1,_⟩:=hf.ex;rw[e,h1]at g;cases g
def fd_c  (hf:Fd G f c):G c≠none/\c≠f:=by
 obtain⟨ns,x,y,z,h1,h2,_⟩:=hf.ex;refine⟨by rw[h2];exact nofun,λe=>?_⟩
 rw[e,h1]at h2;cases h2

def jmu  {X: KX}(hC:C14 xs ss P bs st)(hf:Fd G f c)(h:Td false G (BB+10000) 10600 15 x)(kk:∀o12 o13 o14 G',Sa G G'->K [o0,some (.loc f),o2,some (.int P),o4,some (jao xs ss),some (jai st),some (jai bs),o8,some (.loc p),o10,some x,o12,o13,o14] G') :
  jal T.gs (jab T (k+12)) jbc ⟨K,Q,λx _ G'=>X x G'⟩ [o0,some (.loc f),o2,some (.int P),o4,some (jao xs ss),some (jai st),some (jai bs),o8,some (.loc p),o10,some x,o12,o13,o14] G:=by
 have h99:=h.up (Yab _) (Yab _) (show 15<=99 by decide)
 obtain⟨z,hz⟩:=Td.keep hf h (by decide) (by decide) (by decide)
 have hC0:C14 xs ss P bs []:=⟨hC.so,hC.sl,hC.p1,hC.p2,λ_ h=>(nomatch h),λ_ h=>(nomatch h)⟩;have hC1:C14 xs ss P [] []:=⟨hC.so,hC.sl,hC.p1,hC.p2,λ_ h=>(nomatch h),λ_ h=>(nomatch h)⟩;simp! only[jbc];refine hz _ _ Sm.refl ?_;simp! only[jb1];refine⟨by decide,?_⟩
 refine jg3 (k:=k+7) (st:=[]) hC0 h99 (by decide) λo1 G1 s1 ho1 hm1=>?_
 simp! only[jb0];refine jhG (k:=k+1) hC1 (h99.sa s1) (by decide) λo2 G2 s2 ho2 hm2=>?_
 have e:=Out.uniq (jl0 ho1) ho2;subst e;obtain⟨t,ht⟩:=jkP (λx m e=>jg2 ho1 e) hm1;simp! only[];refine ht _ _ (ht _ _ (jgg ?_));rw[if_neg (by decide)]
 simp! only[jbZ];refine jg3 (k:=k+7) hC ((h99.sa s1).sa s2) (by decide) λo3 G3 s3 ho3 hm3=>?_
 simp! only[jbY];refine jdF (k:=k+2) hC (((h99.sa s1).sa s2).sa s3) (by decide) λo4 G4 s4 ho4 hm4=>?_
 have e:=Out.uniq ho3 ho4;subst e;obtain⟨t',ht'⟩:=jkP (λx m e=>jg2 ho3 e) hm3;have s14:=s1.trans (s2.trans (s3.trans s4));simp! only[jbX];refine ht' _ _ (ht' _ _ (jgg ?_));rw[if_neg (by decide)]
 refine hz _ _ s14.sm (jgg ?_);rw[if_neg (by decide)]
 exact kk _ _ _ _ s14


def joy  {X: KX}(hC:C14 xs ss P bs st)(hf:Fd G f c)(g:G p=some (.lst L))(hL:∀u∈L,Td false G (BB+10000) 10600 15 u)(kk:∀o11 o12 o13 o14 G',Sa G G'->K [o0,some (.loc f),o2,some (.int P),o4,some (jao xs ss),some (jai st),some (jai bs),o8,some (.loc p),o10,o11,o12,o13,o14] G') :
  jal T.gs (jab T (k+12)) jb6 ⟨K,Q,λx _ G'=>X x G'⟩ [o0,some (.loc f),o2,some (.int P),o4,some (jao xs ss),some (jai st),some (jai bs),o8,some (.loc p),o10,o11,o12,o13,o14] G:=by
 simp! only[jb6];rw[it_l g];refine jcd (λ_ ς G'=>Sa G G'/\∃o11 o12 o13 o14,ς=[o0,some (.loc f),o2,some (.int P),o4,some (jao xs ss),some (jai st),some (jai bs),o8,some (.loc p),o10,o11,o12,o13,o14]) ?_ ?_ ⟨Sa.refl,_,_,_,_,rfl⟩
 ·rintro ς G1 ⟨s1,o11,o12,o13,o14,rfl⟩;exact⟨by unfold lsG;rw[s1 _ _ g],kk _ _ _ _ _ s1⟩
 ·rintro i x ς G1 K1 hx ⟨s1,o11,o12,o13,o14,rfl⟩ hk;refine⟨by unfold lsG;rw[s1 _ _ g],?_⟩
  simp! only[];exact jmu (k:=k) hC (hf.sa s1) ((hL x (YaI hx)).sa s1) λo12 o13 o14 G2 s2=>hk _ _ ⟨s1.trans s2,_,_,_,_,rfl⟩
def joz  {X: KX}(hC:C14 xs ss P bs st)(hf:Fd G f c)(hp:p≠f/\p≠c)(g:G p=some (.lst us))(ul:us.length<=100)(hu:∀u∈us,Od (mk p G) BB 5000 13 u)(kk:∀o11 o12 o13 o14 G',Fd G' f c->K [o0,some (.loc f),o2,some (.int P),o4,some (jao xs ss),some (jai st),some (jai bs),o8,some (.loc p),o10,o11,o12,o13,o14] G') :
  jal T.gs (jab T (k+12)) jb7 ⟨K,Q,λx _ G'=>X x G'⟩ [o0,some (.loc f),o2,some (.int P),o4,some (jao xs ss),some (jai st),some (jai bs),o8,some (.loc p),o10,o11,o12,o13,o14] G:=by
 simp! only[jb7];rw[it_l g];intro pc G1 n1;have f1:=hf.new n1;have hc:=hf.away n1;have pcp:pc≠p:=jfp n1 (by rw[g];exact nofun)
 rw[it_l n1.at];refine jcd (λi ς G'=>Fd G' f c/\∃acc o11,ς=[o0,some (.loc f),o2,some (.int P),o4,some (jao xs ss),some (jai st),some (jai bs),o8,some (.loc p),o10,o11,o12,o13,o14]/\G' p=some (.lst (us++acc))/\acc.length=i/\G' pc=some (.lst us)/\(∀u∈us,Od (mk p G') BB 5000 13 u)/\∀u∈acc,Td false (mk p G') (BB+10000) 10600 15 u) ?_ ?_ ⟨f1,[],_,rfl,by rw[Ya7];exact n1.sa _ _ g,rfl,n1.at,λu h=>(hu u h).ext (joi n1.sa),λ_ h=>nomatch h⟩
 ·rintro ς G2 ⟨f2,acc,o11,rfl,g2,hl,gc,h1,h2⟩;refine⟨by unfold lsG;rw[gc],?_⟩
  refine joy (k:=k) hC f2 g2 (λu h=>?_) λo11 o12 o13 o14 G3 s3=>kk _ _ _ _ _ (f2.sa s3);rcases List.mem_append.mp h with h|h
  ·exact(((h1 u h).any (by decide) (by decide)).ext jhK).up (Ycz _ _) (by decide) (by decide)
  ·exact(h2 u h).ext jhK
 ·rintro i x ς G2 K1 hx ⟨f2,acc,o11,rfl,g2,hl,gc,h1,h2⟩ hk;refine⟨by unfold lsG;rw[gc],?_⟩
  have hi:=(List.getElem?_eq_some_iff.mp hx).1;have np:G2 p≠none:=by rw[g2];exact nofun
  have fin:∀u' G',Td false (mk p G') (BB+10000) 10600 15 u'->Fd G' f c->Sm f G2 G'->jaI .append (.loc p) [u'] G' λ_ G1=>K1 [o0,some (.loc f),o2,some (.int P),o4,some (jao xs ss),some (jai st),some (jai bs),o8,some (.loc p),o10,some x,o12,o13,o14] G1:=λu' G3 t3 f3 s3=>by
   have g3:=s3 _ _ hp.1 g2;rw[jky g3];refine⟨YaS (m:=300) (by rw[Yar];lia) (by decide),λG4 p4=>hk _ _ ⟨f3.off hp p4,acc++[u'],_,rfl,by rw[<- YdJ];exact p4.at,by simp[hl],p4.sm _ _ pcp (s3 _ _ hc.1 gc),λu h=>?_,λu h=>?_⟩⟩
   ·rw[jkU p4];exact(h1 u h).ext (jhL f2 s3)
   ·rw[jkU p4];rcases List.mem_append.mp h with h|h
    ·exact(h2 u h).ext (jhL f2 s3)
    ·rw[List.mem_singleton.mp h];exact t3
  simp! only[jb2,jfv g2];rcases h1 x (YaI hx)with t|⟨a,rfl,ga⟩
  ·exact jdH 4 (k:=k+5) np hp.1 t (Yab _) (by decide) f2 (by decide) λu' G3 t3 f3 s3=>fin u' G3 t3 f3 s3
  ·exact jgf (m:=4) (k:=k+9) f2 np hp.1 (jki ga).2 λu' G3 t3 f3 s3=>fin u' G3 ((t3.any (by decide) (by decide)).up (Ycz _ _) (by decide) (by decide)) f3 s3

section
variable {k:Nat}{G G':Gp}{Q:K1}{X:KX}{xs:List Str}{ss:List Spn}{P:Int}{W:Nat}{u v x:U}{us vs L:List U}{bs st:List Int}{f c p a:Addr}{B N n:Nat}
variable {K:Sg->Gp->Prop}{o0 o2 o3 o4 o5 o6 o7 o8 o9 o10 o11 o12 o13 o14:Option U}
abbrev Og  (G:Gp)(us:List U):Prop:=∀u∈us,Od G BB 5000 13 u
def od  (h:Td true G BB N n u)(hN:N<=5000)(hn:n<=13):Od G BB 5000 13 u:=.inl (h.up (Yab _) hN hn)
def Og.sa  (h:Og G us)(s:Sa G G'):Og G' us:=λu hu=>(h u hu).sa s
def Og.app  (h:Og G us)(h':Og G vs):Og G (us++vs):=λu hu=>by
 rcases List.mem_append.mp hu with z|z
 ·exact h u z
 ·exact h' u z
def Og.nil  : Og G []:=λ_ h=>nomatch h
def Og.cons  (h:Od G BB 5000 13 u)(h':Og G us):Og G (u::us):=λv hv=>by
 rcases YaW.mp hv with rfl|z
 ·exact h
 ·exact h' v z
def wR  : ("ring" : Str).length<=5/\∀c∈("ring" : Str).cps.toList,c<128:=by decide +kernel
def wS  : ("split" : Str).length<=5/\∀c∈("split" : Str).cps.toList,c<128:=by decide +kernel
def wH  : ("home" : Str).length<=5/\∀c∈("home" : Str).cps.toList,c<128:=by decide +kernel
def wR2  : ("Ring" : Str).length<=5/\∀c∈("Ring" : Str).cps.toList,c<128:=by decide +kernel
def pr3  : Td true G BB 270 3 jcR:=jeR
def ti0  : Td true G BB 50 n (.int 0):=jdv (by decide)
def te0  : Td true G BB 3 (n+1) (.tup []):=(Tds.nil (n:=0)).tup.up (Yab _) (Yab _) (by lia)
def jp4  (kk:∀q us G',us.length=10->Og G' us->G' q=some (.lst us)->Sa G G'->jal T.gs (jab T (k+12)) jbP ⟨K,Q,λx _ G'=>X x G'⟩ [o0,some (.loc f),o2,o3,o4,o5,o6,o7,some jcR,some (.loc q),o10,o11,o12,o13,o14] G') :
  jal T.gs (jab T (k+12)) jcM ⟨K,Q,λx _ G'=>X x G'⟩ [o0,some (.loc f),o2,o3,o4,o5,o6,o7,some jcR,o9,o10,o11,o12,o13,o14] G:=by
 simp! only[jcM];refine⟨by decide,by decide,λp1 G1 n1=>⟨by decide,by decide,by decide,by decide,by decide,λp2 G2 n2=>⟨by decide,by decide,by decide,λp3 G3 n3=>?_⟩⟩⟩
 have g1:G3 p1=some (.lst []):=n3.sa _ _ (n2.sa _ _ n1.at);have g2:G3 p2=some (.lst [.str "ring",.tup []]):=n3.sa _ _ n2.at
 have R:∀{n:Nat},Td true G3 BB 52 n (.str "ring"):=λ{n}=>jbl wR;have S:∀{n:Nat},Td true G3 BB 52 n (.str "split"):=λ{n}=>jbl wS;refine kk p3 _ G3 rfl ?_ n3.at (n1.sa.trans (n2.sa.trans n3.sa));refine .cons (od (n:=0) (Td.non (Yab 5)) (by decide) (by decide)) (.cons (od (n:=1) (te0 (n:=0)) (by decide) (by decide)) (.cons (od (Tds.lst g1 (Tds.nil (n:=0))) (by decide) (by decide)) (.cons (od (n:=0) R (by decide) (by decide)) (.cons (od (Tds.one (n:=0) R).tup (by decide) (by decide)) (.cons (od (Tds.cons (n:=1) R (Tds.one te0)).tup (by decide) (by decide)) (.cons (od (Tds.lst g2 (Tds.cons (n:=1) R (Tds.one te0))) (by decide) (by decide)) (.cons (od (Tds.one (n:=0) S).tup (by decide) (by decide)) (.cons (od (Tds.cons (n:=3) S (Tds.cons ti0 (Tds.cons ti0 (Tds.one pr3)))).tup (by decide) (by decide)) (.cons (od pr3 (by decide) (by decide)) .nil)))))))))
def jp3  (g:G p=some (.lst us))(hu:Og G us)(ul:us.length=10)(kk:∀q us G',us.length=16->Og G' us->G' q=some (.lst us)->Sa G G'->jal T.gs (jab T (k+12)) jbO ⟨K,Q,λx _ G'=>X x G'⟩ [o0,some (.loc f),o2,o3,o4,o5,o6,o7,some jcR,some (.loc q),o10,o11,o12,o13,o14] G') :
  jal T.gs (jab T (k+12)) jbP ⟨K,Q,λx _ G'=>X x G'⟩ [o0,some (.loc f),o2,o3,o4,o5,o6,o7,some jcR,some (.loc p),o10,o11,o12,o13,o14] G:=by
 simp! only[jbP];refine⟨by decide,by decide,by decide,by decide,by decide,by decide,by decide,by decide,by decide,by decide,by decide,λp1 G1 n1=>⟨by decide,λp2 G2 n2=>?_⟩⟩
 simp! only[];refine⟨_,_,n2.sa _ _ (n1.sa _ _ g),n2.at,Yah (show us.length+6<=20 by lia) (by decide),λp3 G3 n3=>?_⟩
 have s3:=n1.sa.trans (n2.sa.trans n3.sa);have g1:G3 p1=some (.dK []):=n3.sa _ _ (n2.sa _ _ n1.at);have R:∀{n:Nat},Td true G3 BB 52 n (.str "ring"):=λ{n}=>jbl wR;have R2:∀{n:Nat},Td true G3 BB 52 n (.str "Ring"):=λ{n}=>jbl wR2;have S:∀{n:Nat},Td true G3 BB 52 n (.str "split"):=λ{n}=>jbl wS;refine kk p3 _ G3 (by rw[Yar,ul];rfl) ((hu.sa s3).app ?_) n3.at s3
 exact .cons (od (Tds.cons (n:=1) R2 (Tds.one te0)).tup (by decide) (by decide)) (.cons (od (Tds.cons (n:=1) R (Tds.cons te0 (Tds.one te0))).tup (by decide) (by decide)) (.cons (od (Tds.cons (n:=3) S (Tds.cons ti0 (Tds.cons ti0 (Tds.cons pr3 (Tds.cons pr3 (Tds.one pr3)))))).tup (by decide) (by decide)) (.cons (od (Tds.cons (n:=1) te0 (Tds.one te0)).tup (by decide) (by decide)) (.cons (od (Tds.cons (n:=0) ti0 (Tds.one (jdv (i:=1) (by decide)))).tup (by decide) (by decide)) (.cons (.inr ⟨p1,rfl,g1⟩) .nil)))))
def jp2  (hf:Fd G f c)(g:G p=some (.lst us))(hu:Og G us)(ul:us.length=16)(kk:∀q us G',us.length=20->Og G' us->G' q=some (.lst us)->Fd G' f c->jal T.gs (jab T (k+12)) jbN ⟨K,Q,λx _ G'=>X x G'⟩ [o0,some (.loc f),o2,o3,o4,o5,o6,o7,some jcR,some (.loc q),o10,o11,o12,o13,o14] G') :
  jal T.gs (jab T (k+12)) jbO ⟨K,Q,λx _ G'=>X x G'⟩ [o0,some (.loc f),o2,o3,o4,o5,o6,o7,some jcR,some (.loc p),o10,o11,o12,o13,o14] G:=by
 simp! only[jbO];refine⟨by decide,by decide,by decide,?_⟩
 refine jcS (k:=k+10) hf (fd_c hf).1 (fd_c hf).2 λuo G1 to f1 s1=>⟨by decide,λp2 G2 n2=>?_⟩
 simp! only[];have g1:=s1 _ _ (jon hf g) g;refine⟨_,_,n2.sa _ _ g1,n2.at,Yah (show us.length+4<=20 by lia) (by decide),λp3 G3 n3=>?_⟩
 have s3:=n2.sa.trans n3.sa;have R:∀{n:Nat},Td true G3 BB 52 n (.str "ring"):=λ{n}=>jbl wR;have S:∀{n:Nat},Td true G3 BB 52 n (.str "split"):=λ{n}=>jbl wS;have Z:∀{n:Nat},Td true G3 BB 5 n .non:=λ{n}=>Td.non (Yab 5);have to3:Od G3 BB 5000 13 uo:=by
  rcases(to.ext jhK).sa s3 with h|h
  ·exact od h (by decide) (by decide)
  ·exact .inr h
 refine kk p3 _ G3 (by rw[Yar,ul];rfl) (Og.app (λu h=>((hu u h).sm hf s1).sa s3) ?_) n3.at ((f1.new n2).new n3)
 exact .cons (od (Tds.cons (n:=0) R (Tds.one Z)).tup (by decide) (by decide)) (.cons (od (Tds.cons (n:=0) R (Tds.one R)).tup (by decide) (by decide)) (.cons (od (Tds.cons (n:=0) S (Tds.cons ti0 (Tds.cons ti0 (Tds.cons Z (Tds.one Z))))).tup (by decide) (by decide)) (.cons to3 .nil)))
end


noncomputable def ji7  (st:List Int):List U:=st.map λw=>.tup [.str "home",.int w,.int w]
def jjH  (hs:∀z∈st,0<=z/\z<=7)(s8:st.length<=8):Td true G BB 1400 3 (.tup (ji7 st)):=by
 refine(Td.some (m:=8) (N:=170) (n:=1) (λu hu=>?_) (by unfold ji7;rw[Yai];exact s8) (by decide:8*(170+2)+3<=1400)).up (Yab _) (Yab _) (by decide)
 obtain⟨w,hw,rfl⟩:=List.mem_map.mp hu;have:=hs w hw;exact(Tds.cons (n:=0) (jbl wH) (Tds.cons (jdv (by lia)) (Tds.one (jdv (by lia))))).tup.up (Yab _) (by decide) (Yab _)
def jp1  {X: KX}(hC:C14 xs ss P bs st)(so:∀s∈ss,s.Ok W)(s8:st.length<=8)(hf:Fd G f c)(g:G p=some (.lst us))(hu:Og G us)(ul:us.length=20)(kk:∀o8 o9 o10 o11 o12 o13 o14 G',Fd G' f c->K [o0,some (.loc f),o2,some (.int P),o4,some (jao xs ss),some (jai st),some (jai bs),o8,o9,o10,o11,o12,o13,o14] G') :
  jal T.gs (jab T (k+12)) jbN ⟨K,Q,λx _ G'=>X x G'⟩ [o0,some (.loc f),o2,some (.int P),o4,some (jao xs ss),some (jai st),some (jai bs),some jcR,some (.loc p),o10,o11,o12,o13,o14] G:=by
 simp! only[jbN,jai];refine⟨by rw[Yai];exact Yah s8 (by decide),?_⟩
 refine jbK (λu=>.tup [.str "home",u,u]) trivial (λu hu K hk=>?_) ?_
 ·simp! only[];exact⟨by decide,hk⟩
 intro p1 G1 n1;have e1:[]++(st.map U.int).map (λu=>U.tup [.str "home",u,u])=ji7 st:=by rw[Ybn,Ycv];rfl
 rw[e1]at n1;simp! only[it_l n1.at];simp! only[jdw,jai];refine⟨by decide,by decide,by decide,by decide,?_⟩
 refine jiJ (k:=k+10) so hC.sl λG2 s2=>?_;refine jmf (k:=k+11) so hC.p1 hC.p2 λdu hd=>⟨by decide,λp3 G3 n3=>?_⟩
 simp! only[];have s3:=n1.sa.trans (s2.trans n3.sa);refine⟨_,_,s3 _ _ g,n3.at,Yah (show us.length+3<=30 by lia) (by decide),λp4 G4 n4=>?_⟩
 have f3:=hf.sa s3;have R:∀{n:Nat},Td true G3 BB 52 n (.str "ring"):=λ{n}=>jbl wR;refine joz (k:=k) hC (f3.new n4) (f3.away n4) n4.at (by rw[Yar,ul];exact(show 20+3<=100 by decide)) (λu h=>?_) λo11 o12 o13 o14 G5 f5=>kk _ _ _ _ _ _ _ _ f5
 rw[joj n4];refine Og.app (hu.sa s3) ?_ u h;exact .cons (od (Tds.cons (n:=3) R (Tds.one (jjH hC.s7 s8))).tup (by decide) (by decide)) (.cons (od (Tds.cons (n:=2) R (Tds.one (Tds.one (Tds.cons (n:=0) (jbl wH) (Tds.cons ti0 (Tds.one ti0))).tup).tup)).tup (by decide) (by decide)) (.cons (.inl (hd G3)) .nil))
def jp5  {X: KX}(hC:C14 xs ss P bs st)(so:∀s∈ss,s.Ok W)(s8:st.length<=8)(hf:Fd G f c)(kk:∀o8 o9 o10 o11 o12 o13 o14 G',Fd G' f c->K [o0,some (.loc f),o2,some (.int P),o4,some (jao xs ss),some (jai st),some (jai bs),o8,o9,o10,o11,o12,o13,o14] G') :
  jal T.gs (jab T (k+12)) jcN ⟨K,Q,λx _ G'=>X x G'⟩ [o0,some (.loc f),o2,some (.int P),o4,some (jao xs ss),some (jai st),some (jai bs),o8,o9,o10,o11,o12,o13,o14] G:=by
 simp! only[jcN];refine⟨by decide,by decide,by decide,by decide,?_⟩
 rw[show(U.tup [.str "ring",.tup [.tup [.int 0,.int 1],.tup [.int 0,.int (-1)]]])=jcR from rfl];refine jp4 (k:=k) λq1 us1 G1 l1 h1 g1 s1=>jp3 (k:=k) g1 h1 l1 λq2 us2 G2 l2 h2 g2 s2=>?_;refine jp2 (k:=k) ((hf.sa s1).sa s2) g2 h2 l2 λq3 us3 G3 l3 h3 g3 f3=>?_;exact jp1 (k:=k) hC so s8 f3 g3 h3 l3 kk
def R14  (a f:Addr)(ς:Sg):Prop:=∃o2 o3 o4 o5 o6 o7 o8 o9 o10 o11 o12 o13 o14:Option U,ς=[some (.loc a),some (.loc f),o2,o3,o4,o5,o6,o7,o8,o9,o10,o11,o12,o13,o14]
def jp6  {X: KX}(hf:Fd G f c)(kk:∀ς G',R14 a f ς->Fd G' f c->K ς G') :
  jal T.gs (jab T (k+12)) jcO ⟨K,Q,λx _ G'=>X x G'⟩ [some (.loc a),some (.loc f),o2,o3,o4,o5,o6,o7,o8,o9,o10,o11,o12,o13,o14] G:=by
 simp! only[jcO];refine jkf (k:=k+10) hf λP G1 p1 p2 f1 s1=>?_;simp! only[];refine jag f1 (by decide) (by decide) λr G2 a2 b2 f2 s2=>?_
 obtain⟨W,hW⟩:=Yaz (show 0<=1+r by lia)
 simp! only[];rw[show(1:Int)+r=(W:Int)from hW];simp! only[jem];refine⟨by decide,λp3 G3 n3=>jag (f2.new n3) (by decide) (by decide) λr3 G4 a4 b4 f4 s4=>?_⟩
 refine jcy [0,3,24] (s4 _ _ (f2.away n3).1 n3.at) a4 b4 λm hm=>?_;have hm':0<=m/\m<=24:=by simp only[YaW,YaE,or_false]at hm;lia
 have w8:W<=8:=by lia
 refine jmb (k:=k+8) f4 p1 p2 (by lia) w8 hm'.1 hm'.2 λxs ss G5 xl nm sl so f5 s5=>?_
 simp! only[jel];refine jj7 (k:=k+10) f5 w8 λst G6 sb s8 f6 s6=>?_;simp! only[jek];refine jiK (k:=k+10) f6 p1 p2 w8 λbs G7 bl f7 s7=>?_;have hC:C14 xs ss P bs st:=⟨⟨W,so⟩,sl,p1,p2,λz hz=>by have:=sb z hz;lia,λz hz=>by have:=sb z hz;lia⟩
 exact jp5 (k:=k) hC so s8 f7 λo8 o9 o10 o11 o12 o13 o14 G8 f8=>kk _ _ ⟨_,_,_,_,_,_,_,_,_,_,_,_,_,rfl⟩ f8
def law_ir   a (ns:List Int)(hl:ns.length<=63):jab T 300 jmm [.loc a] (G0 a ns) (λu _=>u=.bl true) λ_ _=>False:=by
 refine⟨rfl,?_⟩;simp! only[joU,jad,Yaa,jic];refine jmd (k:=298) (show G0 a ns a=some (.fro (ns.map .int))from if_pos rfl) hl λf c G1 f1=>?_;refine⟨by decide,by decide,?_⟩
 refine jcd (λ_ ς G'=>R14 a f ς/\Fd G' f c) ?_ ?_ ⟨⟨_,_,_,_,_,_,_,_,_,_,_,_,_,rfl⟩,f1⟩
 ·rintro ς G2 ⟨_,_⟩;exact⟨trivial,trivial⟩
 ·rintro i x ς G2 K hx ⟨⟨o2,o3,o4,o5,o6,o7,o8,o9,o10,o11,o12,o13,o14,rfl⟩,f2⟩ hk;exact⟨trivial,jp6 (k:=287) f2 λς G' h1 h2=>hk _ _ ⟨h1,h2⟩⟩

def sts  : List Stmt:=[s_is_whole,s_is_within,s_top_of,s_window_of,s_windows_of,s_with_window,s_is_work_of,s_is_entry,s_ends_of,s_is_ring,s_entry_sums,s_sums_of,s_ring_bars,s_has_shape,s_split_fault,s_ring_fault,s_node_fault,s_split_sides,s_look_through,s_lets_none_with,s_lets_none,s_law_feed,s_law_draw,s_law_names,s_law_any_cycle,s_law_number,s_law_span,s_law_fitting,s_law_plan,s_law_beats,s_law_odd,s_law_bent,s_law_end,s_law_windows,s_law_whole,s_law_ends,s_law_is_ring,s_law_sums,s_law_bars,s_law_wrong,s_law_stays,s_law_refused,s_law_refused_with,s_law_deep,s_law]
def prog_rep  : jeV T 0 T.funs sts=true:=by decide +kernel
def jcU  : NestS T sts jaR s_lets_none_with jbk jb3 s_look_through jaJ jaK where
 sc:=jim (by decide +kernel)
 body:=rfl
 text:=⟨_,_,_,_,_,_,_,_,rfl,by unfold tabs;exact List.Mem.head _,by decide +kernel,rfl,by decide +kernel,rfl⟩
 fi:=rfl
 fl:=rfl
 gl:=rfl
 gs:=rfl
 dbg:=⟨rfl,rfl,rfl,rfl⟩
 caps:=λi j e=>by
  rcases i with _|i
  ·cases e;exact⟨by decide,_,rfl,rfl,rfl,rfl⟩
  rcases i with _|i
  ·cases e;exact⟨by decide,_,rfl,rfl,rfl,rfl⟩
  rcases i with _|i
  ·cases e;exact⟨by decide,_,rfl,rfl,rfl,rfl⟩
  rcases i with _|i
  ·cases e;exact⟨by decide,_,rfl,rfl,rfl,rfl⟩
  cases e
 fge:=by decide
 frees:=by decide +kernel
 as2:=rfl
 cs:=joY (by decide +kernel)
 args:=⟨rfl,rfl⟩
 ann:=λ_=>rfl
 bind:=λ_ _ _ _ _ _ _ _=>rfl
 ff:=rfl
 ffs:=rfl
 ffb:=rfl
 ffp:=rfl
 ffl:=rfl
 hdv:=rfl
 dvb:=rfl
 dvN:=rfl
 hdc:=rfl
 dcp:=rfl
 dcN:=by decide
 ok:=by decide +kernel
 un:=rfl
 hs:=⟨jaX,rfl,rfl⟩
 nz:=λgs Δ ς G Q1 E hz h=>by
  obtain⟨_,_,h⟩:=jbA (show slot ς 4 _ from h);obtain⟨_,_,h⟩:=jbA (show slot ς 0 _ from h);obtain⟨_,_,h⟩:=jbA (show slot ς 1 _ from h);exact hz _ _ _ _ _ h
def prog_eq  : jfj T sts 0 T.funs sts:=⟨rfl,rfl,rfl,rfl,rfl,rfl,rfl,rfl,rfl,rfl,rfl,rfl,rfl,rfl,rfl,rfl,rfl,rfl,rfl,⟨rfl,_,_,_,_,jcU⟩,rfl,rfl,rfl,rfl,rfl,rfl,rfl,rfl,rfl,rfl,rfl,rfl,rfl,rfl,rfl,rfl,rfl,rfl,rfl,rfl,rfl,rfl,rfl,rfl,rfl,trivial⟩
def tabsU  : ∀t∈tabs,∀t'∈tabs,t.1=t'.1->t=t':=by
 intro t h t' h' e;simp only[tabs,YaW,YaE,or_false]at h;simp only[tabs,YaW,YaE,or_false]at h';rcases h with rfl<;>rcases h' with rfl<;>first|rfl|exact absurd e (by decide)
noncomputable def tbs  : List (Str×Addr×Addr):=[("lets_none_with",255,251)]
def walk  {l:YdN}{K:Params->Yac}(hn:l.most=some 63)(hdf:d.params.defaults=[])
  (hY:∀(w:World) (h:Heap),YP w h->(K w.params).In h) (hK:∀w:World,((K w.params).all λp=>p.2.cls != .type "list")=true) (hsy:∀w:World,∃o,(K w.params).lookup Ya3=some o/\o.cls=.type "dict")
  (hT:∀(w:World),∀t∈tbs,(∃dr,(PyProof.Rows.recsOf q).find? (λe=>e.name==t.1)=some dr)/\PySem.W.tabIn (K w.params) t.1=some (t.2.1,t.2.2)/\(K w.params).lookup t.2.2=none)
  (F:∀(w:World) mg fa (h:Heap),(K w.params).In h->h.Ns Yax mg->mg d.name=some (.ref fa)->
   ∃fd ,(∀(s:Shared) u ,BindsTo s fd ⟨[u],[]⟩ [("_law_script",u)])/\∀base ,(K w.params).In base->base.Ns Yax mg->BmAt mg base->FnOk l.prog w (K w.params) mg base (CX1 l.prog w) 302 fa fd ["_law_script"] (lSp (K w.params) (jab T 300 jmm))) :
  YfP q loose XP YP l.row.toRowW d [] (λf vs=>Yfs f vs):=
 L2.walk_ofT (n:=63) (k:=302) (x := "_law_script") (CX:=λw=>CX1 l.prog w) (sp:=λw=>lSp (K w.params) (jab T 300 jmm)) hK hT hn (by decide) hdf ⟨rfl,by decide,by decide,rfl⟩ hY hsy F (λw _ _ a ns hl hO hS=>law_sp (by decide) hO hS (law_ir a ns hl)) λ_ _ _ _ _ ⟨_,_,_,_,_,_,_,_,_,_,z⟩=>z
end Z
namespace Y
open PySem L2
set_option maxHeartbeats 0
noncomputable def q0  : Str := "/claim/cut.py"
noncomputable def q1  : Str := "<module>"
noncomputable def q2  : Str := "__main__"
noncomputable def q3  : Str := "TooMany"
noncomputable def q4  : Str := "__init__"
noncomputable def q5  : Str := "NoRing.__init__"
noncomputable def q6  : Str := "beatplans.errors"
noncomputable def q7  : Str := "NoRing"
noncomputable def q8  : Str := "NoPaper.__init__"
noncomputable def q9  : Str := "__module__"
noncomputable def q10  : Str := "__firstlineno__"
noncomputable def q11  : Str := "__static_attributes__"
noncomputable def q12  : Str := "__weakref__"
noncomputable def q13  : Str := "__doc__"
noncomputable def q14  : Str := "self"
noncomputable def q15  : Str := "word"
noncomputable def q16  : Str := "TooMany.__init__"
noncomputable def q17  : Str := "__name__"
noncomputable def q18  : Str := "__package__"
noncomputable def q19  : Str := "__loader__"
noncomputable def q20  : Str := "__spec__"
noncomputable def q21  : Str := "__annotations__"
noncomputable def q22  : Str := "__builtins__"
noncomputable def q23  : Str := "__file__"
noncomputable def q24  : Str := "__cached__"
noncomputable def q25  : Str := "PlanError"
noncomputable def q26  : Str := "NoPaper"
noncomputable def q27  : Str := "__qualname__"
noncomputable def q28  : Str := "at"
noncomputable def q29  : Str := "is_whole"
noncomputable def q30  : Str := "beats"
noncomputable def q31  : Str := "windows"
noncomputable def q32  : Str := "entry"
noncomputable def q33  : Str := "apart"
noncomputable def q34  : Str := "s"
noncomputable def q35  : Str := "way"
noncomputable def q36  : Str := "least"
noncomputable def q37  : Str := "most"
noncomputable def q38  : Str := "top_of"
noncomputable def q39  : Str := "beatplans.plans"
noncomputable def q40  : Str := "ring_bars"
noncomputable def q41  : Str := "beatplans.rings"
noncomputable def q42  : Str := "is_entry"
noncomputable def q43  : Str := "is_within"
noncomputable def q44  : Str := "sums_of"
noncomputable def q45  : Str := "is_work_of"
noncomputable def q46  : Str := "NoText"
noncomputable def q47  : Str := "ends_of"
noncomputable def q48  : Str := "entry_sums"
noncomputable def q49  : Str := "row"
noncomputable def q50  : Str := "plan"
noncomputable def q51  : Str := "one"
noncomputable def q52  : Str := "other"
noncomputable def q53  : Str := "low"
noncomputable def q54  : Str := "high"
noncomputable def q55  : Str := "NoRow.__init__"
noncomputable def q56  : Str := "period"
noncomputable def q57  : Str := "ring"
noncomputable def q58  : Str := "windows_of"
noncomputable def q59  : Str := "is_ring"
noncomputable def q60  : Str := "beatplans.cases"
noncomputable def q61  : Str := "NoRow"
noncomputable def q62  : Str := "window_of"
noncomputable def q63  : Str := "with_window"
noncomputable def q64  : Str := "MOST_ENTRIES"
noncomputable def q65  : Str := "has_shape"
noncomputable def q66  : Str := "NoText.__init__"
noncomputable def q67  : Str := "stays"
noncomputable def q68  : Str := "thing"
noncomputable def q69  : Str := "start"
noncomputable def q70  : Str := "end"
noncomputable def q71  : Str := "node"
noncomputable def q72  : Str := "many"
noncomputable def q73  : Str := "window"
noncomputable def q74  : Str := "lets_none_with"
noncomputable def q75  : Str := "_law_wrong"
noncomputable def q76  : Str := "_law_beats"
noncomputable def q77  : Str := "_law_any_cycle"
noncomputable def q78  : Str := "_law_whole"
noncomputable def q79  : Str := "_law_plan_here"
noncomputable def q80  : Str := "_law_cycle"
noncomputable def q81  : Str := "_law_beats_here"
noncomputable def q82  : Str := "_law_stays_here"
noncomputable def q83  : Str := "_law_thing"
noncomputable def q84  : Str := "_law_found"
noncomputable def q85  : Str := "e"
noncomputable def q86  : Str := "_law_strange"
noncomputable def q87  : Str := "_law_span"
noncomputable def q88  : Str := "law_beatplans_k14_things_that_are_no_cases"
noncomputable def q89  : Str := "lets_none"
noncomputable def q90  : Str := "beatplans.nonechecker"
noncomputable def q91  : Str := "_law_odd"
noncomputable def q92  : Str := "_law_number"
noncomputable def q93  : Str := "_law_bars"
noncomputable def q94  : Str := "look_through"
noncomputable def q95  : Str := "_law_stays"
noncomputable def q96  : Str := "_law_feed_here"
noncomputable def q97  : Str := "_law_some"
noncomputable def q98  : Str := "ring_fault"
noncomputable def q99  : Str := "_law_draw"
noncomputable def q100  : Str := "_law_refused_with"
noncomputable def q101  : Str := "_law_end"
noncomputable def q102  : Str := "_law_refused"
noncomputable def q103  : Str := "_law_works"
noncomputable def q104  : Str := "_law_one"
noncomputable def q105  : Str := "_law_other"
noncomputable def q106  : Str := "_law_low"
noncomputable def q107  : Str := "_law_wide"
noncomputable def q108  : Str := "_law_is_ring"
noncomputable def q109  : Str := "node_fault"
noncomputable def q110  : Str := "split_fault"
noncomputable def q111  : Str := "_law_plan"
noncomputable def q112  : Str := "split_sides"
noncomputable def q113  : Str := "_law_feed"
noncomputable def q114  : Str := "_law_names"
noncomputable def q115  : Str := "_law_fitting"
noncomputable def q116  : Str := "_law_bent"
noncomputable def q117  : Str := "_law_windows"
noncomputable def q118  : Str := "_law_ends"
noncomputable def q119  : Str := "_law_sums"
noncomputable def q120  : Str := "_law_deep"
noncomputable def q121  : Str := "_law_many"
noncomputable def q122  : Str := "_law_cell"
noncomputable def q123  : Str := "_law_mixed"
noncomputable def q124  : Str := "_law_span_here"
noncomputable def q125  : Str := "_law_top"
noncomputable def q126  : Str := "cut"
noncomputable def q127  : Str := "lower"
noncomputable def q128  : Str := "upper"
noncomputable def q129  : Str := "_law_sums_here"
noncomputable def q130  : Str := "_law_least"
noncomputable def q131  : Str := "_law_most"
noncomputable def q132  : Str := "fault_of"
noncomputable def q133  : Str := "sides_of"
noncomputable def q134  : Str := "waiting"
noncomputable def q135  : Str := "held"
noncomputable def q136  : Str := "_law_first"
noncomputable def q137  : Str := "_law_last"
noncomputable def q138  : Str := "_law_line"
noncomputable def q139  : Str := "_law_at"
noncomputable def q140  : Str := "_law_node"
noncomputable def q141  : Str := "_law_windows_here"
noncomputable def q142  : Str := "_law_s"
noncomputable def q143  : Str := "_law_cut"
noncomputable def q144  : Str := "_law_gap"
noncomputable def q145  : Str := "_law_length"
noncomputable def q146  : Str := "_law_script"
noncomputable def q147  : Str := "_law_deep_here"
noncomputable def q148  : Str := "_law_ring"
noncomputable def q149  : Str := "_law_entry"
noncomputable def q150  : Str := "law"
noncomputable def h0  : List Value:=[]
def o0  : Obj:=sO .none h0
def o1  : Obj:=kO q0 q1 q1 182 1 0 0 11 false .none .none .none 185
def o2  : Obj:=rO [(some (.ref 13)),(some (.ref 3)),(some (.ref 3)),none,(some (.str q2 164)),none,(some (.ref 0))]
def o3  : Obj:=cO q3 [(.ref 24)] [(.ref 63),(.ref 24),(.type "ValueError"),(.type "Exception"),(.type "BaseException"),(.type "object")] 62 [] [(some (.ref 47)),none,(some (.str q3 234)),(some (.str q3 242)),(some (.builtin "ValueError.__new__")),(some (.bool true))]
def o4  : Obj:=fO q4 q5 (jaF (Z.top 4) 0) (.str q6 187) 78
def o5  : Obj:=tO [(.ref 24)]
def o6  : Obj:=tO [(.type "ValueError")]
def o7  : Obj:=kO q0 q7 q7 261 13 0 0 69 false .none .none .none 264
def o8  : Obj:=gO q4 q8 (jaF (Z.top 2) 0)
def o9  (P:Params):Obj:=dO (dE P q9 196 (.str q6 187)::dE P q10 200 (.int 2 199)::dE P q11 201 (.ref 22)::dE P q12 203 (.ref 25)::dE P q13 204 .none::[]) 3
def o10  : Obj:=sO (.type "builtin_function_or_method") [(.builtin "type.__prepare__"),(.type "type")]
def o11  : Obj:=sO (.type "super") [(.ref 82),(.ref 82),(.ref 82)]
def o12  : Obj:=sO .none [(.int 11 0),(.int 4 0),(.ref 59)]
def o13  : Obj:=tO [(.str q14 274),(.str q15 275)]
def o14  (P:Params):Obj:=dO (dE P q9 214 (.str q6 187)::dE P q10 218 (.int 4 217)::dE P q4 227 (.ref 41)::dE P q11 230 (.ref 42)::dE P q13 231 .none::[]) 2
def o15  : Obj:=kO q0 q4 q16 246 11 2 3 54 true (.ref 56) (.ref 57) (.ref 58) 251
def o16  : Obj:=sO (.type "builtin_function_or_method") [(.builtin "object.__init_subclass__"),(.ref 24)]
def g18  (P:Params):List Ydw:=dE P q13 166 .none::dE P q18 167 .none::dE P q19 168 (.builtin "__main__.__loader__#opaque")::dE P q20 169 .none::dE P q21 170 (.ref 6)::dE P q22 171 (.ref 4)::dE P q23 173 (.str q0 172)::dE P q24 174 .none::dE P q25 206 (.ref 24)::dE P q26 233 (.ref 44)::dE P q3 258 (.ref 63)::dE P q7 283 (.ref 82)::[]
def o17  (P:Params):Obj:=dO (dE P q17 165 (.str q6 187)::g18 P) 13
def o18  : Obj:=sO (.type "builtin_function_or_method") [(.builtin "object.__init_subclass__"),(.ref 63)]
def o19  : Obj:=kO q0 q26 q26 209 4 0 0 31 false .none .none .none 212
def o20  (P:Params):Obj:=dO (dE P q9 266 (.str q6 187)::dE P q10 270 (.int 13 269)::dE P q4 278 (.ref 79)::dE P q11 280 (.ref 80)::dE P q13 281 .none::[]) 2
def o21  (P:Params):Obj:=dO (dE P q9 241 (.str q6 187)::dE P q27 243 (.str q3 242)::dE P q10 245 (.int 9 244)::dE P q4 253 (.ref 60)::dE P q11 255 (.ref 61)::[]) 5
def o22  (P:Params):Obj:=dO (dE P q9 196 (.str q6 187)::dE P q27 198 (.str q25 197)::dE P q10 200 (.int 2 199)::dE P q11 201 (.ref 22)::[]) 4
def o23  : Obj:=fO q4 q8 (jaF (Z.top 2) 0) (.str q6 187) 40
def o24  : Obj:=sO (.type "getset_descriptor") [(.str q12 202),(.ref 24),(.builtin "ExceptionGroup.__weakref__"),.none]
def o25  : Obj:=tO [(.str q14 222),(.str q15 223),(.str q28 224)]
def o26  : Obj:=rO [(some (.ref 52)),(some (.ref 3)),(some (.ref 49)),none,(some (.str q6 187)),none,(some (.ref 0))]
def o27  : Obj:=rO [(some (.ref 20)),(some (.ref 3)),(some (.ref 17)),none,(some (.str q6 187)),none,(some (.ref 0))]
def o28  : Obj:=gO q4 q5 (jaF (Z.top 4) 0)
def o29  : Obj:=sO (.type "super") [(.ref 44),(.ref 44),(.ref 44)]
def o30  : Obj:=tO [(.str q15 254)]
def o31  : Obj:=sO (.type "super") [(.ref 63),(.ref 63),(.ref 63)]
def o32  : Obj:=sO .none [(.int 6 0),(.int 4 0),(.ref 40)]
def o33  : Obj:=tO [(.str q15 279)]
def o34  : Obj:=rO [(some (.ref 71)),(some (.ref 3)),(some (.ref 68)),none,(some (.str q6 187)),none,(some (.ref 0))]
def o35  : Obj:=kO q0 q4 q8 219 6 3 3 35 true (.ref 37) (.ref 38) (.ref 39) 225
def o36  : Obj:=tO [(.str q14 249),(.str q15 250)]
def o37  : Obj:=cO q25 [(.type "ValueError")] [(.ref 24),(.type "ValueError"),(.type "Exception"),(.type "BaseException"),(.type "object")] 23 [(.ref 44),(.ref 63),(.ref 82)] [(some (.ref 15)),none,(some (.str q25 189)),(some (.str q25 197)),(some (.builtin "ValueError.__new__")),(some (.bool true))]
def o38  (P:Params):Obj:=dO (dE P q9 266 (.str q6 187)::dE P q27 268 (.str q7 267)::dE P q10 270 (.int 13 269)::dE P q4 278 (.ref 79)::dE P q11 280 (.ref 80)::[]) 5
def o39  : Obj:=sO (.type "builtin_function_or_method") [(.builtin "object.__init_subclass__"),(.ref 82)]
def o40  : Obj:=kO q0 q3 q3 236 9 0 0 50 false .none .none .none 239
def o41  : Obj:=kO q0 q25 q25 191 2 0 0 18 false .none .none .none 194
def o42  : Obj:=cO q26 [(.ref 24)] [(.ref 44),(.ref 24),(.type "ValueError"),(.type "Exception"),(.type "BaseException"),(.type "object")] 43 [] [(some (.ref 28)),none,(some (.str q26 207)),(some (.str q26 215)),(some (.builtin "ValueError.__new__")),(some (.bool true))]
def o43  : Obj:=fO q4 q16 (jaF (Z.top 3) 0) (.str q6 187) 59
def h46  : List Value:=h0++[(.int 2 0),(.int 0 0),(.ref 20),(.int 4 0),(.int 0 0),(.ref 33),(.int 9 0),(.int 0 0),(.ref 52),(.int 13 0),(.int 0 0),(.ref 71)]
def o44  : Obj:=sO .none h46
def o45  : Obj:=rO [(some (.ref 33)),(some (.ref 3)),(some (.ref 30)),none,(some (.str q6 187)),none,(some (.ref 0))]
def o46  : Obj:=cO q7 [(.ref 24)] [(.ref 82),(.ref 24),(.type "ValueError"),(.type "Exception"),(.type "BaseException"),(.type "object")] 81 [] [(some (.ref 66)),none,(some (.str q7 259)),(some (.str q7 267)),(some (.builtin "ValueError.__new__")),(some (.bool true))]
def o47  : Obj:=tO [(.str q28 228),(.str q15 229)]
def o48  : Obj:=gO q4 q16 (jaF (Z.top 3) 0)
def o49  : Obj:=sO (.type "super") [(.ref 24),(.ref 24),(.ref 24)]
def o50  : Obj:=sO .none [(.int 15 0),(.int 4 0),(.ref 78)]
def o51  : Obj:=kO q0 q4 q5 271 15 2 3 73 true (.ref 75) (.ref 76) (.ref 77) 276
def o52  : Obj:=sO (.type "builtin_function_or_method") [(.builtin "object.__init_subclass__"),(.ref 44)]
def o53  (P:Params):Obj:=dO (dE P q9 241 (.str q6 187)::dE P q10 245 (.int 9 244)::dE P q4 253 (.ref 60)::dE P q11 255 (.ref 61)::dE P q13 256 .none::[]) 2
def o54  (P:Params):Obj:=dO (dE P q9 214 (.str q6 187)::dE P q27 216 (.str q26 215)::dE P q10 218 (.int 4 217)::dE P q4 227 (.ref 41)::dE P q11 230 (.ref 42)::[]) 5
def o55  : Obj:=gO q29 q29 (Z.top 8)
def o56  : Obj:=tO [(.str q30 443),(.str q31 444),(.str q32 445),(.str q33 446),(.str q34 447),(.str q35 448),(.str q36 449),(.str q37 450)]
def o57  : Obj:=fO q38 q38 (Z.top 10) (.str q39 336) 142
def o58  : Obj:=fO q40 q40 (Z.top 22) (.str q41 393) 206
def o59  : Obj:=kO q0 q42 q42 405 45 3 3 170 true (.ref 172) (.ref 173) (.ref 174) 416
def o60  : Obj:=kO q0 q43 q43 345 29 3 3 130 true (.ref 132) (.ref 133) (.ref 134) 351
def o61  : Obj:=kO q0 q44 q44 454 75 5 3 196 true .none .none (.ref 198) 457
def o62  : Obj:=gO q45 q45 (Z.top 16)
def o63  : Obj:=sO (.type "builtin_function_or_method") [(.builtin "object.__init_subclass__"),(.ref 101)]
def o64  (P:Params):Obj:=dO (dE P q9 291 (.str q6 187)::dE P q27 293 (.str q46 292)::dE P q10 295 (.int 17 294)::dE P q4 304 (.ref 98)::dE P q11 307 (.ref 99)::[]) 5
def o65  : Obj:=fO q47 q47 (Z.top 18) (.str q41 393) 182
def o66  (P:Params):Obj:=dO (dE P q9 318 (.str q6 187)::dE P q10 322 (.int 22 321)::dE P q4 330 (.ref 117)::dE P q11 332 (.ref 118)::dE P q13 333 .none::[]) 2
def o67  : Obj:=fO q48 q48 (Z.top 20) (.str q41 393) 194
def o68  : Obj:=tO [(.str q49 305),(.str q15 306)]
def o69  : Obj:=tO [(.str q50 422),(.str q32 423),(.str q34 424),(.str q35 425),(.str q15 426),(.str q51 427),(.str q52 428),(.str q53 429),(.str q54 430)]
def o70  : Obj:=gO q4 q55 (jaF (Z.top 6) 0)
def o71  : Obj:=tO [(.str q50 357),(.str q56 358),(.str q34 359),(.str q15 360),(.str q51 361),(.str q52 362),(.str q53 363),(.str q54 364)]
def o72  : Obj:=tO [(.str q50 463),(.str q56 464),(.str q30 465),(.str q31 466),(.str q57 467),(.str q36 468),(.str q37 469)]
def o73  : Obj:=fO q58 q58 (Z.top 12) (.str q39 336) 154
def o74  : Obj:=rO [(some (.ref 90)),(some (.ref 3)),(some (.ref 87)),none,(some (.str q6 187)),none,(some (.ref 0))]
def o75  : Obj:=kO q0 q59 q59 434 61 3 3 184 true .none .none (.ref 186) 437
def g79  (P:Params):List Ydw:=g18 P++[dE P q46 310 (.ref 101),dE P q61 335 (.ref 120),dE P q29 344 (.ref 129),dE P q43 353 (.ref 136),dE P q38 367 (.ref 143),dE P q62 377 (.ref 150),dE P q58 383 (.ref 155),dE P q63 392 (.ref 162),dE P q64 396 (.int 60 395),dE P q45 404 (.ref 169),dE P q42 418 (.ref 176),dE P q47 433 (.ref 183),dE P q59 439 (.ref 188),dE P q48 453 (.ref 195),dE P q44 459 (.ref 200),dE P q40 472 (.ref 207),dE P q65 483 (.ref 214)]
def o76  (P:Params):Obj:=dO (dE P q17 165 (.str q60 473)::g79 P) 30
def o77  : Obj:=fO q29 q29 (Z.top 8) (.str q39 336) 128
def o78  : Obj:=gO q48 q48 (Z.top 20)
def o79  : Obj:=kO q0 q63 q63 384 39 3 3 156 true (.ref 158) (.ref 159) (.ref 160) 390
def o80  : Obj:=kO q0 q4 q66 296 19 3 3 92 true (.ref 94) (.ref 95) (.ref 96) 302
def o81  : Obj:=tO [(.str q14 326),(.str q49 327)]
def o82  : Obj:=fO q45 q45 (Z.top 16) (.str q41 393) 168
def o83  : Obj:=gO q58 q58 (Z.top 12)
def o84  : Obj:=sO .none [(.int 19 0),(.int 4 0),(.ref 97)]
def o85  : Obj:=sO (.type "super") [(.ref 120),(.ref 120),(.ref 120)]
def o86  : Obj:=tO [(.str q67 400),(.str q68 401)]
def o87  : Obj:=cO q46 [(.ref 24)] [(.ref 101),(.ref 24),(.type "ValueError"),(.type "Exception"),(.type "BaseException"),(.type "object")] 100 [] [(some (.ref 85)),none,(some (.str q46 284)),(some (.str q46 292)),(some (.builtin "ValueError.__new__")),(some (.bool true))]
def o88  : Obj:=kO q0 q62 q62 368 34 3 3 144 true (.ref 146) (.ref 147) (.ref 148) 375
def o89  : Obj:=kO q0 q65 q65 475 82 3 3 208 true (.ref 210) (.ref 211) (.ref 212) 481
def o90  : Obj:=gO q47 q47 (Z.top 18)
def o91  : Obj:=fO q4 q55 (jaF (Z.top 6) 0) (.str q6 187) 116
def o92  : Obj:=gO q38 q38 (Z.top 10)
def o93  : Obj:=gO q40 q40 (Z.top 22)
def o94  : Obj:=kO q0 q61 q61 313 22 0 0 107 false .none .none .none 316
def o95  : Obj:=tO [(.str q68 341)]
def o96  : Obj:=kO q0 q29 q29 338 27 1 3 123 true (.ref 125) (.ref 126) (.ref 127) 342
def o97  : Obj:=gO q63 q63 (Z.top 13)
def o98  : Obj:=gO q4 q66 (jaF (Z.top 5) 0)
def o99  : Obj:=fO q42 q42 (Z.top 17) (.str q41 393) 175
def o100  : Obj:=fO q43 q43 (Z.top 9) (.str q39 336) 135
def o101  : Obj:=fO q44 q44 (Z.top 21) (.str q41 393) 199
def o102  : Obj:=kO q0 q45 q45 397 43 2 3 163 true (.ref 165) (.ref 166) (.ref 167) 402
def o103  : Obj:=cO q61 [(.ref 24)] [(.ref 120),(.ref 24),(.type "ValueError"),(.type "Exception"),(.type "BaseException"),(.type "object")] 119 [] [(some (.ref 104)),none,(some (.str q61 311)),(some (.str q61 319)),(some (.builtin "ValueError.__new__")),(some (.bool true))]
def o104  : Obj:=cO q25 [(.type "ValueError")] [(.ref 24),(.type "ValueError"),(.type "Exception"),(.type "BaseException"),(.type "object")] 23 [(.ref 44),(.ref 63),(.ref 82),(.ref 101),(.ref 120)] [(some (.ref 15)),none,(some (.str q25 189)),(some (.str q25 197)),(some (.builtin "ValueError.__new__")),(some (.bool true))]
def o105  : Obj:=tO [(.str q68 348),(.str q36 349),(.str q37 350)]
def o106  (P:Params):Obj:=dO (dE P q9 291 (.str q6 187)::dE P q10 295 (.int 17 294)::dE P q4 304 (.ref 98)::dE P q11 307 (.ref 99)::dE P q13 308 .none::[]) 2
def o107  : Obj:=gO q62 q62 (Z.top 11)
def o108  : Obj:=gO q65 q65 (Z.top 24)
def o109  : Obj:=kO q0 q4 q55 323 24 2 3 111 true (.ref 113) (.ref 114) (.ref 115) 328
def o110  : Obj:=tO [(.str q50 408),(.str q67 409),(.str q68 410),(.str q15 411),(.str q69 412),(.str q70 413),(.str q34 414),(.str q35 415)]
def o111  : Obj:=sO .none [(.int 24 0),(.int 4 0),(.ref 116)]
def o112  : Obj:=fO q59 q59 (Z.top 19) (.str q41 393) 187
def h117  : List Value:=h46++[(.int 17 0),(.int 0 0),(.ref 90),(.int 22 0),(.int 0 0),(.ref 109),(.int 27 0),(.int 0 0),(.ref 128),(.int 29 0),(.int 0 0),(.ref 135),(.int 31 0),(.int 0 0),(.ref 142),(.int 34 0),(.int 0 0),(.ref 149),(.int 37 0),(.int 0 0),(.ref 154),(.int 39 0),(.int 0 0),(.ref 161),(.int 43 0),(.int 0 0),(.ref 168),(.int 45 0),(.int 0 0),(.ref 175),(.int 55 0),(.int 0 0),(.ref 182),(.int 61 0),(.int 0 0),(.ref 187),(.int 68 0),(.int 0 0),(.ref 194),(.int 75 0),(.int 0 0),(.ref 199),(.int 78 0),(.int 0 0),(.ref 206),(.int 82 0),(.int 0 0),(.ref 213)]
def o113  : Obj:=sO .none h117
def o114  : Obj:=kO q0 q48 q48 440 68 3 3 189 true (.ref 191) (.ref 192) (.ref 193) 451
def o115  : Obj:=fO q63 q63 (Z.top 13) (.str q39 336) 161
def o116  : Obj:=fO q4 q66 (jaF (Z.top 5) 0) (.str q6 187) 97
def o117  : Obj:=tO [(.str q50 371),(.str q56 372),(.str q34 373),(.str q53 374)]
def o118  : Obj:=tO [(.str q71 478),(.str q15 479),(.str q72 480)]
def o119  (P:Params):Obj:=dO (dE P q9 318 (.str q6 187)::dE P q27 320 (.str q61 319)::dE P q10 322 (.int 22 321)::dE P q4 330 (.ref 117)::dE P q11 332 (.ref 118)::[]) 5
def o120  : Obj:=kO q0 q58 q58 378 37 2 3 151 true .none .none (.ref 153) 381
def o121  : Obj:=kO q0 q46 q46 286 17 0 0 88 false .none .none .none 289
def o122  : Obj:=gO q59 q59 (Z.top 19)
def o123  : Obj:=sO (.type "builtin_function_or_method") [(.builtin "object.__init_subclass__"),(.ref 120)]
def o124  : Obj:=gO q43 q43 (Z.top 9)
def o125  : Obj:=gO q44 q44 (Z.top 21)
def o126  : Obj:=sO (.type "super") [(.ref 101),(.ref 101),(.ref 101)]
def o127  : Obj:=fO q62 q62 (Z.top 11) (.str q39 336) 149
def o128  : Obj:=fO q65 q65 (Z.top 24) (.str q60 473) 213
def o129  : Obj:=kO q0 q47 q47 419 55 2 3 177 true (.ref 179) (.ref 180) (.ref 181) 431
def o130  : Obj:=tO [(.str q49 331)]
def o131  : Obj:=kO q0 q38 q38 354 31 3 3 137 true (.ref 139) (.ref 140) (.ref 141) 365
def o132  : Obj:=kO q0 q40 q40 460 78 5 3 201 true (.ref 203) (.ref 204) (.ref 205) 470
def o133  : Obj:=gO q42 q42 (Z.top 17)
def o134  : Obj:=rO [(some (.ref 109)),(some (.ref 3)),(some (.ref 106)),none,(some (.str q6 187)),none,(some (.ref 0))]
def o135  : Obj:=tO [(.str q31 387),(.str q34 388),(.str q73 389)]
def o136  : Obj:=tO [(.str q14 299),(.str q49 300),(.str q15 301)]
def o137  : Obj:=kO q0 q74 q74 556 118 5 3 250 true (.ref 252) (.ref 253) (.ref 254) 569
def o138  : Obj:=kO q0 q75 q75 738 238 5 3 378 true (.ref 380) (.ref 381) (.ref 382) 754
def o139  : Obj:=kO q0 q76 q76 655 177 3 3 316 true .none .none (.ref 318) 658
def o140  : Obj:=gO q77 q77 (Z.top 37)
def o141  : Obj:=gO q78 q78 (Z.top 47)
def o142  : Obj:=tO [(.str q79 778),(.str q80 779),(.str q81 780),(.str q82 781),(.str q83 782),(.str q84 783),(.str q85 784),(.str q86 785)]
def o143  : Obj:=fO q87 q87 (Z.top 39) (.str q88 581) 302
def o144  : Obj:=fO q89 q89 (Z.top 32) (.str q90 554) 262
def o145  : Obj:=fO q91 q91 (Z.top 43) (.str q88 581) 326
def o146  : Obj:=kO q0 q92 q92 614 149 2 3 290 true (.ref 292) (.ref 293) (.ref 294) 619
def o147  : Obj:=tO [(.str q50 515),(.str q56 516),(.str q30 517),(.str q67 518),(.str q31 519),(.str q71 520)]
def o148  : Obj:=gO q93 q93 (Z.top 51)
def o149  : Obj:=gO q94 q94 (Z.top 29)
def o150  : Obj:=tO [(.str q50 575),(.str q56 576),(.str q68 577)]
def o151  : Obj:=gO q95 q95 (Z.top 53)
def o152  : Obj:=tO [(.str q96 664),(.str q97 665)]
def o153  : Obj:=kO q0 q98 q98 500 90 6 3 222 true (.ref 224) (.ref 225) (.ref 226) 509
def o154  : Obj:=gO q99 q99 (Z.top 35)
def o155  : Obj:=fO q100 q100 (Z.top 55) (.str q88 581) 402
def o156  : Obj:=gO q101 q101 (Z.top 45)
def o157  : Obj:=kO q0 q102 q102 763 266 3 3 390 true (.ref 392) (.ref 393) (.ref 394) 772
def o158  : Obj:=tO [(.str q96 625),(.str q103 626),(.str q80 627),(.str q104 628),(.str q105 629),(.str q106 630),(.str q107 631)]
def o159  : Obj:=fO q108 q108 (Z.top 49) (.str q88 581) 362
def o160  : Obj:=fO q109 q109 (Z.top 27) (.str q60 473) 234
def o161  : Obj:=gO q110 q110 (Z.top 25)
def o162  : Obj:=fO q111 q111 (Z.top 41) (.str q88 581) 314
def g168  (P:Params):List Ydw:=g79 P++[dE P q110 499 (.ref 221),dE P q98 511 (.ref 228),dE P q109 523 (.ref 235),dE P q112 538 (.ref 242),dE P q94 553 (.ref 249),dE P q74 571 (.ref 256),dE P q89 580 (.ref 263),dE P q113 589 (.ref 270),dE P q99 600 (.ref 277),dE P q114 606 (.ref 282),dE P q77 613 (.ref 289),dE P q92 621 (.ref 296),dE P q87 634 (.ref 303),dE P q115 648 (.ref 310),dE P q111 654 (.ref 315),dE P q76 660 (.ref 320),dE P q91 668 (.ref 327),dE P q116 679 (.ref 334),dE P q101 688 (.ref 341),dE P q117 694 (.ref 346),dE P q78 703 (.ref 353),dE P q118 709 (.ref 358),dE P q108 715 (.ref 363),dE P q119 727 (.ref 370),dE P q93 737 (.ref 377),dE P q75 756 (.ref 384),dE P q95 762 (.ref 389),dE P q102 774 (.ref 396),dE P q100 788 (.ref 403),dE P q120 800 (.ref 410)]
def o163  (P:Params):Obj:=dO (dE P q17 165 (.str q88 581)::g168 P) 60
def o164  : Obj:=fO q77 q77 (Z.top 37) (.str q88 581) 288
def o165  : Obj:=fO q78 q78 (Z.top 47) (.str q88 581) 352
def o166  : Obj:=tO [(.str q96 593),(.str q121 594),(.str q122 595),(.str q123 596),(.str q84 597)]
def o167  : Obj:=gO q100 q100 (Z.top 55)
def o168  : Obj:=tO [(.str q80 683),(.str q124 684),(.str q125 685)]
def o169  : Obj:=kO q0 q119 q119 716 221 3 3 364 true (.ref 366) (.ref 367) (.ref 368) 725
def o170  : Obj:=kO q0 q112 q112 524 100 2 3 236 true (.ref 238) (.ref 239) (.ref 240) 536
def o171  : Obj:=gO q108 q108 (Z.top 49)
def o172  : Obj:=gO q109 q109 (Z.top 27)
def o173  : Obj:=kO q0 q114 q114 601 141 2 3 278 true .none .none (.ref 280) 604
def o174  : Obj:=kO q0 q120 q120 789 286 2 3 404 true (.ref 406) (.ref 407) (.ref 408) 798
def o175  : Obj:=kO q0 q117 q117 689 197 2 3 342 true .none .none (.ref 344) 692
def o176  : Obj:=tO [(.str q50 487),(.str q31 488),(.str q71 489),(.str q15 490),(.str q34 491),(.str q126 492),(.str q127 493),(.str q128 494),(.str q36 495),(.str q37 496)]
def o177  : Obj:=gO q111 q111 (Z.top 41)
def o178  : Obj:=fO q93 q93 (Z.top 51) (.str q88 581) 376
def o179  : Obj:=fO q94 q94 (Z.top 29) (.str q60 473) 248
def o180  : Obj:=gO q89 q89 (Z.top 32)
def o181  : Obj:=fO q95 q95 (Z.top 53) (.str q88 581) 388
def o182  : Obj:=gO q91 q91 (Z.top 43)
def o183  : Obj:=kO q0 q118 q118 704 201 3 3 354 true .none .none (.ref 356) 707
def o184  : Obj:=fO q99 q99 (Z.top 35) (.str q88 581) 276
def o185  : Obj:=fO q101 q101 (Z.top 45) (.str q88 581) 340
def o186  : Obj:=kO q0 q115 q115 635 158 3 3 304 true (.ref 306) (.ref 307) (.ref 308) 646
def o187  : Obj:=tO [(.str q80 731),(.str q129 732),(.str q130 733),(.str q131 734)]
def o188  : Obj:=tO [(.str q68 542),(.str q69 543),(.str q132 544),(.str q133 545),(.str q134 546),(.str q28 547),(.str q71 548),(.str q135 549),(.str q15 550)]
def o189  : Obj:=kO q0 q113 q113 583 126 1 3 264 true (.ref 266) (.ref 267) (.ref 268) 587
def o190  : Obj:=kO q0 q116 q116 669 183 3 3 328 true (.ref 330) (.ref 331) (.ref 332) 677
def o191  : Obj:=gO q87 q87 (Z.top 39)
def o192  : Obj:=tO [(.str q96 610)]
def o193  : Obj:=tO [(.str q83 698),(.str q136 699),(.str q137 700)]
def o194  : Obj:=fO q110 q110 (Z.top 25) (.str q60 473) 220
def o195  : Obj:=tO [(.str q50 565),(.str q56 566),(.str q30 567),(.str q67 568)]
def o196  : Obj:=fO q74 q74 (Z.top 31) (.str q90 554) 255
def o197  : Obj:=fO q75 q75 (Z.top 52) (.str q88 581) 383
def o198  : Obj:=fO q76 q76 (Z.top 42) (.str q88 581) 319
def o199  : Obj:=kO q0 q77 q77 607 147 1 3 283 true (.ref 285) (.ref 286) (.ref 287) 611
def o200  : Obj:=kO q0 q78 q78 695 199 3 3 347 true (.ref 349) (.ref 350) (.ref 351) 701
def o201  : Obj:=tO [(.str q50 503),(.str q56 504),(.str q30 505),(.str q67 506),(.str q31 507),(.str q57 508)]
def o202  : Obj:=gO q119 q119 (Z.top 50)
def o203  : Obj:=gO q112 q112 (Z.top 28)
def o204  : Obj:=tO [(.str q79 766),(.str q80 767),(.str q83 768),(.str q84 769),(.str q85 770),(.str q86 771)]
def o205  : Obj:=fO q92 q92 (Z.top 38) (.str q88 581) 295
def o206  : Obj:=gO q114 q114 (Z.top 36)
def o207  : Obj:=gO q120 q120 (Z.top 56)
def o208  : Obj:=gO q117 q117 (Z.top 46)
def o209  : Obj:=kO q0 q93 q93 728 235 2 3 371 true (.ref 373) (.ref 374) (.ref 375) 735
def o210  : Obj:=kO q0 q94 q94 539 106 4 3 243 true (.ref 245) (.ref 246) (.ref 247) 551
def o211  : Obj:=kO q0 q95 q95 757 263 2 3 385 true .none .none (.ref 387) 760
def o212  : Obj:=tO [(.str q96 617),(.str q80 618)]
def o213  : Obj:=gO q118 q118 (Z.top 48)
def o214  : Obj:=fO q98 q98 (Z.top 26) (.str q60 473) 227
def o215  : Obj:=kO q0 q99 q99 590 128 2 3 271 true (.ref 273) (.ref 274) (.ref 275) 598
def o216  : Obj:=kO q0 q101 q101 680 194 2 3 335 true (.ref 337) (.ref 338) (.ref 339) 686
def o217  : Obj:=gO q115 q115 (Z.top 40)
def o218  : Obj:=gO q113 q113 (Z.top 34)
def o219  : Obj:=fO q102 q102 (Z.top 54) (.str q88 581) 395
def o220  : Obj:=gO q116 q116 (Z.top 44)
def o221  : Obj:=kO q0 q110 q110 484 84 3 3 215 true (.ref 217) (.ref 218) (.ref 219) 497
def o222  : Obj:=tO [(.str q79 741),(.str q80 742),(.str q81 743),(.str q82 744),(.str q83 745),(.str q138 746),(.str q139 747),(.str q140 748),(.str q141 749),(.str q142 750),(.str q143 751),(.str q130 752),(.str q131 753)]
def o223  : Obj:=tO [(.str q50 559),(.str q56 560),(.str q30 561),(.str q67 562),(.str q68 563),(.str q132 564)]
def h230  : List Value:=h117++[(.int 84 0),(.int 0 0),(.ref 220),(.int 90 0),(.int 0 0),(.ref 227),(.int 94 0),(.int 0 0),(.ref 234),(.int 100 0),(.int 0 0),(.ref 241),(.int 106 0),(.int 0 0),(.ref 248),(.int 118 0),(.int 0 0),(.ref 255),(.int 123 0),(.int 0 0),(.ref 262),(.int 126 0),(.int 0 0),(.ref 269),(.int 128 0),(.int 0 0),(.ref 276),(.int 141 0),(.int 0 0),(.ref 281),(.int 147 0),(.int 0 0),(.ref 288),(.int 149 0),(.int 0 0),(.ref 295),(.int 151 0),(.int 0 0),(.ref 302),(.int 158 0),(.int 0 0),(.ref 309),(.int 166 0),(.int 0 0),(.ref 314),(.int 177 0),(.int 0 0),(.ref 319),(.int 179 0),(.int 0 0),(.ref 326),(.int 183 0),(.int 0 0),(.ref 333),(.int 194 0),(.int 0 0),(.ref 340),(.int 197 0),(.int 0 0),(.ref 345),(.int 199 0),(.int 0 0),(.ref 352),(.int 201 0),(.int 0 0),(.ref 357),(.int 214 0),(.int 0 0),(.ref 362),(.int 221 0),(.int 0 0),(.ref 369),(.int 235 0),(.int 0 0),(.ref 376),(.int 238 0),(.int 0 0),(.ref 383),(.int 263 0),(.int 0 0),(.ref 388),(.int 266 0),(.int 0 0),(.ref 395),(.int 276 0),(.int 0 0),(.ref 402),(.int 286 0),(.int 0 0),(.ref 409)]
def o224  : Obj:=sO .none h230
def o225  : Obj:=gO q98 q98 (Z.top 26)
def o226  : Obj:=kO q0 q100 q100 775 276 5 3 397 true (.ref 399) (.ref 400) (.ref 401) 786
def o227  : Obj:=tO [(.str q96 638),(.str q81 639),(.str q80 640),(.str q104 641),(.str q105 642),(.str q144 643),(.str q106 644),(.str q145 645)]
def o228  : Obj:=fO q119 q119 (Z.top 50) (.str q88 581) 369
def o229  : Obj:=fO q112 q112 (Z.top 28) (.str q60 473) 241
def o230  : Obj:=tO [(.str q146 586)]
def o231  : Obj:=gO q102 q102 (Z.top 54)
def o232  : Obj:=tO [(.str q96 672),(.str q83 673),(.str q147 674),(.str q139 675),(.str q97 676)]
def o233  : Obj:=kO q0 q108 q108 710 214 3 3 359 true .none .none (.ref 361) 713
def o234  : Obj:=kO q0 q109 q109 512 94 6 3 229 true (.ref 231) (.ref 232) (.ref 233) 521
def o235  : Obj:=fO q114 q114 (Z.top 36) (.str q88 581) 281
def o236  : Obj:=fO q120 q120 (Z.top 56) (.str q88 581) 409
def o237  : Obj:=fO q117 q117 (Z.top 46) (.str q88 581) 345
def o238  : Obj:=kO q0 q111 q111 649 166 4 3 311 true .none .none (.ref 313) 652
def o239  : Obj:=kO q0 q89 q89 572 123 3 3 257 true (.ref 259) (.ref 260) (.ref 261) 578
def o240  : Obj:=kO q0 q91 q91 661 179 1 3 321 true (.ref 323) (.ref 324) (.ref 325) 666
def o241  : Obj:=gO q92 q92 (Z.top 38)
def o242  : Obj:=fO q118 q118 (Z.top 48) (.str q88 581) 357
def o243  : Obj:=tO [(.str q141 792),(.str q140 793),(.str q130 794),(.str q131 795),(.str q84 796),(.str q143 797)]
def o244  : Obj:=fO q115 q115 (Z.top 40) (.str q88 581) 309
def o245  : Obj:=fO q113 q113 (Z.top 34) (.str q88 581) 269
def o246  : Obj:=fO q116 q116 (Z.top 44) (.str q88 581) 333
def o247  : Obj:=kO q0 q87 q87 622 151 3 3 297 true (.ref 299) (.ref 300) (.ref 301) 632
def o248  : Obj:=tO [(.str q81 719),(.str q141 720),(.str q148 721),(.str q130 722),(.str q131 723),(.str q149 724)]
def o249  : Obj:=tO [(.str q31 527),(.str q71 528),(.str q15 529),(.str q34 530),(.str q126 531),(.str q127 532),(.str q128 533),(.str q36 534),(.str q37 535)]
def o250  : Obj:=gO q76 q76 (Z.top 42)
def o251  : Obj:=gO q75 q75 (Z.top 52)
def o252  : Obj:=gO q74 q74 (Z.top 31)
def o253  : Obj:=fO q150 q150 (Z.top 57) (.str q88 581) 414
def g261  (P:Params):List Ydw:=g168 P++[dE P q150 806 (.ref 415)]
def o254  (P:Params):Obj:=dO (dE P q17 165 (.str q88 581)::g261 P) 61
def o255  : Obj:=gO q150 q150 (Z.top 57)
def h264  : List Value:=h230++[(.int 294 0),(.int 0 0),(.ref 414)]
def o256  : Obj:=sO .none h264
def o257  : Obj:=kO q0 q150 q150 801 294 1 3 411 true .none .none (.ref 413) 804
def Ha  (P:Params):Heap:=⟨⟨YbM P::Ybq P::YbL P::Yff P::YbK P::YbJ P::YbI P::YbH P::YbG P::YbF P::Yby P::tE::o0::o1::o2::[]⟩,{}⟩
def t0  (P:Params):Yb6:=(bN (YbM P) (bN (Ybq P) (bN (Yff P) (bL (YbH P)) (bL tE)) (bN (YbJ P) (bL (YbF P)) (bL o1))) (bN (YbL P) (bN (YbK P) (bL (YbG P)) (bL o0)) (bN (YbI P) (bL (Yby P)) (bL o2))))
def t1  (P:Params):Yb6:=(bN (YbM P) (bN (Ybq P) (bN (o17 P) (bN (YbH P) (bN o6 (bN tE (bL o3) bE) (bN o5 (bL o4) bE)) (bN (o9 P) (bN o8 (bL o7) bE) (bL nO))) (bN tE (bN nO (bN tE (bL o10) bE) (bN o12 (bL o11) bE)) (bN o16 (bN (o14 P) (bL o13) bE) (bL o15)))) (bN (YbJ P) (bN (YbF P) (bN (o22 P) (bN o19 (bL o18) bE) (bN (o21 P) (bL (o20 P)) bE)) (bN o24 (bN o23 (bL tE) bE) (bL tE))) (bN o1 (bN o27 (bN o25 (bL tE) bE) (bL o26)) (bN o10 (bN o29 (bL o28) bE) (bL o30))))) (bN (YbL P) (bN (YbK P) (bN (YbG P) (bN o10 (bN o32 (bL o31) bE) (bN o10 (bL o33) bE)) (bN o37 (bN o35 (bL o34) bE) (bL o36))) (bN o44 (bN o41 (bN nO (bL (o38 P)) bE) (bN o40 (bL o39) bE)) (bN o5 (bN o42 (bL tE) bE) (bL o43)))) (bN (YbI P) (bN (Yby P) (bN tE (bN o45 (bL o5) bE) (bN tE (bL o46) bE)) (bN o49 (bN o47 (bL nO) bE) (bL o48))) (bN o2 (bN tE (bN tE (bL o50) bE) (bL tE)) (bN (o54 P) (bN o52 (bL o51) bE) (bL (o53 P)))))))
def t2  (P:Params):Yb6:=(bN (YbM P) (bN (Ybq P) (bN (o76 P) (bN (YbH P) (bN o6 (bN tE (bN o3 (bL o55) (bL o56)) (bN tE (bL tE) bE)) (bN o5 (bN o4 (bL o57) (bL o58)) (bN tE (bL o59) bE))) (bN (o9 P) (bN o8 (bN o7 (bL o60) (bL o61)) (bN o63 (bL o62) bE)) (bN nO (bN (o64 P) (bL tE) bE) (bN (o66 P) (bL o65) bE)))) (bN tE (bN nO (bN tE (bN o10 (bL nO) (bL o67)) (bN o68 (bL tE) bE)) (bN o12 (bN o11 (bL tE) (bL tE)) (bN o70 (bL o69) bE))) (bN o16 (bN (o14 P) (bN o13 (bL o71) (bL o72)) (bN tE (bL nO) bE)) (bN o15 (bN o74 (bL o73) bE) (bN tE (bL o75) bE))))) (bN (YbJ P) (bN (YbF P) (bN (o22 P) (bN o19 (bN o18 (bL o77) (bL o78)) (bN o80 (bL o79) bE)) (bN (o21 P) (bN (o20 P) (bL nO) (bL nO)) (bN o81 (bL tE) bE))) (bN o24 (bN o23 (bN tE (bL tE) (bL tE)) (bN o10 (bL o82) bE)) (bN tE (bN o84 (bL o83) bE) (bN o85 (bL nO) bE)))) (bN o1 (bN o27 (bN o25 (bN tE (bL tE) (bL nO)) (bN o87 (bL o86) bE)) (bN o26 (bN o5 (bL o88) (bL o89)) (bN o91 (bL o90) bE))) (bN o10 (bN o29 (bN o28 (bL o92) (bL o93)) (bN o94 (bL tE) bE)) (bN o30 (bN nO (bL nO) bE) (bN o95 (bL tE) bE)))))) (bN (YbL P) (bN (YbK P) (bN (YbG P) (bN o10 (bN o32 (bN o31 (bL o96) (bL tE)) (bN o98 (bL o97) bE)) (bN o10 (bN o33 (bL tE) (bL tE)) (bN nO (bL o99) bE))) (bN o104 (bN o35 (bN o34 (bL o100) (bL o101)) (bN o5 (bL o102) bE)) (bN o36 (bN tE (bL nO) bE) (bN o103 (bL tE) bE)))) (bN o113 (bN o41 (bN nO (bN (o38 P) (bL o105) (bL tE)) (bN (o106 P) (bL nO) bE)) (bN o40 (bN o39 (bL o107) (bL o108)) (bN o109 (bL tE) bE))) (bN o5 (bN o42 (bN tE (bL tE) (bL tE)) (bN o111 (bL o110) bE)) (bN o43 (bN tE (bL tE) bE) (bN nO (bL o112) bE))))) (bN (YbI P) (bN (Yby P) (bN tE (bN o45 (bN o5 (bL tE) (bL o114)) (bN o116 (bL o115) bE)) (bN tE (bN o46 (bL o117) (bL o118)) (bN tE (bL nO) bE))) (bN o49 (bN o47 (bN nO (bL nO) (bL nO)) (bN (o119 P) (bL tE) bE)) (bN o48 (bN o121 (bL o120) bE) (bN o123 (bL o122) bE)))) (bN o2 (bN tE (bN tE (bN o50 (bL o124) (bL o125)) (bN o126 (bL tE) bE)) (bN tE (bN o10 (bL o127) (bL o128)) (bN o130 (bL o129) bE))) (bN (o54 P) (bN o52 (bN o51 (bL o131) (bL o132)) (bN o134 (bL o133) bE)) (bN (o53 P) (bN o136 (bL o135) bE) (bN tE (bL nO) bE)))))))
def t3  (P:Params):Yb6:=(bN (YbM P) (bN (Ybq P) (bN (o163 P) (bN (YbH P) (bN o6 (bN tE (bN o3 (bN o55 (bL o137) (bL o138)) (bN o56 (bL o139) bE)) (bN tE (bN tE (bL o140) bE) (bN nO (bL o141) bE))) (bN o5 (bN o4 (bN o57 (bL tE) (bL o142)) (bN o58 (bL tE) bE)) (bN tE (bN o59 (bL o143) bE) (bN tE (bL tE) bE)))) (bN (o9 P) (bN o8 (bN o7 (bN o60 (bL o144) (bL nO)) (bN o61 (bL o145) bE)) (bN o63 (bN o62 (bL o146) bE) (bN o147 (bL tE) bE))) (bN nO (bN (o64 P) (bN tE (bL nO) (bL tE)) (bN tE (bL nO) bE)) (bN (o66 P) (bN o65 (bL tE) bE) (bN o149 (bL o148) bE))))) (bN tE (bN nO (bN tE (bN o10 (bN nO (bL o150) (bL o151)) (bN o67 (bL o152) bE)) (bN o68 (bN tE (bL nO) bE) (bN o153 (bL nO) bE))) (bN o12 (bN o11 (bN tE (bL o154) (bL o155)) (bN tE (bL o156) bE)) (bN o70 (bN o69 (bL tE) bE) (bN tE (bL tE) bE)))) (bN o16 (bN (o14 P) (bN o13 (bN o71 (bL tE) (bL o157)) (bN o72 (bL tE) bE)) (bN tE (bN nO (bL o158) bE) (bN o160 (bL o159) bE))) (bN o15 (bN o74 (bN o73 (bL tE) bE) (bN o161 (bL tE) bE)) (bN tE (bN o75 (bL o162) bE) (bN nO (bL nO) bE)))))) (bN (YbJ P) (bN (YbF P) (bN (o22 P) (bN o19 (bN o18 (bN o77 (bL tE) (bL tE)) (bN o78 (bL tE) bE)) (bN o80 (bN o79 (bL o164) bE) (bN tE (bL o165) bE))) (bN (o21 P) (bN (o20 P) (bN nO (bL o166) (bL o167)) (bN nO (bL o168) bE)) (bN o81 (bN tE (bL nO) bE) (bN o170 (bL o169) bE)))) (bN o24 (bN o23 (bN tE (bN tE (bL nO) (bL tE)) (bN tE (bL nO) bE)) (bN o10 (bN o82 (bL tE) bE) (bN o172 (bL o171) bE))) (bN tE (bN o84 (bN o83 (bL o173) (bL o174)) (bN o176 (bL o175) bE)) (bN o85 (bN nO (bL o177) bE) (bN o179 (bL o178) bE))))) (bN o1 (bN o27 (bN o25 (bN tE (bN tE (bL o180) (bL o181)) (bN nO (bL o182) bE)) (bN o87 (bN o86 (bL tE) bE) (bN tE (bL o183) bE))) (bN o26 (bN o5 (bN o88 (bL o184) (bL nO)) (bN o89 (bL o185) bE)) (bN o91 (bN o90 (bL o186) bE) (bN o188 (bL o187) bE)))) (bN o10 (bN o29 (bN o28 (bN o92 (bL o189) (bL tE)) (bN o93 (bL o190) bE)) (bN o94 (bN tE (bL o191) bE) (bN nO (bL nO) bE))) (bN o30 (bN nO (bN nO (bL o192) bE) (bN o194 (bL o193) bE)) (bN o95 (bN tE (bL nO) bE) (bN o195 (bL tE) bE))))))) (bN (YbL P) (bN (YbK P) (bN (YbG P) (bN o10 (bN o32 (bN o31 (bN o96 (bL o196) (bL o197)) (bN tE (bL o198) bE)) (bN o98 (bN o97 (bL o199) bE) (bN o201 (bL o200) bE))) (bN o10 (bN o33 (bN tE (bL nO) (bL tE)) (bN tE (bL nO) bE)) (bN nO (bN o99 (bL tE) bE) (bN o203 (bL o202) bE)))) (bN o104 (bN o35 (bN o34 (bN o100 (bL tE) (bL o204)) (bN o101 (bL tE) bE)) (bN o5 (bN o102 (bL o205) bE) (bN tE (bL nO) bE))) (bN o36 (bN tE (bN nO (bL o206) (bL o207)) (bN nO (bL o208) bE)) (bN o103 (bN tE (bL nO) bE) (bN o210 (bL o209) bE))))) (bN o224 (bN o41 (bN nO (bN (o38 P) (bN o105 (bL tE) (bL o211)) (bN tE (bL tE) bE)) (bN (o106 P) (bN nO (bL o212) bE) (bN o214 (bL o213) bE))) (bN o40 (bN o39 (bN o107 (bL o215) (bL tE)) (bN o108 (bL o216) bE)) (bN o109 (bN tE (bL o217) bE) (bN nO (bL nO) bE)))) (bN o5 (bN o42 (bN tE (bN tE (bL o218) (bL o219)) (bN tE (bL o220) bE)) (bN o111 (bN o110 (bL tE) bE) (bN tE (bL tE) bE))) (bN o43 (bN tE (bN tE (bL nO) bE) (bN o221 (bL nO) bE)) (bN nO (bN o112 (bL tE) bE) (bN o223 (bL o222) bE)))))) (bN (YbI P) (bN (Yby P) (bN tE (bN o45 (bN o5 (bN tE (bL nO) (bL nO)) (bN o114 (bL nO) bE)) (bN o116 (bN o115 (bL tE) bE) (bN o225 (bL tE) bE))) (bN tE (bN o46 (bN o117 (bL tE) (bL o226)) (bN o118 (bL tE) bE)) (bN tE (bN nO (bL o227) bE) (bN o229 (bL o228) bE)))) (bN o49 (bN o47 (bN nO (bN nO (bL o230) (bL o231)) (bN nO (bL o232) bE)) (bN (o119 P) (bN tE (bL nO) bE) (bN o234 (bL o233) bE))) (bN o48 (bN o121 (bN o120 (bL o235) (bL o236)) (bN tE (bL o237) bE)) (bN o123 (bN o122 (bL o238) bE) (bN tE (bL tE) bE))))) (bN o2 (bN tE (bN tE (bN o50 (bN o124 (bL o239) (bL tE)) (bN o125 (bL o240) bE)) (bN o126 (bN tE (bL o241) bE) (bN nO (bL o242) bE))) (bN tE (bN o10 (bN o127 (bL tE) (bL o243)) (bN o128 (bL tE) bE)) (bN o130 (bN o129 (bL o244) bE) (bN tE (bL tE) bE)))) (bN (o54 P) (bN o52 (bN o51 (bN o131 (bL o245) (bL nO)) (bN o132 (bL o246) bE)) (bN o134 (bN o133 (bL o247) bE) (bN o249 (bL o248) bE))) (bN (o53 P) (bN o136 (bN o135 (bL tE) bE) (bN tE (bL tE) bE)) (bN tE (bN nO (bL o250) bE) (bN o252 (bL o251) bE))))))))
def t4  (P:Params):Yb6:=(bN (YbM P) (bN (Ybq P) (bN (o254 P) (bN (YbH P) (bN o6 (bN tE (bN o3 (bN o55 (bL o137) (bL o138)) (bN o56 (bL o139) bE)) (bN tE (bN tE (bL o140) (bL o253)) (bN nO (bL o141) bE))) (bN o5 (bN o4 (bN o57 (bL tE) (bL o142)) (bN o58 (bL tE) bE)) (bN tE (bN o59 (bL o143) bE) (bN tE (bL tE) bE)))) (bN (o9 P) (bN o8 (bN o7 (bN o60 (bL o144) (bL nO)) (bN o61 (bL o145) bE)) (bN o63 (bN o62 (bL o146) bE) (bN o147 (bL tE) bE))) (bN nO (bN (o64 P) (bN tE (bL nO) (bL tE)) (bN tE (bL nO) bE)) (bN (o66 P) (bN o65 (bL tE) bE) (bN o149 (bL o148) bE))))) (bN tE (bN nO (bN tE (bN o10 (bN nO (bL o150) (bL o151)) (bN o67 (bL o152) bE)) (bN o68 (bN tE (bL nO) bE) (bN o153 (bL nO) bE))) (bN o12 (bN o11 (bN tE (bL o154) (bL o155)) (bN tE (bL o156) bE)) (bN o70 (bN o69 (bL tE) bE) (bN tE (bL tE) bE)))) (bN o16 (bN (o14 P) (bN o13 (bN o71 (bL tE) (bL o157)) (bN o72 (bL tE) bE)) (bN tE (bN nO (bL o158) bE) (bN o160 (bL o159) bE))) (bN o15 (bN o74 (bN o73 (bL tE) (bL tE)) (bN o161 (bL tE) bE)) (bN tE (bN o75 (bL o162) bE) (bN nO (bL nO) bE)))))) (bN (YbJ P) (bN (YbF P) (bN (o22 P) (bN o19 (bN o18 (bN o77 (bL tE) (bL tE)) (bN o78 (bL tE) bE)) (bN o80 (bN o79 (bL o164) bE) (bN tE (bL o165) bE))) (bN (o21 P) (bN (o20 P) (bN nO (bL o166) (bL o167)) (bN nO (bL o168) bE)) (bN o81 (bN tE (bL nO) bE) (bN o170 (bL o169) bE)))) (bN o24 (bN o23 (bN tE (bN tE (bL nO) (bL tE)) (bN tE (bL nO) bE)) (bN o10 (bN o82 (bL tE) bE) (bN o172 (bL o171) bE))) (bN tE (bN o84 (bN o83 (bL o173) (bL o174)) (bN o176 (bL o175) bE)) (bN o85 (bN nO (bL o177) bE) (bN o179 (bL o178) bE))))) (bN o1 (bN o27 (bN o25 (bN tE (bN tE (bL o180) (bL o181)) (bN nO (bL o182) bE)) (bN o87 (bN o86 (bL tE) bE) (bN tE (bL o183) bE))) (bN o26 (bN o5 (bN o88 (bL o184) (bL nO)) (bN o89 (bL o185) bE)) (bN o91 (bN o90 (bL o186) bE) (bN o188 (bL o187) bE)))) (bN o10 (bN o29 (bN o28 (bN o92 (bL o189) (bL tE)) (bN o93 (bL o190) bE)) (bN o94 (bN tE (bL o191) bE) (bN nO (bL nO) bE))) (bN o30 (bN nO (bN nO (bL o192) (bL o255)) (bN o194 (bL o193) bE)) (bN o95 (bN tE (bL nO) bE) (bN o195 (bL tE) bE))))))) (bN (YbL P) (bN (YbK P) (bN (YbG P) (bN o10 (bN o32 (bN o31 (bN o96 (bL o196) (bL o197)) (bN tE (bL o198) bE)) (bN o98 (bN o97 (bL o199) bE) (bN o201 (bL o200) bE))) (bN o10 (bN o33 (bN tE (bL nO) (bL tE)) (bN tE (bL nO) bE)) (bN nO (bN o99 (bL tE) bE) (bN o203 (bL o202) bE)))) (bN o104 (bN o35 (bN o34 (bN o100 (bL tE) (bL o204)) (bN o101 (bL tE) bE)) (bN o5 (bN o102 (bL o205) bE) (bN tE (bL nO) bE))) (bN o36 (bN tE (bN nO (bL o206) (bL o207)) (bN nO (bL o208) bE)) (bN o103 (bN tE (bL nO) bE) (bN o210 (bL o209) bE))))) (bN o256 (bN o41 (bN nO (bN (o38 P) (bN o105 (bL tE) (bL o211)) (bN tE (bL tE) bE)) (bN (o106 P) (bN nO (bL o212) bE) (bN o214 (bL o213) bE))) (bN o40 (bN o39 (bN o107 (bL o215) (bL tE)) (bN o108 (bL o216) bE)) (bN o109 (bN tE (bL o217) bE) (bN nO (bL nO) bE)))) (bN o5 (bN o42 (bN tE (bN tE (bL o218) (bL o219)) (bN tE (bL o220) bE)) (bN o111 (bN o110 (bL tE) bE) (bN tE (bL tE) bE))) (bN o43 (bN tE (bN tE (bL nO) (bL nO)) (bN o221 (bL nO) bE)) (bN nO (bN o112 (bL tE) bE) (bN o223 (bL o222) bE)))))) (bN (YbI P) (bN (Yby P) (bN tE (bN o45 (bN o5 (bN tE (bL nO) (bL nO)) (bN o114 (bL nO) bE)) (bN o116 (bN o115 (bL tE) bE) (bN o225 (bL tE) bE))) (bN tE (bN o46 (bN o117 (bL tE) (bL o226)) (bN o118 (bL tE) bE)) (bN tE (bN nO (bL o227) bE) (bN o229 (bL o228) bE)))) (bN o49 (bN o47 (bN nO (bN nO (bL o230) (bL o231)) (bN nO (bL o232) bE)) (bN (o119 P) (bN tE (bL nO) bE) (bN o234 (bL o233) bE))) (bN o48 (bN o121 (bN o120 (bL o235) (bL o236)) (bN tE (bL o237) bE)) (bN o123 (bN o122 (bL o238) bE) (bN tE (bL tE) bE))))) (bN o2 (bN tE (bN tE (bN o50 (bN o124 (bL o239) (bL tE)) (bN o125 (bL o240) bE)) (bN o126 (bN tE (bL o241) bE) (bN nO (bL o242) bE))) (bN tE (bN o10 (bN o127 (bL tE) (bL o243)) (bN o128 (bL tE) bE)) (bN o130 (bN o129 (bL o244) bE) (bN tE (bL tE) bE)))) (bN (o54 P) (bN o52 (bN o51 (bN o131 (bL o245) (bL nO)) (bN o132 (bL o246) bE)) (bN o134 (bN o133 (bL o247) bE) (bN o249 (bL o248) bE))) (bN (o53 P) (bN o136 (bN o135 (bL tE) (bL o257)) (bN tE (bL tE) bE)) (bN tE (bN nO (bL o250) bE) (bN o252 (bL o251) bE))))))))
def Hz  (P:Params):Heap:=⟨⟨YbM P::Ybq P::YbL P::o254 P::YbK P::YbJ P::YbI P::YbH P::YbG P::YbF P::Yby P::tE::o256::o1::o2::o6::o10::o22 P::tE::nO::o41::o27::tE::o9 P::o104::o24::o49::o16::o5::o10::o54 P::tE::o32::o19::o45::tE::nO::o25::tE::o8::o35::o23::o47::o14 P::o42::o29::o52::o5::o10::o21 P::tE::o12::o40::o26::tE::nO::o36::tE::o48::o15::o43::o30::o53 P::o3::o31::o18::o5::o10::o38 P::tE::o50::o7::o34::tE::nO::o13::tE::o28::o51::o4::o33::o20 P::o46::o11::o39::o5::o10::o64 P::tE::o84::o121::o74::tE::nO::o136::tE::o98::o80::o116::o68::o106 P::o87::o126::o63::o5::o10::o119 P::tE::o111::o94::o134::tE::nO::o81::tE::o70::o109::o91::o130::o66 P::o103::o85::o123::tE::nO::o95::tE::o55::o96::o77::tE::nO::o105::tE::o124::o60::o100::tE::nO::o71::tE::o92::o131::o57::tE::nO::o117::tE::o107::o88::o127::tE::nO::o83::o120::o73::tE::nO::o135::tE::o97::o79::o115::tE::nO::o86::tE::o62::o102::o82::tE::nO::o110::tE::o133::o59::o99::tE::nO::o69::tE::o90::o129::o65::tE::nO::o122::o75::o112::tE::nO::o56::tE::o78::o114::o67::tE::nO::o125::o61::o101::tE::nO::o72::tE::o93::o132::o58::tE::nO::o118::tE::o108::o89::o128::tE::nO::o176::tE::o161::o221::o194::tE::nO::o201::tE::o225::o153::o214::tE::nO::o147::tE::o172::o234::o160::tE::nO::o249::tE::o203::o170::o229::tE::nO::o188::tE::o149::o210::o179::tE::nO::o223::o195::o252::o137::o196::tE::nO::o150::tE::o180::o239::o144::tE::nO::o230::tE::o218::o189::o245::tE::nO::o166::tE::o154::o215::o184::tE::nO::o206::o173::o235::tE::nO::o192::tE::o140::o199::o164::tE::nO::o212::tE::o241::o146::o205::tE::nO::o158::tE::o191::o247::o143::tE::nO::o227::tE::o217::o186::o244::tE::nO::o177::o238::o162::tE::nO::o250::o139::o198::tE::nO::o152::tE::o182::o240::o145::tE::nO::o232::tE::o220::o190::o246::tE::nO::o168::tE::o156::o216::o185::tE::nO::o208::o175::o237::tE::nO::o193::tE::o141::o200::o165::tE::nO::o213::o183::o242::tE::nO::o171::o233::o159::tE::nO::o248::tE::o202::o169::o228::tE::nO::o187::tE::o148::o209::o178::tE::nO::o222::tE::o251::o138::o197::tE::nO::o151::o211::o181::tE::nO::o204::tE::o231::o157::o219::tE::nO::o142::tE::o167::o226::o155::tE::nO::o243::tE::o207::o174::o236::tE::nO::o255::o257::o253::[]⟩,{}⟩
noncomputable def st1  : List Stmt:=[Z.top 0,Z.top 1,Z.top 2,Z.top 3,Z.top 4]
noncomputable def st2  : List Stmt:=[Z.top 5,Z.top 6,Z.top 7,Z.top 8,Z.top 9,Z.top 10,Z.top 11,Z.top 12,Z.top 13,Z.top 14,Z.top 15,Z.top 16,Z.top 17,Z.top 18,Z.top 19,Z.top 20,Z.top 21,Z.top 22,Z.top 23,Z.top 24]
noncomputable def st3  : List Stmt:=[Z.top 25,Z.top 26,Z.top 27,Z.top 28,Z.top 29,Z.top 30,Z.top 31,Z.top 32,Z.top 33,Z.top 34,Z.top 35,Z.top 36,Z.top 37,Z.top 38,Z.top 39,Z.top 40,Z.top 41,Z.top 42,Z.top 43,Z.top 44,Z.top 45,Z.top 46,Z.top 47,Z.top 48,Z.top 49,Z.top 50,Z.top 51,Z.top 52,Z.top 53,Z.top 54,Z.top 55,Z.top 56]
noncomputable def st4  : List Stmt:=[Z.top 57]
def bd  : List Stmt:=st1++(st2++(st3++(st4++[])))
noncomputable abbrev pw  : Program:=PySem.Challenge.pw_beatplans_k14_things_that_are_no_cases
def qw  : Program:={ pw with main:={ pw.main with body:=[Z.top 1,Z.top 2,Z.top 3,Z.top 4,Z.top 5,Z.top 6,Z.top 8,Z.top 9,Z.top 10,Z.top 11,Z.top 12,Z.top 13,Z.top 15,Z.top 16,Z.top 17,Z.top 18,Z.top 19,Z.top 20,Z.top 21,Z.top 22,Z.top 24,Z.top 25,Z.top 26,Z.top 27,Z.top 28,Z.top 29,Z.top 31,Z.top 32,Z.top 34,Z.top 35,Z.top 36,Z.top 37,Z.top 38,Z.top 39,Z.top 40,Z.top 41,Z.top 42,Z.top 43,Z.top 44,Z.top 45,Z.top 46,Z.top 47,Z.top 48,Z.top 49,Z.top 50,Z.top 51,Z.top 52,Z.top 53,Z.top 54,Z.top 55,Z.top 56,Z.top 57] } }
def en  : Env:={ scope:=pw.main.scope,locals:=mainNs,globals:=mainNs,cells:=[],code:=.ref 13,frame:=some 14 }
def cE  : Code:=.body bd en
noncomputable abbrev pz  : Pos:=⟨0,0,0,0⟩
abbrev fz  : List Frame:=[PySem.W.topFrame pz]
noncomputable abbrev s0  (w:World)(os:OsState):Shared:=⟨YbX w.params,⟨[]⟩,PySem.W.boot_drawn,PySem.W.boot_toks,os⟩
abbrev sz  (w:World)(os:OsState):Shared:=⟨Hz w.params,⟨[]⟩,{},807,os⟩
noncomputable def sT  (t:Params->Yb6)(n k:Nat)(w:World)(os:OsState):PySem.W.SharedT:=⟨t w.params,n,{},⟨[]⟩,{},k,os⟩
section
variable (w:World)(os:OsState)
def jpC  : PySem.W.topGo YcP pw w 11 (some (.ref 6)) 12 (s0 w os) (Yft pw)=some (⟨Ha w.params,⟨[]⟩,{},187,os⟩,⟨denote YcP cE,cE,pz,fz⟩):=by
 rw[PySem.W.Fast.te15667345088766844465,YaF,PySem.W.Fast.te11892475500146522536];kernel_rfl
def jpE  : PySem.W.segRun YcP pw w 11 (some (.ref 6)) 1 1 ⟨Ha w.params,⟨[]⟩,{},187,os⟩ (PySem.W.blockOf bd en cE pz fz)=some (.next,(sT t0 15 187 w os).abs,cE,pz):=by
 rw[PySem.W.Fast.te14374325043358763698,YaF];kernel_rfl
def r1  : YcZ YcP pw w 11 (some (.ref 6)) 1 933 (sT t0 15 187 w os) (YcU st1 en cE pz fz)=some (.next,sT t1 85 284 w os,cE,⟨13,0,16,24⟩):=by
 rw[Ybi,YaF];kernel_rfl
def r2  : YcZ YcP pw w 11 (some (.ref 6)) 1 971 (sT t1 85 284 w os) (YcU st2 en cE ⟨13,0,16,24⟩ fz)=some (.next,sT t2 215 484 w os,cE,⟨82,0,83,78⟩):=by
 rw[Ybi,YaF];kernel_rfl
def r3  : YcZ YcP pw w 11 (some (.ref 6)) 1 978 (sT t2 215 484 w os) (YcU st3 en cE ⟨82,0,83,78⟩ fz)=some (.next,sT t3 411 801 w os,cE,⟨286,0,293,21⟩):=by
 rw[Ybi,YaF];kernel_rfl
def r4  : YcZ YcP pw w 11 (some (.ref 6)) 1 27 (sT t3 411 801 w os) (YcU st4 en cE ⟨286,0,293,21⟩ fz)=some (.next,sT t4 416 807 w os,cE,⟨294,0,319,15⟩):=by
 rw[Ybi,YaF];kernel_rfl
def jpD  : YfC YcP pw w 11 (some (.ref 6)) 2 (sT t4 416 807 w os).abs ⟨PySem.W.doneF .next,cE,⟨294,0,319,15⟩,fz⟩=some (sz w os):=by
 rw[PySem.W.Fast.te14082659384304107361,YaF];kernel_rfl
def jpB  : YfC YcP pw w 11 (some (.ref 6)) (12+(1+(933+(971+(978+(27+(2))))))) (s0 w os) (Yft pw)=some (sz w os):=
 PySem.W.go_top (jpC w os) (PySem.W.piece_block (jpE w os) (YcI (YcH (r1 w os)) (YcI (YcH (r2 w os)) (YcI (YcH (r3 w os)) (YcI (YcH (r4 w os)) (jpD w os))))))
end
def KK  : Params->Yac:=λP=>((1:Addr),Ybq P)::((3:Addr),o254 P)::((23:Addr),o9 P)::((24:Addr),o104)::((40:Addr),o35)::((41:Addr),o23)::((43:Addr),o14 P)::((44:Addr),o42)::((59:Addr),o15)::((60:Addr),o43)::((62:Addr),o53 P)::((63:Addr),o3)::((78:Addr),o51)::((79:Addr),o4)::((81:Addr),o20 P)::((82:Addr),o46)::((97:Addr),o80)::((98:Addr),o116)::((100:Addr),o106 P)::((101:Addr),o87)::((116:Addr),o109)::((117:Addr),o91)::((119:Addr),o66 P)::((120:Addr),o103)::((128:Addr),o96)::((129:Addr),o77)::((135:Addr),o60)::((136:Addr),o100)::((142:Addr),o131)::((143:Addr),o57)::((149:Addr),o88)::((150:Addr),o127)::((154:Addr),o120)::((155:Addr),o73)::((161:Addr),o79)::((162:Addr),o115)::((168:Addr),o102)::((169:Addr),o82)::((175:Addr),o59)::((176:Addr),o99)::((182:Addr),o129)::((183:Addr),o65)::((187:Addr),o75)::((188:Addr),o112)::((194:Addr),o114)::((195:Addr),o67)::((199:Addr),o61)::((200:Addr),o101)::((206:Addr),o132)::((207:Addr),o58)::((213:Addr),o89)::((214:Addr),o128)::((220:Addr),o221)::((221:Addr),o194)::((227:Addr),o153)::((228:Addr),o214)::((234:Addr),o234)::((235:Addr),o160)::((241:Addr),o170)::((242:Addr),o229)::((248:Addr),o210)::((249:Addr),o179)::((255:Addr),o137)::((256:Addr),o196)::((262:Addr),o239)::((263:Addr),o144)::((269:Addr),o189)::((270:Addr),o245)::((276:Addr),o215)::((277:Addr),o184)::((281:Addr),o173)::((282:Addr),o235)::((288:Addr),o199)::((289:Addr),o164)::((295:Addr),o146)::((296:Addr),o205)::((302:Addr),o247)::((303:Addr),o143)::((309:Addr),o186)::((310:Addr),o244)::((314:Addr),o238)::((315:Addr),o162)::((319:Addr),o139)::((320:Addr),o198)::((326:Addr),o240)::((327:Addr),o145)::((333:Addr),o190)::((334:Addr),o246)::((340:Addr),o216)::((341:Addr),o185)::((345:Addr),o175)::((346:Addr),o237)::((352:Addr),o200)::((353:Addr),o165)::((357:Addr),o183)::((358:Addr),o242)::((362:Addr),o233)::((363:Addr),o159)::((369:Addr),o169)::((370:Addr),o228)::((376:Addr),o209)::((377:Addr),o178)::((383:Addr),o138)::((384:Addr),o197)::((388:Addr),o211)::((389:Addr),o181)::((395:Addr),o157)::((396:Addr),o219)::((402:Addr),o226)::((403:Addr),o155)::((409:Addr),o174)::((410:Addr),o236)::((414:Addr),o257)::((415:Addr),o253)::[]
noncomputable def KA  : List Addr:=1::3::23::24::40::41::43::44::59::60::62::63::78::79::81::82::97::98::100::101::116::117::119::120::128::129::135::136::142::143::149::150::154::155::161::162::168::169::175::176::182::183::187::188::194::195::199::200::206::207::213::214::220::221::227::228::234::235::241::242::248::249::255::256::262::263::269::270::276::277::281::282::288::289::295::296::302::303::309::310::314::315::319::320::326::327::333::334::340::341::345::346::352::353::357::358::362::363::369::370::376::377::383::384::388::389::395::396::402::403::409::410::414::415::[]
def fl  : Z.FL:=(129,128,(.str q39 336))::(136,135,(.str q39 336))::(143,142,(.str q39 336))::(150,149,(.str q39 336))::(155,154,(.str q39 336))::(162,161,(.str q39 336))::(169,168,(.str q41 393))::(176,175,(.str q41 393))::(183,182,(.str q41 393))::(188,187,(.str q41 393))::(195,194,(.str q41 393))::(200,199,(.str q41 393))::(207,206,(.str q41 393))::(214,213,(.str q60 473))::(221,220,(.str q60 473))::(228,227,(.str q60 473))::(235,234,(.str q60 473))::(242,241,(.str q60 473))::(249,248,(.str q60 473))::(256,255,(.str q90 554))::(263,262,(.str q90 554))::(270,269,(.str q88 581))::(277,276,(.str q88 581))::(282,281,(.str q88 581))::(289,288,(.str q88 581))::(296,295,(.str q88 581))::(303,302,(.str q88 581))::(310,309,(.str q88 581))::(315,314,(.str q88 581))::(320,319,(.str q88 581))::(327,326,(.str q88 581))::(334,333,(.str q88 581))::(341,340,(.str q88 581))::(346,345,(.str q88 581))::(353,352,(.str q88 581))::(358,357,(.str q88 581))::(363,362,(.str q88 581))::(370,369,(.str q88 581))::(377,376,(.str q88 581))::(384,383,(.str q88 581))::(389,388,(.str q88 581))::(396,395,(.str q88 581))::(403,402,(.str q88 581))::(410,409,(.str q88 581))::(415,414,(.str q88 581))::[]
def k_dyn   P:Z.dynB Z.T (KK P) 0 fl Z.T.funs Z.sts=true:=by kernel_rfl
def k_lk   P:fl.map (λx=>(KK P).lookup x.1)=Z.lkR fl Z.T.funs Z.sts:=by kernel_rfl
def k_blt   P:Z.bltB (KK P)=true:=by kernel_rfl
def k_gs   P:Z.gsB (KK P) Z.T.gn Z.T.gs=true:=by kernel_rfl
def k_xb   P:∃mD,L2.XBase (KK P) (Z.gK (KK P)) 24 mD:=Z.xb_mk 24 23 15 189 197 [(.ref 44),(.ref 63),(.ref 82),(.ref 101),(.ref 120)] (by kernel_rfl) (by kernel_rfl)
def k_cs   P:Z.CsA (KK P) Z.T.cs:=⟨Z.xc_mk (k_xb P) "NoPaper" "NoPaper.__init__" ["word", "at"] (jaF (Z.top 2) 0) 44 43 28 207 215 41 40 (.str q6 187) (by kernel_rfl) (by kernel_rfl) (by kernel_rfl) (.inr ⟨_,_,_,_,_,_,_,_,_,_,rfl,by decide,rfl⟩),
 Z.xc_mk (k_xb P) "TooMany" "TooMany.__init__" ["word"] (jaF (Z.top 3) 0) 63 62 47 234 242 60 59 (.str q6 187) (by kernel_rfl) (by kernel_rfl) (by kernel_rfl) (.inl ⟨_,_,_,_,_,rfl,rfl⟩),
 Z.xc_mk (k_xb P) "NoRing" "NoRing.__init__" ["word"] (jaF (Z.top 4) 0) 82 81 66 259 267 79 78 (.str q6 187) (by kernel_rfl) (by kernel_rfl) (by kernel_rfl) (.inl ⟨_,_,_,_,_,rfl,rfl⟩),
 Z.xc_mk (k_xb P) "NoText" "NoText.__init__" ["row", "word"] (jaF (Z.top 5) 0) 101 100 85 284 292 98 97 (.str q6 187) (by kernel_rfl) (by kernel_rfl) (by kernel_rfl) (.inr ⟨_,_,_,_,_,_,_,_,_,_,rfl,by decide,rfl⟩),
 Z.xc_mk (k_xb P) "NoRow" "NoRow.__init__" ["row"] (jaF (Z.top 6) 0) 120 119 104 311 319 117 116 (.str q6 187) (by kernel_rfl) (by kernel_rfl) (by kernel_rfl) (.inl ⟨_,_,_,_,_,rfl,rfl⟩),trivial⟩
noncomputable abbrev rr  : PySem.W.OpenRow:=PySem.Challenge.rw_beatplans_k14_things_that_are_no_cases.row
def Xt  : Shared->Bool:=λs=>PySem.W.xlAt qw [] s&&PySem.W.recOk (PySem.W.RowW.records rr.toRowW) s
abbrev hk  : PySem.W.Hook:=PySem.W.kHook KK KA (λ_=>by kernel_rfl)
def jow  (w:World):((YbX w.params).isNs Yax&&(⟨[]⟩:Array GenState).size==0,(YbX w.params).objs.size,(YbX w.params).nsMap Yax "__annotations__")=(true,11,some (YaP 6)):=by
 rw[PySem.W.Fast.te8920871248978507458];kernel_rfl
def k_l1  (w:World) os:(PySem.W.staticsOk (importedModules pw.main.body) (YbX w.params) (Hz w.params)&&PySem.W.namesBound pw (Hz w.params)&&PySem.W.gensDone (sz w os)&&PySem.W.laidKept (YbX w.params) (Hz w.params))=true:=by
 rw[Yc0];kernel_rfl
def k_l2  (w:World) os:PySem.W.openSeen qw [] (importedModules pw.main.body) Xt true (sz w os)=PySem.W.openGood qw []:=by
 rw[PySem.W.Fast.te4187177175401517315,Yc0];kernel_rfl
def k_l3   w os:Ydd hk (sz w os)=Ydc hk w:=by kernel_rfl
def k_hl  : PySem.W.LeftO pw qw [] Xt (Ydd hk) (Ydc hk) 5936:=PySem.W.LeftO.of_pieces (PySem.W.boot_open (by kernel_rfl) (by decide) λ_=>by kernel_rfl) jow jpB (by decide) λw=>funext λos=>Prod.ext (k_l1 w os) (Prod.ext (k_l2 w os) (k_l3 w os))
end Y
set_option maxRecDepth 100000 in
set_option maxHeartbeats 0 in
def Z.wellS:PySem.Challenge.rw_beatplans_k14_things_that_are_no_cases.wellSaid=true:=by decide +kernel
open PySem PySem.W PyProof.Rows
set_option maxRecDepth 100000 in
set_option maxHeartbeats 0 in
theorem PySem.Challenge.cw_beatplans_k14_things_that_are_no_cases_holds : PySem.Challenge.rw_beatplans_k14_things_that_are_no_cases.Holds := by
 refine PySem.W.holds_law Z.wellS λsaid=>?_
 refine PySem.W.holds_open (q:=Y.qw) (loose:=[]) (Xt:=Y.Xt) (XP:=PySem.W.XL Y.qw []) (Yf:=Ydd Y.hk) (Ya:=Ydc Y.hk) (YP:=PySem.W.Hook.says Y.hk) (N:=5936) Y.k_hl (PySem.W.Hook.of Y.hk) (PySem.W.Hook.keeps Y.hk) (λs e=>PySem.W.xl_of s (Bool.and_eq_true_iff.mp e).1) PySem.W.XL.keeps (by rfl) (by rfl) (by rfl) (λs e=>PySem.W.recFacts_of (Bool.and_eq_true_iff.mp e).2) (by rfl) said (by decide +kernel) ⟨rfl,rfl,rfl,rfl,rfl,by decide +kernel⟩ ?hw ?hc
 case hw=>w_witness2
 refine Z.walk (l:=PySem.Challenge.rw_beatplans_k14_things_that_are_no_cases) rfl rfl (λw h Y=>PySem.W.kIn_of Y) ?K ?S ?B ?F
 case K=>intro w;rfl
 case S=>intro w;exact⟨_,rfl,rfl⟩
 case B=>
  intro w t ht
  simp only[Z.tbs,YaW,YaE,or_false]at ht
  rcases ht with rfl
  ·exact⟨⟨_,rfl⟩,by kernel_rfl,by kernel_rfl⟩
 case F=>exact λw mg fa h X G hm=>Z.all2 X G hm Z.prog_rep Z.prog_eq Z.tabsU (Y.k_dyn _) (Y.k_lk _) (Y.k_blt _) (Y.k_gs _) (Y.k_cs _) rfl rfl rfl rfl rfl
