import PyProof.Rows.All
import Wide.All
import OpenK.AllK
import Wide.FinOn
import Lean
import PyProof.EqAt
import PyProof.EqKinds
import PyProof.TupleCall
import PySem.Challenge.RW_beatplans_k63_papers_of_lateness_bent
noncomputable section
set_option compiler.extract_closed false
set_option genSizeOf false
set_option Elab.async false
set_option linter.all false
set_option maxRecDepth 100000
set_option maxHeartbeats 8000000
open List renaming all_cons → Ybj, any_cons → YbO, append_assoc → Yc4, append_nil → YcO, cons_append → Ygr, contains_cons → YbD, dropLast_eq_take → Yfg, drop_eq_getElem_cons → Ybi, drop_length → YcE, drop_of_length_le → Yfb, drop_zero → YeF, eraseIdxIfInBounds_toArray → Yd2, eraseIdx_cons_succ → YeY, ext_getElem → Ygq, filterMap_cons → Ycq, filterMap_map → YfW, filterMap_nil → YfV, filter_append → YbW, filter_cons_of_neg → YeX, filter_cons_of_pos → Yc9, find? → YeS, find?_cons → Ya7, findIdx?_cons → YfU, flatten_cons → Ycb, foldl → Yga, foldl_append → Yd1, foldl_cons → Yeq, getD → Ydn, getD_eq_getElem?_getD → Ybf, getElem?_append_left → YbG, getElem?_append_right → Ycd, getElem?_eq_getElem → Yah, getElem?_eq_none → YcC, getElem?_map → Yau, getElem?_range → YdC, getElem?_replicate → YeW, getElem?_set_ne → Ya5, getElem?_set_self → YbA, getElem?_zip_eq_some → YeE, getElem_mem → YaM, getElem_of_mem → YfD, length_append → Yat, length_cons → YaU, length_drop → Ybt, length_map → Yaa, length_nil → Yct, length_set → YcN, length_singleton → Ybm, length_take → YaT, length_zip → Ydm, lookup → YbF, lookup_cons → Ybs, map_append → YaH, map_congr_left → YfC, map_cons → YaO, map_fst_zip → Ygp, map_nil → Yd9, mem_append_left → YbK, mem_append_right → YaS, mem_cons → Yap, mem_cons_of_mem → Yaj, mem_cons_self → Yav, mem_of_find?_eq_some → YeD, mem_of_getElem? → Yas, mem_of_mem_drop → YaQ, mem_of_mem_take → YaP, mem_or_eq_of_mem_set → YbE, nil_append → Yb3, nodup_nil → YeC, not_mem_nil → Yak, of_mem_zip → YcM, range → YaA, range_succ → Yby, replicate → Yag, replicate_succ → Ybx, reverse_cons → Yc3, set_comm → YdW, set_cons_succ → YdV, size_toArray → Yao, sum_cons → YdU, take_length → Ybr, take_of_length_le → Yfa, take_sublist → Yf9, take_succ → Ybh, zip_cons_cons → YfT
open PySem renaming Arguments → Ygs, Comprehension → Ydt, DictEntry → Yeo, ExcBaseFacts → YeG, FuncData → YeZ, NameKind → YbJ, Operator → Yen, PassesOwn → Ydj, Spec → YaG, StoreFacts → Ydi, assignEach → Ybn, assignInOrder → Ydo, attributeBase → YcR, behindInMarks → Yek, binaryOp → Ybp, bindName → YcH, bootBuiltins → YbS, builtinLookup_eq_fast → Ybu, builtinsNs → YdS, call → YfP, callType_new → Ygl, call_meets → YcF, cellsFrom → Ybk, checkBuiltinCall → Ydw, codeAny_call_builtin → YdX, codeAny_call_function → Ygk, codeAny_mono → YdF, compTurn → YdR, compareOp → YaX, concat_meets → Ygj, evalPart_none → YfN, excClassObj → YcX, foldedForSure → YfM, foldedSetIterable → Yaz, inplaceOp → Yej, isInstance → Yfw, lastMarks → Ygi, letOwnedTupleGo → YcW, lookupAlong_cons → YeJ, mainGlobals → YaJ, mem_of_lookup → YaI, newFunctionEnv → Yfk, noFill_tuple_add → YeI, noteFrame → Ygh, post_val_or_str → YdE, pushCells → Ye5, repr_of_reads' → Yfj, seqIndex? → Yei, seqIndex_neg → Ygg, seq_tuple_add → YfL, setFlight → Yeh, sizeLine → Yai, sizeLine_eq → YbV, sliceBounds → Ycv, slicePick → Yeg, starEach → YaC, strLen_append → Yef, swappedStores → Ya9, swapsWith → YbY, swapsWithSole → Ybo, sysModules → Ya6, treeTable → Ydh, tupleKind → Yco, tupleKind_room_in1 → Yb9, typeIs_str → YdQ, typeLookup → Ya3, typeLookup_eq → YfJ, typeLookup_type → Ycn, wpAny_Call_Name_kw → Yb8, wpAny_bind → Yab, wpAny_bindName → Ydb, wpAny_callSpecial?_slot → YcA, wpAny_call_entry → Ydv, wpAny_comprehension_free → Yfv, wpAny_execs_cons → YcP, wpAny_execs_nil → YcV, wpAny_field → YbU, wpAny_getItem_list_slice → Ydg, wpAny_getItem_str_slice → Ycz, wpAny_holding → YbH, wpAny_isSubtype_exc → YbT, wpAny_letOwnedTupleGo_enum → Yfd, wpAny_loadPart_at → YaB, wpAny_mono → YaZ, wpAny_mroOf_exc → Ye4, wpAny_newFunctionEnv_cells → Yfc, wpAny_newObj_type → Ya2, wpAny_passesOwn → Ycm, wpAny_pure → Yam, wpAny_pyIter_enum → Ydf, wpAny_pyIter_list → Yde, wpAny_pyNext_enum_endD → Yf3, wpAny_pyNext_enum_itemD → YfI, wpAny_pyNext_list_end → Ygf, wpAny_pyNext_list_item → Yf2, wpAny_rule → YdP, wpAny_sequenceKey → Yes, wpAny_setField → Yda, wpAny_standAt → Ybz, wpAny_truthy_bool → Ybd, wpAny_typeOf → YcK
open Nat renaming add_le_add → YeR, add_le_add_left → YdK, add_le_add_right → YfB, add_mul → YfS, add_zero → Yed, le_add_left → Yex, le_add_right → YcG, le_max_left → Ydq, le_of_eq → Yec, le_of_lt → Yb6, le_refl → Yac, le_succ → YdJ, le_trans → Yaf, length_toDigits_le_iff → YeB, lt_irrefl → Ybl, lt_of_le_of_lt → YaW, lt_of_lt_of_le → Yar, lt_succ_of_lt → Ygo, lt_trans → Yfr, mul_comm → Yfq, mul_le_mul → YeQ, mul_le_mul_right → YcJ, ne_of_lt → YaD, not_lt_zero → Ycx, succ_le_succ → YbC, succ_mul → Yfp, toDigits → YcU, zero_add → Ycs, zero_le → YaF
open PySem.Heap renaming SameBut → YcT, get?_none_of_le → Ydz, get?_push_at → Ygc, get?_push_ne → Ygb, get?_push_of_some → Yad, get?_push_size → Yay, get?_update_ne → YfE, get?_update_other → Ydd, get?_update_self → Yb4, lt_size → Yan, size_push → YdB
open PySem.W renaming BT → Ycw, Frag → Yae, OpenLaw → Yd7, WalkO → Ygn, boot_heap → Yb0, boot_o_0 → Ycl, boot_o_1 → YbN, boot_o_10 → YbZ, boot_o_2 → Yck, boot_o_3 → Yfz, boot_o_4 → Ycj, boot_o_5 → Yci, boot_o_6 → Ych, boot_o_7 → Ycg, boot_o_8 → Ycf, boot_o_9 → Yce, callWith_K → Yff, cellsFrom_some → Yc7, codeIn → YbB, codeRec_of → Yfe, findIn → Yf7, fnOf → Ya8, instObj → Yd6, keepIn → Ybv, kia_one → Ybb, kitOne → Ydl, kitx_dict → Yfo, kitx_list → Yfn, lookIn → Yem, methodObj → YdI, mg_of → YcY, nsIn → Ybe, piece_app → YdH, piecesOf → YdY, plainGet → Yfy, segRunT → Yd5, segRun_of → YdG, topRun → Yf6, topStub → YfQ
open Bool renaming and_eq_true → Yaq, and_false → YeH, eq_iff_iff → YbL, false_eq_true → Yf0, false_ne_true → Yal, false_or → Ye2, not_eq_true' → Yc5, or_eq_true → Ycu, or_true → YcD
open Option.some renaming inj → Yaw, injEq → YeO
open Int renaming ediv_one → Yfu, emod_add_mul_ediv → Yft, emod_lt_of_pos → YdZ, emod_nonneg → Yds, eq_ofNat_of_zero_le → Yax, le_refl → YdL, le_trans → Ydr, toNat_natCast → Ybg
open PySem.PyData renaming canLayAll0 → YaL, depthAll → YaE, eqv → YaK, eqvAll → YbM, int → YfA, showable → YcI, showableAll → YcQ, shown → YbX, shownAll → Ybc
open PySem.NameKind renaming cell → YaN, free → YaR
open PySem.W.Fast renaming te10110043849684766642 → Yb2, te14364793385576792824 → YaV, te5923862056798008813 → Ydc
open PySem.Builtin.Slice renaming sliceAdjust → Ybw, sliceApplied → YbQ, sliceFields → YdN, slicePlaces → YaY
open PySem.Builtin.Tuple renaming tupleExact → Ya0, tupleIsExact → YdD, tupleItemsOf → YcB
open PySem.Value renaming bool → Yez, builtin → Yc6, int → Ye7, none → YbI, ref → Ya1, str → Ye6
open PyProof.Rows renaming args_tuple_getitem → Yel, assignInOrder_cons → Yca, assignInOrder_nil → Yet, boot_isinstance → YdA, callWith_type1 → Ybq, entry_tuple_getitem → Yd4, slot_tuple_getitem → Ya4, subscriptTail → Yee, subscriptTail_builtinR → Yf4, tupleItemsOf_ → YfK
open List.cons renaming inj → Yba, injEq → Yfs
open PySem.Obj renaming data_mapFields → Yf8, isFreed_of_fields → Ydp, mapFields → YbP, mapSeq → Yd8
open True renaming intro → YbR
open Array renaming append_assoc → YfH, find?_toList → YdO, getElem?_setIfInBounds_self_of_lt → Yb1, getElem?_toList → Ydk, length_toList → YcL, size_append → Yf1
open PySem.Str renaming join → Ycc, ofString → Yb5
open PySem.Builtin.List renaming listTooLong → Yb7
open PySem.Builtin.Str renaming occurrences → Ycp
open Sum.inr renaming injEq → Ycr
open PySem.F renaming args_dict_get_3 → Yev, args_object_init_2 → YdM, args_tuple_add_2 → YcS, entry_dict_get → YeA, entry_enumerate_new → YfY, entry_tuple_add → Yc0, newCall_enumerate_1 → YfX, plainAttrs_dict → Yeu, plainAttrs_list → YcZ, slot_dict_get → Ycy, slot_tuple_add → Yc8, slot_tuple_iterator_next → Ye0, typeCall_enumerate_1 → YfF, type_dict_get → YeN
open False renaming elim → Yc1
open PySem.Paired renaming length → Yc2
open Char renaming toNat → Ydu
open PySem.W.Hook renaming obs → Ydy, val → Ydx
open Option renaming getD_none → YfR, isSome_map → YdT, map → Yew, map_eq_none_iff → YeP
open PySem.Builtin.Range renaming rangeSize → Yd0
open PySem.Builtin.Dict renaming updateFrom → Yd3
open Classical renaming byContradiction → Yea
open PySem.Txt renaming slice → Yfl, slice_le → Yeb
open PySem.AutoSeq1 renaming wpAny_loadPart' → Yep
open PySem.Calls renaming Name_function_global → Yer, callWith_builtin → Ye1, spliced_cons → YfG
open List.Pairwise renaming nil → Yey
open PySem.StrLaws renaming glued_eq_join → YeK
open PySem.SeqAt.EqAt renaming int_str → YeM, str_int → YeL
open PySem.ScopeKind renaming function → YeT
open PySem.Draws renaming list → YeU
open PySem.Manifest renaming signature? → YeV
open PySem.Around renaming under → Ye3
open PySem.PyData.list renaming inj → Ye8
open PySem.PassesOwn renaming looking → Ye9
open PySem.Flow renaming next → Yfh
open PySem.Code renaming isFrame → Yfi, quiet_builtin → YfZ
open PySem.SeqAt renaming EqAt → YfO, in_listAt → Ygm, in_tupleAt → Yf5, notIn_listAt → Yfx, notIn_tupleAt → Yfm
open PySem.Builtin.SmallTypes renaming nextOf → Yge, stopIteration → Ygd
namespace L2
open PySem PySem.Spec PyProof.Rows

abbrev Key:=Sum Int Str
noncomputable def jhB  : Key->Value->Bool
 |.inl k,v=>Value.isInt k v
 |.inr x,v=>Value.isStrOf x v
noncomputable def keyH  (w:World):Key->Int
 |.inl k=>hashInt k
 |.inr x=>hashStr w x
def jay  : ∀{k } {v },jhB k v=true->(∃i t,k=Sum.inl i/\v=Ye7 i t)\/(∃x t,k=Sum.inr x/\v=Ye6 x t)
 |.inl i,v,h=>by
  obtain⟨t,e⟩:=Value.isInt_shape (k:=i) (v:=v) h;exact .inl ⟨i,t,rfl,e⟩
 |.inr x,v,h=>by
  obtain⟨t,e⟩:=Value.isStrOf_shape (x:=x) (v:=v) h;exact .inr ⟨x,t,rfl,e⟩
def jiH   i t:jhB (.inl i) (.int i t)=true:=by simp[jhB,Value.isInt]
def jiG   x t:jhB (.inr x) (.str x t)=true:=by simp[jhB,Value.isStrOf]
def jn8   a b:decide ((Sum.inl a:Key)=Sum.inl b)=(a==b):=by
 by_cases e:a=b
 ·subst e;simp
 ·have h:¬(Sum.inl a:Key)=Sum.inl b:=λq=>e (Sum.inl.inj q);rw[decide_eq_false h];exact(beq_eq_false_iff_ne.mpr e).symm
def jn5   a b:decide ((Sum.inr a:Key)=Sum.inr b)=decide (a=b):=by
 by_cases e:a=b
 ·subst e;simp
 ·have h:¬(Sum.inr a:Key)=Sum.inr b:=λq=>e (Sum.inr.inj q);rw[decide_eq_false h,decide_eq_false e]
def jn7   a b:decide ((Sum.inl a:Key)=Sum.inr b)=false:=decide_eq_false (λq=>nomatch q)
def jn6   a b:decide ((Sum.inr a:Key)=Sum.inl b)=false:=decide_eq_false (λq=>nomatch q)

def jam   prog w:PySem.KeyKind prog w Key where
 is:=jhB
 hash:=keyH w
 inj:=λv a b I F=>by
  rcases jay I with⟨i,t,rfl,rfl⟩|⟨x,t,rfl,rfl⟩
  ·rcases jay F with⟨j,u,rfl,e⟩|⟨y,u,rfl,e⟩
   ·injection e with e1 _;rw[e1]
   ·exact nomatch e
  ·rcases jay F with⟨j,u,rfl,e⟩|⟨y,u,rfl,e⟩
   ·exact nomatch e
   ·injection e with e1 _;rw[e1]
 byValue:=λk v h=>by
  rcases jay h with⟨i,t,rfl,rfl⟩|⟨x,t,rfl,rfl⟩<;>rfl
 pyHash:=λz h=>by
  rcases jay z with⟨i,t,rfl,rfl⟩|⟨x,t,rfl,rfl⟩
  ·exact wpAny_pyHash_int h
  ·exact wpAny_pyHash_str h
 eqBool:=λhu z h=>by
  rcases jay hu with⟨i,t,rfl,rfl⟩|⟨x,t,rfl,rfl⟩
  ·rcases jay z with⟨j,u,rfl,rfl⟩|⟨y,u,rfl,rfl⟩
   ·rw[jn8]at h;exact wpAny_eqBool_int h
   ·rw[jn7]at h;exact YeM i t y u _ _ _ _ h
  ·rcases jay z with⟨j,u,rfl,rfl⟩|⟨y,u,rfl,rfl⟩
   ·rw[jn6]at h;exact YeL x t j u _ _ _ _ h
   ·rw[jn5]at h;exact wpAny_eqBool_str h
 «strs»:=λk x t v h=>by
  rcases jay h with⟨i,u,rfl,e⟩|⟨y,u,rfl,e⟩
  ·exact nomatch e
  ·injection e with e1 _
   subst e1
   cases v<;>rfl

def jgd   prog w i t:(jam prog w).is (.inl i) (.int i t)=true:=jiH i t
def jgc   prog w x t:(jam prog w).is (.inr x) (.str x t)=true:=jiG x t

inductive V where
 |non|bl (b:Bool)|int (i:Int)|str (x:Str)|byt (b:Array UInt8)|flt (b:UInt64)|ref (a:Addr)|ty (n:String)
 deriving DecidableEq

def RelV  : V->Value->Prop
 |.non,u=>u=YbI
 |.bl b,u=>u=Yez b
 |.int i,u=>∃t,u=Ye7 i t
 |.str x,u=>∃t,u=Ye6 x t
 |.byt b,u=>∃t,u=Value.bytes b t
 |.flt b,u=>∃t,u=Value.float b t
 |.ref a,u=>u=Ya1 a
 |.ty n,u=>u=Value.type n

abbrev Vals  : List V->List Value->Prop:=Paired RelV
def Vals.length    (r:Vals xs us):xs.length=us.length:=Yc2 r
theorem Vals.get  : ∀{xs } {us } {i:Nat} {x },Vals xs us->xs[i]?=some x->∃u,us[i]?=some u/\RelV x u
 |_,_,_,_,.nil,e=>by simp at e
 |_,_,0,_,.cons r _,e=>by simp at e;subst e;exact⟨_,rfl,r⟩
 |_,_,i+1,x,.cons _ t,e=>by
  obtain⟨u,y,j⟩:=Vals.get (i:=i) (x:=x) t (by simpa using e)
  exact⟨u,by simpa using y,j⟩
theorem Vals.set    (r:RelV x u):∀{xs } {us } i ,Vals xs us->Vals (xs.set i x) (us.set i u)
 |_,_,_,.nil=>.nil
 |_,_,0,.cons _ t=>.cons r t
 |_,_,i+1,.cons q t=>.cons q (Vals.set r i t)
theorem Vals.append  : ∀{xs ys } {us j },Vals xs us->Vals ys j->Vals (xs++ys) (us++j)
 |_,_,_,_,.nil,s=>s
 |_,_,_,_,.cons r t,s=>.cons r (Vals.append t s)
theorem Vals.take  : ∀{xs } {us } n ,Vals xs us->Vals (xs.take n) (us.take n)
 |_,_,0,_=>.nil
 |_,_,_+1,.nil=>.nil
 |_,_,n+1,.cons r t=>.cons r (Vals.take n t)
theorem Vals.drop  : ∀{xs } {us } n ,Vals xs us->Vals (xs.drop n) (us.drop n)
 |_,_,0,r=>r
 |_,_,_+1,.nil=>.nil
 |_,_,n+1,.cons _ t=>Vals.drop n t
def RelO  : Option V->Option Value->Prop
 |some v,some u=>RelV v u
 |none,none=>True
 |_,_=>False
def KV  {j:Type}:List (j×V)->List (j×Value)->Prop:=Paired λ(p:j×V) (q:j×Value)=>p.1=q.1/\RelV p.2 q.2

noncomputable def kV  : Key->V
 |.inl i=>.int i
 |.inr x=>.str x

inductive HO where
 |lst (xs:List V)
 |tup (xs:List V)
 |dK (kvs:List (Key×V))|dT (kvs:List (List Key×V))
 |set (S:Int->Bool) (n:Nat)
 |ins (C dx:Addr) (fs:List (Str×V))
 |own (x:Addr)
 |xd (fs:List (Str×V))
 |met (f x:Addr)
 |rng (lo hi:Int)
 |frz (o:Obj) (u:HO)
 |tbl (ps:Array Value)
 |ext (φ:Heap->Prop)

abbrev Hp:=Addr->Option HO
noncomputable def upd  (H:Hp)(a:Addr)(o:HO):Hp:=λb=>if b=a then some o else H b
def jaj     : upd H a o a=some o:=by unfold upd;rw[if_pos rfl]
def jad     (h:b≠a):upd H a o b=H b:=by unfold upd;rw[if_neg h]
def jpJ  {H:Hp}(h:H a=some o)(h':H b=some u)(d:o≠u):a≠b:=by
 intro e;subst e;rw[h]at h';exact d (Yaw h')
def jai  {H:Hp}(h:H a=some o)(h':H b=none):a≠b:=by
 intro e;subst e;rw[h]at h';cases h'

def TupD  (h:Heap)(a:Addr)(items:Array Value):Prop:=∃o,h.get? a=some o/\o.cls=.type "tuple" /\ ∃n,o.data=.seq items n/\o.dict=none
def TupD.tup     (x:TupD h a items):IsTup h a items:=let ⟨o,e,c,n,d,_⟩:=x;⟨o,e,c,n,d⟩
def TupD.new  (h:Heap) items:TupD (h.push { cls:=.type "tuple",data:=.seq items }) h.objs.size items:=⟨_,Yay _ rfl,rfl,_,rfl,rfl⟩
section
variable (P:Program)(w:World)
def jaE (H:Hp)(h:Heap)(a:Addr):HO->Prop
 |.lst z=>z.length<=Yai/\∃(y:List Value) (n:Nat),Vals z y/\h.get? a=some { cls:=.type "list",data:=.seq y.toArray n }
 |.tup z=>z.length<=Yai/\∃y:List Value,Vals z y/\TupD h a y.toArray
 |.dK j=>j.length<=Yai/\(a==Ya6)=false/\∃L,KV j L/\h.DictOf (jam P w) a L
 |.dT j=>j.length<=Yai/\(a==Ya6)=false/\∃z:List (List Key×Addr×Value),
   Paired (λ(p:List Key×V) (q:List Key×Addr×Value)=>p.1=q.1/\H q.2.1=some (.tup (p.1.map kV))/\RelV p.2 q.2.2) j z/\
   ∃o O ep,h.get? a=some o/\o.ExactDict/\o.data=.dict O ep/\O.toList=z.map (entryOfKey (Yco (jam P w)))/\(z.map (·.1)).Nodup
 |.set S n=>h.SetOf (intKind P w) a S n
 |.ins C I fs=>H I=some (.own a)/\fs.length<=1000/\I≠a/\h.get? a=some (Yd6 C I)/\
   ∃F,h.Ns1 I F/\(∀f,RelO (fs.lookup f) (F f))/\PySem.Within F (fs.map (·.1))
 |.own _=>∃o,h.get? a=some o
 |.xd fs=>∃F,h.Ns1 a F/\∀f,RelO (fs.lookup f) (F f)
 |.rng lo hi=>∃t u v,h.get? a=some { cls:=.type "range",data:=.fields #[.int lo t,.int hi u,.int 1 v] }
 |.frz o u=>h.get? a=some o/\jaE H h a u
 |.tbl ps=>h.get? a=some { cls:=.none,data:=.fields ps }
 |.met f x=>h.get? a=some (YdI (.ref f) (.ref x))
 |.ext J=>J h/\(∃o,h.get? a=some o)/\∀Z Y:Heap,J Z->(∀o,Z.get? a=some o->Y.get? a=some o)->J Y
def HOk (H:Hp)(h:Heap):Prop:=∀a o,H a=some o->jaE P w H h a o
end

section
variable {P:Program}{w:World}{H H':Hp}{h h':Heap}{a:Addr}{o:HO}
theorem jaE.lt  (x:jaE P w H h a o):a<h.objs.size:=by
 cases o with
 |lst z=>obtain⟨_,_,_,_,e⟩:=x;exact Yan e
 |tup z=>obtain⟨_,_,_,p⟩:=x;exact p.tup.lt
 |dK j=>obtain⟨_,_,_,_,o,_,_,e,_⟩:=x;exact Yan e
 |dT j=>obtain⟨_,_,_,_,o,_,_,e,_⟩:=x;exact Yan e
 |set S n=>obtain⟨o,_,_,_,e,_⟩:=x;exact Yan e
 |ins C I fs=>obtain⟨_,_,_,e,_⟩:=x;exact Yan e
 |own y=>obtain⟨_,e⟩:=x;exact Yan e
 |xd fs=>obtain⟨_,⟨_,_,_,e,_⟩,_⟩:=x;exact Yan e
 |rng J Y=>obtain⟨_,_,_,e⟩:=x;exact Yan e
 |frz O u=>obtain⟨e,_⟩:=x;exact Yan e
 |tbl F=>exact Yan (show h.get? a=some _ from x)
 |met f y=>exact Yan (show h.get? a=some _ from x)
 |ext L=>obtain⟨_,⟨_,e⟩,_⟩:=x;exact Yan e
theorem Paired.mapP    : ∀{j } {y },Paired F j y->(∀a b,F a b->G a b)->Paired G j y
 |_,_,.nil,_=>.nil
 |_,_,.cons r t,f=>.cons (f _ _ r) (Paired.mapP t f)
def jaE.stay  (x:jaE P w H h a o)(k:∀b u,(b=a\/H b=some (.own a))->h.get? b=some u->h'.get? b=some u)
  (ho:∀b,H b=some (.own a)->H' b=some (.own a)) (ht:∀b xs,H b=some (.tup xs)->H' b=some (.tup xs)):jaE P w H' h' a o:=by
 induction o with
 |lst xs=>obtain⟨z,J,n,r,e⟩:=x;exact⟨z,J,n,r,k _ _ (.inl rfl) e⟩
 |tup xs=>obtain⟨z,J,r,j,e,c⟩:=x;exact⟨z,J,r,j,k _ _ (.inl rfl) e,c⟩
 |dK Y=>obtain⟨z,y,vs,r,j,F,I,e,c⟩:=x;exact⟨z,y,vs,r,j,F,I,k _ _ (.inl rfl) e,c⟩
 |dT Y=>
  obtain⟨z,y,xs,r,j,F,I,e,c⟩:=x;exact⟨z,y,xs,Paired.mapP r λp q z=>⟨z.1,ht _ _ z.2.1,z.2.2⟩,j,F,I,k _ _ (.inl rfl) e,c⟩
 |set S n=>obtain⟨j,F,I,t,e,c⟩:=x;exact⟨j,F,I,t,k _ _ (.inl rfl) e,c⟩
 |ins C dx fs=>
  obtain⟨d,z,ne,e,L,⟨O,F,I,e2,c⟩,r⟩:=x;exact⟨ho _ d,z,ne,k _ _ (.inl rfl) e,L,⟨O,F,I,k _ _ (.inr d) e2,c⟩,r⟩
 |own y=>obtain⟨j,e⟩:=x;exact⟨j,k _ _ (.inl rfl) e⟩
 |xd fs=>obtain⟨L,⟨O,F,I,e,c⟩,r⟩:=x;exact⟨L,⟨O,F,I,k _ _ (.inl rfl) e,c⟩,r⟩
 |rng lo hi=>obtain⟨t,u,v,e⟩:=x;exact⟨t,u,v,k _ _ (.inl rfl) e⟩
 |frz j u ih=>obtain⟨e,q⟩:=x;exact⟨k _ _ (.inl rfl) e,ih q⟩
 |tbl Z=>
  have e:h.get? a=some { cls:=.none,data:=.fields Z }:=x;show h'.get? a=some { cls:=.none,data:=.fields Z };exact k a _ (.inl rfl) e
 |met f y=>
  have e:h.get? a=some (YdI (.ref f) (.ref y)):=x;show h'.get? a=some (YdI (.ref f) (.ref y));exact k a _ (.inl rfl) e
 |ext φ=>obtain⟨p,⟨o,e⟩,st⟩:=x;exact⟨st _ _ p λo q=>k _ _ (.inl rfl) q,⟨o,k _ _ (.inl rfl) e⟩,st⟩
def HOk.lt  (x:HOk P w H h)(e:H a=some o):a<h.objs.size:=(x a o e).lt
def HOk.fresh  (x:HOk P w H h)(e:h.objs.size<=a):H a=none:=by
 cases q:H a with
 |none=>rfl
 |some u=>exact absurd (Yar (x.lt q) e) (Ybl _)
def HOk.kept  (x:HOk P w H h)(k:∀b u,h.get? b=some u->h'.get? b=some u):HOk P w H h':=λa o e=>
 (x a o e).stay (λb u _ q=>k b u q) (λ_ q=>q) λ_ _ q=>q
def HOk.laid  (x:HOk P w H h)(k:∀b u,h.get? b=some u->h'.get? b=some u)(z:h.objs.size<=a)(new:jaE P w (upd H a o) h' a o):HOk P w (upd H a o) h':=λb u e=>by
 have j:=x.fresh z;by_cases y:b=a
 ·subst y;rw[jaj]at e;cases e;exact new
 ·rw[jad y]at e;exact(x b u e).stay (λc v _ q=>k c v q) (λc q=>by rw[jad (jai q j)];exact q) λc F q=>by rw[jad (jai q j)];exact q
end

def Rd  (H:Hp)(a:Addr)(u:HO):Prop:=H a=some u\/∃o,H a=some (.frz o u)
def Rd.ok        (r:Rd H a u)(x:HOk P w H h):jaE P w H h a u:=by
 rcases r with r|⟨o,r⟩
 ·exact x a u r
 ·obtain⟨_,q⟩:=x a _ r;exact q
def Mut  : Option HO->Prop
 |some (.lst _)=>True
 |some (.dK _)=>True
 |some (.dT _)=>True
 |some (.set _ _)=>True
 |some (.ins _ _ _)=>True
 |some (.ext _)=>True
 |_=>False

def HOk.write  (ok:HOk P w H h)(O:Mut (H x))(he:e=x\/H e=some (.own x))(k:∀b u,b≠e->h.get? b=some u->h'.get? b=some u)(Z:∃u,h'.get? e=some u)
  (new:jaE P w (upd H x o') h' x o'):HOk P w (upd H x o') h':=λb u q=>by
 have F:∀c y,H c=some (.own y)->c≠x:=λc y r z=>by subst z;rw[r]at O;exact O
 have I:∀c J,H c=some (.tup J)->c≠x:=λc J r z=>by subst z;rw[r]at O;exact O
 by_cases L:b=x
 ·subst L;rw[jaj]at q;cases q;exact new
 ·rw[jad L]at q;by_cases j:b=e
  ·have q':H b=some (.own x):=by
    rcases he with z|z
    ·exact absurd (j.trans z) L
    ·rw[j];exact z
   rw[q]at q';cases q';obtain⟨v,hv⟩:=Z;exact⟨v,by rw[j];exact hv⟩
  ·refine(ok b u q).stay (λc v Y r=>k c v ?_ r) (λc r=>by rw[jad (F c b r)];exact r) λc J r=>by rw[jad (I c J r)];exact r
   rcases Y with rfl|Y
   ·exact j
   ·rintro rfl;rcases he with z|z
    ·exact F c b Y z
    ·rw[Y]at z;cases z;exact L rfl

structure Un (fs ex:List Addr)(H H':Hp)(h h':Heap):Prop where
 keep:∀b o,h.get? b=some o->H b=none->b∉fs->b∉ex->h'.get? b=some o
 slot:∀b o,h.get? b=some o->H b=none->b∈fs->b∉ex->∃sl,h'.get? b=some { o with slots:=sl }
 free:∀b o,h.get? b=some o->H b=none->b∉ex->H' b=none
 there:∀b o,h.get? b=some o->b∉ex->∃o',h'.get? b=some o'
 tups:∀b xs,H b=some (.tup xs)->H' b=some (.tup xs)
 frzs:∀b o u,H b=some (.frz o u)->H' b=some (.frz o u)
 tbls:∀b ps,H b=some (.tbl ps)->∃more,H' b=some (.tbl (ps++more))

def Un.any  {H1: Hp}(u:Un fs ex H H1 h I)(q:h.get? b=some j)(n:H b=none)(y:b∉ex):∃F,I.get? b=some { j with slots:=F }:=by
 by_cases z:b∈fs
 ·exact u.slot b j q n z y
 ·exact⟨j.slots,u.keep b j q n z y⟩
def Un.trans  {H1: Hp}{H2: Hp}(a:Un fs ex H H1 h h1)(b:Un fs ex H1 H2 h1 h2):Un fs ex H H2 h h2 where
 keep:=λc y q n I j=>b.keep c y (a.keep c y q n I j) (a.free c y q n j) I j
 slot:=λc y q n I j=>by
  obtain⟨sl,z⟩:=a.slot c y q n I j;obtain⟨O,J⟩:=b.slot c _ z (a.free c y q n j) I j;exact⟨O,J⟩
 free:=λc y q n j=>by
  obtain⟨L,z⟩:=a.there c y q j;exact b.free c L z (a.free c y q n j) j
 there:=λc y q j=>by
  obtain⟨L,z⟩:=a.there c y q j;exact b.there c L z j
 tups:=λc F q=>b.tups c F (a.tups c F q)
 frzs:=λc y F q=>b.frzs c y F (a.frzs c y F q)
 tbls:=λc Z q=>by
  obtain⟨Y,z⟩:=a.tbls c Z q;obtain⟨m2,J⟩:=b.tbls c _ z;exact⟨Y++m2,by rw[J,YfH]⟩
def Un.kept  (k:∀b u,h.get? b=some u->h'.get? b=some u):Un fs ex H H h h':=
 ⟨λb j q _ _ _=>k b j q,λb j q _ _ _=>⟨j.slots,k b j q⟩,λ_ _ _ n _=>n,λb j q _=>⟨j,k b j q⟩,λ_ _ q=>q,λ_ _ _ q=>q,λ_ y q=>⟨#[],by rw[q];simp⟩⟩
def Un.refl  : Un fs ex H H h h:=Un.kept λ_ _ q=>q
def Un.laid  {h: Heap}{a: Addr}(k:∀b u,h.get? b=some u->h'.get? b=some u)(z:h.objs.size<=a)(j:H a=none):Un fs ex H (upd H a o) h h' where
 keep:=λb u q _ _ _=>k b u q
 slot:=λb u q _ _ _=>⟨u.slots,k b u q⟩
 free:=λb u q n _=>by rw[jad (YaD (Yar (Yan q) z))];exact n
 there:=λb u q _=>⟨u,k b u q⟩
 tups:=λb y q=>by rw[jad (jai q j)];exact q
 frzs:=λb u y q=>by rw[jad (jai q j)];exact q
 tbls:=λb F q=>⟨#[],by rw[jad (jai q j),q];simp⟩
def Un.write  (y:Mut (H x))(O:e=x\/H e=some (.own x))(k:∀b u,b≠e->h.get? b=some u->h'.get? b=some u)(F:∃u,h'.get? e=some u):Un fs ex H (upd H x o) h h':=by
 have J:∀b,H b=none->b≠x:=λb n z=>by subst z;rw[n]at y;exact y
 have L:∀b,H b=none->b≠e:=λb n z=>by
  subst z;rcases O with r|r
  ·exact J b n r
  ·rw[n]at r;cases r
 have I:∀b u,H b=some u->¬Mut (some u)->b≠x:=λb u q nm z=>by subst z;rw[q]at y;exact nm y
 refine⟨λb u q n _ _=>k b u (L b n) q,λb u q n _ _=>⟨u.slots,k b u (L b n) q⟩,λb u q n _=>by rw[jad (J b n)];exact n,λb u q _=>?_,
  λb Y q=>by rw[jad (I b _ q λz=>z)];exact q,λb u Y q=>by rw[jad (I b _ q λz=>z)];exact q,λb Z q=>⟨#[],by rw[jad (I b _ q λz=>z),q];simp⟩⟩
 by_cases j:b=e
 ·subst j;exact F
 ·exact⟨u,k b u j q⟩

noncomputable def trk  (h:Heap)(H:Hp):List Addr:=(YaA h.objs.size).filter λa=>(H a).isSome
def hidT  (h:Heap)(H:Hp):Heap:=PySem.W.hideAll h (trk h H)
def jiQ  (h:Heap) H:(hidT h H).objs.size=h.objs.size:=PySem.W.hideAll_size _ _
def jeY      (e:h.get? b=some o)(n:H b=none):(hidT h H).get? b=some o:=
 PySem.W.hideAll_get _ e λj=>by
  have q:(H b).isSome=true:=(List.mem_filter.mp j).2;rw[n]at q;simp at q
def jlZ      (e:(hidT h H).get? b=some o):h.get? b=some o/\H b=none:=by
 have j:h.get? b=some o:=PySem.W.of_hideAll (trk h H) e;refine⟨j,?_⟩;cases q:H b with
 |none=>rfl
 |some x=>
  have y:b∈trk h H:=List.mem_filter.mpr ⟨List.mem_range.mpr (Yan j),by simp[q]⟩
  have z:(hidT h H).get? b=none:=PySem.W.hideAll_none (trk h H) y;rw[z]at e;cases e

noncomputable def jmw  (g h:Heap)(L:Addr):List (Addr×Obj):=(YaA h.objs.size).filterMap λa=>if a=L\/(g.get? a).isSome=true then none else (h.get? a).map λo=>(a,o)
def rest  (g h:Heap)(L d:Addr):List (Addr×Obj):=(jmw g h L).filter λp=>decide (p.1≠d)

structure Mod (K:Yae)(mg:Str->Option Value)(base:Heap):Prop where
 kin:K.In base
 glob:base.Ns YaJ mg
 blt:∃mb,base.Ns YdS mb/\∀x:Str,x ≠ "__name__" -> mb x=YbS x
 nolimit:base.NoLimit
 sys:∃o,K.lookup Ya6=some o/\o.cls=.type "dict"

structure Cx where
 prog:Program
 w:World
 K:Yae
 mg:Str->Option Value
 base:Heap
 A:Around
 N:List Str
 s₀:Shared
 H₀:Hp
 env:Env
 outer:List Env
 stack:List Env
 ex:List Addr
 fn:Str->Bool
 calm:Bool
 pn:List (Addr×Obj)
 xe:Value->Shared->Prop
noncomputable def frs  (l:List Env):List Addr:=l.filterMap (·.frame)
abbrev Cx.fs  (X:Cx):List Addr:=frs X.outer

def Vis  (j:Scope)(x:Str):Prop:=j.names.lookup x=some .local\/j.names.lookup x=some .cell\/j.names.lookup x=some .free
def Loc  (j:Scope)(x:Str):Prop:=j.names.lookup x=some .local\/j.names.lookup x=some .cell
def Look  (env:Env)(h:Heap)(m:Str->Option Value)(x:Str)(u:Value):Prop:=
 (env.kindOf x=some .local/\m x=some u)\/((env.kindOf x=some .cell\/env.kindOf x=some .free)/\∃c,env.cells.lookup x=some c/\h.IsCell c (some u))

structure Cx.Ok (X:Cx):Prop where
 mod:Mod X.K X.mg X.base
 kind:X.env.scope.kind=.function
 glob:X.env.globals=YaJ
 blt:X.env.builtins=YdS
 above:X.s₀.heap.objs.size<=X.env.locals
 inj:∀x y c,X.env.cells.lookup x=some c->X.env.cells.lookup y=some c->x=y
 has:∀x,(X.env.kindOf x=some .cell\/X.env.kindOf x=some .free)->∃c,X.env.cells.lookup x=some c
 cab:∀x c,X.fn x=true->X.env.cells.lookup x=some c->X.s₀.heap.objs.size<=c
 hd:X.calm=true->X.A.handled=none
 frames:X.A.frames=some X.stack
 stk:X.stack=X.outer\/(X.stack=X.env::X.outer/\X.env.frame=some X.env.locals)
 exf:∀b∈X.ex,b≠X.env.locals/\∀x c,X.env.cells.lookup x=some c->c≠b
 bs:∀b o,X.base.get? b=some o->X.s₀.heap.get? b=some o/\X.H₀ b=none
 bsz:X.base.objs.size<=X.s₀.heap.objs.size
 noex:∀b o,X.base.get? b=some o->b∉X.ex
 exfs:∀b∈X.ex,b∉X.fs
 funs:X.s₀.heap.FunFrames X.base X.outer
 frf:∀b∈X.fs,X.H₀ b=none

structure Inv (X:Cx)(pins:List (Addr×Obj))(σ:List (Option V))(H:Hp)(s:Shared):Prop where
 ok:X.Ok
 os:s.os=X.s₀.os
 bare:AllBare s.gens
 base:Un X.fs X.ex X.H₀ H X.s₀.heap s.heap
 loc:∃m,s.heap.Ns X.env.locals m/\∀(i:Nat) (x:Str) (v:V),X.N[i]?=some x->σ[i]?=some (some v)->Vis X.env.scope x->∃u,RelV v u/\Look X.env s.heap m x u
 cell:∀x c,X.env.cells.lookup x=some c->∃v,s.heap.IsCell c v
 free:H X.env.locals=none
 freeC:∀x c,X.env.cells.lookup x=some c->H c=none
 pin:∀p∈X.pn++pins,s.heap.get? p.1=some p.2/\H p.1=none/\p.1≠X.env.locals/\p.1∉X.fs/\∀v,p.2.data≠.cell v
 hok:HOk X.prog X.w H s.heap
 len:σ.length=X.N.length

section
variable {X:Cx}{pins:List (Addr×Obj)}{σ:List (Option V)}{H H':Hp}{s:Shared}{h':Heap}

def Cx.Ok.nofr  (ok:X.Ok)(e:X.base.get? b=some o):b∉X.fs:=λj=>by
 have:=(ok.funs.mem j).1;rw[e]at this;cases this
def Inv.bs  (I:Inv X pins σ H s):∀b o,X.base.get? b=some o->s.heap.get? b=some o/\H b=none:=λb o e=>
 ⟨I.base.keep b o (I.ok.bs b o e).1 (I.ok.bs b o e).2 (I.ok.nofr e) (I.ok.noex b o e),I.base.free b o (I.ok.bs b o e).1 (I.ok.bs b o e).2 (I.ok.noex b o e)⟩
def Inv.bk  (I:Inv X pins σ H s):∀b o,X.base.get? b=some o->s.heap.get? b=some o:=λb o e=>(I.bs b o e).1
def Inv.mod  (I:Inv X pins σ H s):Mod X.K X.mg X.base:=I.ok.mod
def Inv.kIn  (I:Inv X pins σ H s):X.K.In s.heap:=I.ok.mod.kin.keeps I.bk
def Inv.lt  (I:Inv X pins σ H s):X.env.locals<s.heap.objs.size:=let ⟨_,j,_⟩:=I.loc;j.lt
def Inv.sz  (I:Inv X pins σ H s):X.s₀.heap.objs.size<=s.heap.objs.size:=Yaf I.ok.above (Yb6 I.lt)
def Inv.nofs  (I:Inv X pins σ H s){a:Addr}(h:s.heap.objs.size<=a):a∉X.fs:=λy=>by
 obtain⟨_,o,j,_⟩:=I.ok.funs.mem y;exact absurd (Yar (Yan j) (Yaf I.sz h)) (Ybl _)
def Inv.cne  (I:Inv X pins σ H s):∀x c,X.env.cells.lookup x=some c->c≠X.env.locals:=λx c e z=>by
 obtain⟨v,o,F,hd⟩:=I.cell x c e;obtain⟨m,⟨O,J,L,j,y,_⟩,_⟩:=I.loc;rw[z,j]at F;cases F;rw[y]at hd;cases hd
theorem Inv.funs  (I:Inv X pins σ H s):s.heap.FunFrames X.base X.outer:=by
 have all:∀(l:List Env),(∀b∈frs l,b∈X.fs)->X.s₀.heap.FunFrames X.base l->s.heap.FunFrames X.base l:=by
  intro l
  induction l with
  |nil=>intro _ _;trivial
  |cons Y r Z=>
   intro J hl;obtain⟨hk,⟨L,o,j,hn,ho,hd⟩,O⟩:=hl;have y:L∈X.fs:=J L (by unfold frs;rw[Ycq,j];exact Yav)
   obtain⟨sl,e⟩:=I.base.slot L o ho (I.ok.frf L y) y λz=>I.ok.exfs L z y;exact⟨hk,⟨L,_,j,hn,e,hd⟩,Z (λb F=>J b (by unfold frs;rw[Ycq,j];exact Yaj _ F)) O⟩
 exact all X.outer (λ_ F=>F) I.ok.funs

def Inv.stack  (I:Inv X pins σ H s):s.heap.FunFrames X.base X.stack:=by
 rcases I.ok.stk with e|⟨e,hf⟩
 ·rw[e];exact I.funs
 ·rw[e];obtain⟨m,j,_⟩:=I.loc;refine .cons (by rw[I.ok.kind];decide) hf j ?_ I.funs
  exact Ydz (Yaf I.ok.bsz I.ok.above)
def Inv.stkSub  (I:Inv X pins σ H s):∀b∈frs X.stack,b∈X.env.locals::X.fs:=λb j=>by
 rcases I.ok.stk with e|⟨e,hf⟩
 ·rw[e]at j;exact Yaj _ j
 ·rw[e]at j;unfold frs at j;rw[Ycq,hf]at j;exact j
def Inv.stkFree  (I:Inv X pins σ H s):∀b∈frs X.stack,H b=none:=λb j=>by
 rcases Yap.mp (I.stkSub b j)with e|j
 ·rw[e];exact I.free
 ·obtain⟨_,o,y,_⟩:=I.ok.funs.mem j;exact I.base.free b o y (I.ok.frf b j) λz=>I.ok.exfs b z j

def Inv.step     {ch:List Addr}(I:Inv X pins σ H s)
  (F:∀b∈ch,(b∈X.ex\/X.s₀.heap.objs.size<=b)/\b≠X.env.locals/\(∀x c,X.env.cells.lookup x=some c->c≠b)/\∀p∈X.pn++pins,p.1≠b)
  (keep:∀b o,b≠X.env.locals->b∉X.fs->b∉ch->s.heap.get? b=some o->H b=none->h'.get? b=some o)
  (slot:∀b o,b≠X.env.locals->b∈X.fs->b∉ch->s.heap.get? b=some o->H b=none->∃sl,h'.get? b=some { o with slots:=sl }) (free:∀b o,b∉ch->s.heap.get? b=some o->H b=none->H' b=none)
  (there:∀b o,b∉ch->s.heap.get? b=some o->∃o',h'.get? b=some o')
  (tups:∀b xs,H b=some (.tup xs)->H' b=some (.tup xs)) (frzs:∀b o u,H b=some (.frz o u)->H' b=some (.frz o u)) (tbls:∀b ps,H b=some (.tbl ps)->∃za,H' b=some (.tbl (ps++za)))
  (ns:∀m,s.heap.Ns X.env.locals m->h'.Ns X.env.locals m) (ja:HOk X.prog X.w H' h') (hg:AllBare g') :
  Inv X pins σ H' { s with heap:=h',gens:=g',drawn:=d',toks:=t' }:=by
 have xa:∀b o,X.s₀.heap.get? b=some o->b≠X.env.locals:=λb o e=>YaD (Yar (Yan e) I.ok.above);have L:∀b o,X.s₀.heap.get? b=some o->b∉X.ex->b∉ch:=λb o e j Y=>by
  rcases(F b Y).1 with z|z
  ·exact j z
  ·exact absurd (Yar (Yan e) z) (Ybl _)
 have J:∀x c,X.env.cells.lookup x=some c->∀v,s.heap.IsCell c v->h'.IsCell c v:=λx c e v ⟨o,Z,hd⟩=>by
  have y:c∉ch:=λz=>(F c z).2.2.1 x c e rfl;by_cases hc:c∈X.fs
  ·obtain⟨sl,q⟩:=slot c o (I.cne x c e) hc y Z (I.freeC x c e);exact⟨_,q,hd⟩
  ·exact⟨o,keep c o (I.cne x c e) hc y Z (I.freeC x c e),hd⟩
 refine⟨I.ok,I.os,hg,⟨λb o e n Y j=>?_,λb o e n Y j=>?_,λb o e n j=>?_,λb o e j=>?_,λb xs e=>tups b xs (I.base.tups b xs e),λb o xs e=>frzs b o xs (I.base.frzs b o xs e),λb ps e=>?_⟩,?_,λx c e=>?_,?_,λx c e=>?_,λp hp=>?_,ja,I.len⟩
 ·exact keep b o (xa b o e) Y (L b o e j) (I.base.keep b o e n Y j) (I.base.free b o e n j)
 ·obtain⟨sl,O⟩:=I.base.slot b o e n Y j;obtain⟨va,e2⟩:=slot b _ (xa b o e) Y (L b o e j) O (I.base.free b o e n j);exact⟨va,e2⟩
 ·obtain⟨o',O⟩:=I.base.there b o e j;exact free b o' (L b o e j) O (I.base.free b o e n j)
 ·obtain⟨o',O⟩:=I.base.there b o e j;exact there b o' (L b o e j) O
 ·obtain⟨m1,O⟩:=I.base.tbls b ps e;obtain⟨m2,e2⟩:=tbls b _ O;exact⟨m1++m2,by rw[e2,YfH]⟩
 ·obtain⟨m,hn,hl⟩:=I.loc;refine⟨m,ns m hn,λi x v O e2 e3=>?_⟩;obtain⟨u,r,l⟩:=hl i x v O e2 e3;refine⟨u,r,?_⟩;rcases l with l|⟨k,c,e,z⟩
  ·exact .inl l
  ·exact .inr ⟨k,c,e,J x c e _ z⟩
 ·obtain⟨v,z⟩:=I.cell x c e;exact⟨v,J x c e v z⟩
 ·obtain⟨m,⟨o,_,_,Z,_⟩,_⟩:=I.loc;exact free _ o (λz=>(F _ z).2.1 rfl) Z I.free
 ·obtain⟨v,o,Z,hd⟩:=I.cell x c e;exact free c o (λz=>(F c z).2.2.1 x c e rfl) Z (I.freeC x c e)
 ·obtain⟨e,n,ne,nf,d⟩:=I.pin p hp;have y:p.1∉ch:=λz=>(F p.1 z).2.2.2 p hp rfl;exact⟨keep p.1 p.2 ne nf y e n,free p.1 p.2 y e n,ne,nf,d⟩
def Inv.un   (I:Inv X pins σ H s)(u:Un X.fs [] H H' s.heap h')(y:HOk X.prog X.w H' h'):Inv X pins σ H' { s with heap:=h',toks:=t' }:=by
 obtain⟨m,⟨o,es,ep,O,r⟩,_⟩:=id I.loc;obtain⟨sl,hL⟩:=u.any O I.free (by simp)
 exact I.step (g':=s.gens) (d':=s.drawn) (ch:=[]) (λ_ z=>nomatch z) (λb o _ L _ e n=>u.keep b o e n L (by simp)) (λb o _ L _ e n=>u.slot b o e n L (by simp)) (λb o _ e n=>u.free b o e n (by simp)) (λb o _ e=>u.there b o e (by simp)) u.tups u.frzs u.tbls (λm' Y=>by
  obtain⟨o',F,J,j,Z⟩:=Y;rw[O]at j;cases j;exact⟨_,F,J,hL,Z⟩) y I.bare
def Inv.call      (I:Inv X pins σ H s)(u:Un (frs X.stack) ch H H' s.heap h')(J:HOk X.prog X.w H' h')(hg:AllBare g')
  (y:∀b∈ch,(b∈X.ex\/X.s₀.heap.objs.size<=b)/\b≠X.env.locals/\(∀x c,X.env.cells.lookup x=some c->c≠b)/\∀p∈X.pn++pins,p.1≠b) :
  Inv X pins σ H' { s with heap:=h',gens:=g',drawn:=d',toks:=t' }:=by
 obtain⟨m,⟨o,es,ep,Z,r⟩,_⟩:=id I.loc;obtain⟨sl,Y⟩:=u.any Z I.free λz=>(y _ z).2.1 rfl;exact I.step (ch:=ch) y (λb o Y hb j e n=>u.keep b o e n (λz=>(Yap.mp (I.stkSub b z)).elim Y hb) j) (λb o _ _ j e n=>u.any e n j) (λb o j e n=>u.free b o e n j) (λb o j e=>u.there b o e j) u.tups u.frzs u.tbls (λm' hm=>by
  obtain⟨o',L,O,F,r'⟩:=hm;rw[Z]at F;cases F;exact⟨_,L,O,Y,r'⟩) J hg
def Inv.turned    (I:Inv X pins σ H s)(k:∀b o,b≠it->s.heap.get? b=some o->h'.get? b=some o)(Z:H it=none)(F:it≠X.env.locals)
  (h1:it∈X.ex\/X.s₀.heap.objs.size<=it) (h2:∀x c,X.env.cells.lookup x=some c->c≠it) (L:∀p∈X.pn++pins,p.1≠it):Inv X pins σ H { s with heap:=h',toks:=t' }:=by
 have y:∀b u,H b=some u->b≠it:=λb u e z=>by rw[z,Z]at e;cases e
 refine I.step (g':=s.gens) (d':=s.drawn) (ch:=[it]) (λb hb=>?_) (λb o _ _ j e _=>k b o (λz=>j (by simp[z])) e) (λb o _ _ j e _=>⟨o.slots,k b o (λz=>j (by simp[z])) e⟩) (λ_ _ _ _ n=>n)
  (λb o j e=>⟨o,k b o (λz=>j (by simp[z])) e⟩) (λ_ _ e=>e) (λ_ _ _ e=>e) (λb ps e=>⟨#[],by rw[e];simp⟩) (λm J=>?_) (λb u e=>?_) I.bare
 ·have e:b=it:=by simpa using hb
  subst e;exact⟨h1,F,h2,L⟩
 ·obtain⟨o,Y,ep,O,r⟩:=J;exact⟨o,Y,ep,k _ o (Ne.symm F) O,r⟩
 ·refine(I.hok b u e).stay (λc v j q=>k c v ?_ q) (λ_ q=>q) λ_ _ q=>q;rcases j with z|z
  ·rw[z];exact y b u e
  ·exact y c _ z
def Inv.tok  (I:Inv X pins σ H s) t:Inv X pins σ H { s with toks:=t }:=I.un (h':=s.heap) (t':=t) Un.refl I.hok
def Inv.kept   (I:Inv X pins σ H s)(k:∀b u,s.heap.get? b=some u->h'.get? b=some u):Inv X pins σ H { s with heap:=h',toks:=t' }:=I.un (Un.kept k) (I.hok.kept k)
def Inv.laid  {a:Addr}(I:Inv X pins σ H s)(k:∀b u,s.heap.get? b=some u->h'.get? b=some u)(j:s.heap.objs.size<=a)(new:jaE X.prog X.w (upd H a o) h' a o) :
  Inv X pins σ (upd H a o) { s with heap:=h',toks:=t' }:=I.un (Un.laid k j (I.hok.fresh j)) (I.hok.laid k j new)
def Inv.write     (I:Inv X pins σ H s)(y:Mut (H x))(z:e=x\/H e=some (.own x))(k:∀b u,b≠e->s.heap.get? b=some u->h'.get? b=some u)(j:∃u,h'.get? e=some u)
  (new:jaE X.prog X.w (upd H x o) h' x o):Inv X pins σ (upd H x o) { s with heap:=h',toks:=t' }:=I.un (Un.write y z k j) (I.hok.write y z k j new)
def Inv.pins_of  {j:List (Addr×Obj)}(I:Inv X pins σ H s)(h:∀p∈j,s.heap.get? p.1=some p.2/\H p.1=none/\p.1≠X.env.locals/\p.1∉X.fs/\∀v,p.2.data≠.cell v):Inv X j σ H s:=
 ⟨I.ok,I.os,I.bare,I.base,I.loc,I.cell,I.free,I.freeC,λp y=>(List.mem_append.mp y).elim (λz=>I.pin p (YbK _ z)) (h p),I.hok,I.len⟩

def jeV  {N:List Str}(y:N.Nodup){i j:Nat}(a:N[i]?=some x)(b:N[j]?=some x):i=j:=by
 obtain⟨J,F⟩:=List.getElem?_eq_some_iff.mp a;obtain⟨I,z⟩:=List.getElem?_eq_some_iff.mp b;exact(List.getElem_inj y).mp (F.trans z.symm)

section
variable {M:Model}{A:Around}{E:Value->Shared->Prop}{i:Nat}{x:Str}{v:V}{u:Value}{Q:Unit->Shared->Prop}
def jfd (I:Inv X pins σ H s)(hN:X.N.Nodup)(hi:X.N[i]?=some x)(Y:Loc X.env.scope x)(r:RelV v u)
  (h:∀s',Inv X pins (σ.set i (some v)) H s'->(∃a,YcT a s.heap s'.heap/\(a=X.env.locals\/X.env.cells.lookup x=some a))->Q () s') (hf:X.fn x=true\/X.env.scope.names.lookup x=some .local:=by first|exact .inl rfl|exact .inr rfl|assumption):wpAny M A (storeName X.env x u) Q E s:=by
 obtain⟨m,hn,hl⟩:=id I.loc;have ja:(X.env.scope.kind == .class||(X.env.scope.kind == .module&&X.env.locals != X.env.globals))=false:=by rw[I.ok.kind];rfl
 have xa:i<σ.length:=by rw[I.len];exact(List.getElem?_eq_some_iff.mp hi).1
 have cne:=I.cne;have L:∀{a:Addr} {h':Heap},(∃o,s.heap.get? a=some o/\H a=none)->YcT a s.heap h'->HOk X.prog X.w H h':=λ{a h'} ha F b ob e=>by
  obtain⟨_,_,Z⟩:=ha;refine(I.hok b ob e).stay (λc w' O q=>(F.2 c ?_).trans q) (λ_ q=>q) λ_ _ q=>q;rintro rfl;rcases O with rfl|O
  ·rw[Z]at e;cases e
  ·rw[Z]at O;cases O
 rcases Y with hk|hk
 ·refine wpAny_storeName_local hk hn (λh' zb F=>?_) ja;obtain⟨oL,_,_,xb,_⟩:=id hn;refine h _ ⟨I.ok,I.os,I.bare,⟨λb o e n hb Y=>?_,λb o e n hb Y=>?_,I.base.free,λb o e Y=>?_,I.base.tups,I.base.frzs,I.base.tbls⟩,⟨_,zb,λj y v' J e2 e3=>?_⟩,λy c e=>?_,I.free,I.freeC,λp hp=>?_,L ⟨oL,xb,I.free⟩ F,by simpa using I.len⟩ ⟨_,F,.inl rfl⟩
  ·exact(F.2 b (YaD (Yar (Yan e) I.ok.above))).trans (I.base.keep b o e n hb Y)
  ·obtain⟨sl,J⟩:=I.base.slot b o e n hb Y;exact⟨sl,(F.2 b (YaD (Yar (Yan e) I.ok.above))).trans J⟩
  ·obtain⟨o',J⟩:=I.base.there b o e Y;exact⟨o',(F.2 b (YaD (Yar (Yan e) I.ok.above))).trans J⟩
  ·by_cases hj:j=i
   ·subst hj;rw[hi]at J;cases J;rw[YbA xa]at e2;cases e2;exact⟨u,r,.inl ⟨hk,by simp⟩⟩
   ·rw[Ya5 (Ne.symm hj)]at e2;obtain⟨u',r',q⟩:=hl j y v' J e2 e3;refine⟨u',r',?_⟩;rcases q with⟨k,e⟩|⟨k,c,e,z⟩
    ·refine .inl ⟨k,?_⟩;have:y≠x:=λe=>hj (jeV hN J (e ▸ hi));simp[this,e]
    ·exact .inr ⟨k,c,e,z.sameBut F (cne y c e)⟩
  ·obtain⟨w',z⟩:=I.cell y c e;exact⟨w',z.sameBut F (cne y c e)⟩
  ·obtain⟨e,n,ne,nf,d⟩:=I.pin p hp;exact⟨(F.2 p.1 ne).trans e,n,ne,nf,d⟩
 ·have za:X.fn x=true:=by
   rcases hf with z|z
   ·exact z
   ·rw[z]at hk;cases hk
  obtain⟨c,O⟩:=I.ok.has x (.inl hk);obtain⟨w',z⟩:=I.cell x c O;refine wpAny_storeName_cell I.ok.kind hk O z (λh' va F=>?_);obtain⟨oc,ya,wa⟩:=id z;refine h { s with heap:=h' } ⟨I.ok,I.os,I.bare,⟨λb o e n hb Y=>?_,λb o e n hb Y=>?_,I.base.free,λb o e Y=>?_,I.base.tups,I.base.frzs,I.base.tbls⟩,⟨m,hn.sameBut F (Ne.symm (cne x c O)),λj y v' J e2 e3=>?_⟩,λy c' e=>?_,I.free,I.freeC,λp hp=>?_,L ⟨oc,ya,I.freeC x c O⟩ F,by simpa using I.len⟩ ⟨c,F,.inr O⟩
  ·exact(F.2 b (YaD (Yar (Yan e) (I.ok.cab x c za O)))).trans (I.base.keep b o e n hb Y)
  ·obtain⟨sl,J⟩:=I.base.slot b o e n hb Y;exact⟨sl,(F.2 b (YaD (Yar (Yan e) (I.ok.cab x c za O)))).trans J⟩
  ·obtain⟨o',J⟩:=I.base.there b o e Y;exact⟨o',(F.2 b (YaD (Yar (Yan e) (I.ok.cab x c za O)))).trans J⟩
  ·by_cases hj:j=i
   ·subst hj;rw[hi]at J;cases J;rw[YbA xa]at e2;cases e2;exact⟨u,r,.inr ⟨.inl hk,c,O,va⟩⟩
   ·rw[Ya5 (Ne.symm hj)]at e2;obtain⟨u',r',q⟩:=hl j y v' J e2 e3;refine⟨u',r',?_⟩;rcases q with q|⟨k,c',e,z'⟩
    ·exact .inl q
    ·refine .inr ⟨k,c',e,z'.sameBut F ?_⟩;rintro rfl;exact hj (jeV hN J (I.ok.inj _ _ _ e O ▸ hi))
  ·by_cases ka:c'=c
   ·subst ka;exact⟨_,va⟩
   ·obtain⟨w2,z2⟩:=I.cell y c' e;exact⟨w2,z2.sameBut F ka⟩
  ·obtain⟨e,n,ne,nf,d⟩:=I.pin p hp;refine⟨(F.2 p.1 ?_).trans e,n,ne,nf,d⟩;intro q;rw[q,ya]at e;have q':oc=p.2:=Yaw e;exact d w' (by rw[<- q'];exact wa)
def jbj (I:Inv X pins σ H s)(y:X.N.Nodup)(hi:X.N[i]?=some x)(F:Loc X.env.scope x)(r:RelV v u)
  (h:∀j,Inv X pins (σ.set i (some v)) H j->Q () j) (z:X.fn x=true\/X.env.scope.names.lookup x=some .local:=by first|exact .inl rfl|exact .inr rfl|assumption):wpAny M A (storeName X.env x u) Q E s:=
 jfd I y hi F r (λj J _=>h j J) z
end
def Inv.call'    (I:Inv X pins σ H s)(Y:j.os=s.os)(u:Un (frs X.stack) ch H H' s.heap j.heap)(y:HOk X.prog X.w H' j.heap)(O:AllBare j.gens)
  (z:∀b∈ch,(b∈X.ex\/X.s₀.heap.objs.size<=b)/\b≠X.env.locals/\(∀x c,X.env.cells.lookup x=some c->c≠b)/\∀p∈X.pn++pins,p.1≠b):Inv X pins σ H' j:=by
 obtain⟨h',F,L,J,Z⟩:=j;have e:Z=s.os:=Y;subst e;exact I.call (g':=F) (t':=J) (d':=L) u y O z
end

abbrev XK:=Value->Option Addr->Hp->Prop
abbrev St:=List (Option V)
abbrev VK:=V->Hp->Prop
abbrev TE:=St->Hp->VK->Prop
abbrev TT:=St->Hp->(Bool->Hp->Prop)->Prop
abbrev TA:=St->Hp->(List V->Hp->Prop)->Prop
structure Ends where
 nx:St->Hp->Prop
 rt:VK
 bk:St->Hp->Prop:=λ_ _=>False
 ct:St->Hp->Prop:=λ_ _=>False
abbrev TS:=Ends->St->Hp->Prop

def EP  (X:Cx)(pins:List (Addr×Obj))(y:St)(Q:VK)(u:Value)(z:Shared):Prop:=∃v j,Inv X pins y j z/\RelV v u/\Q v j
def TP  (X:Cx)(pins:List (Addr×Obj))(y:St)(Q:Bool->Hp->Prop)(b:Bool)(z:Shared):Prop:=∃j,Inv X pins y j z/\Q b j
def AP  (X:Cx)(pins:List (Addr×Obj))(z:St)(Q:List V->Hp->Prop)(us:List Value)(F:Shared):Prop:=∃j y,Inv X pins z y F/\Vals j us/\Q j y
def SP  (X:Cx)(pins:List (Addr×Obj))(D:Ends)(f:Flow)(z:Shared):Prop:=
 match f with
 |.next=>∃j y,Inv X pins j y z/\D.nx j y
 |.brk=>∃j y,Inv X pins j y z/\D.bk j y
 |.cont=>∃j y,Inv X pins j y z/\D.ct j y
 |.ret u=>∃v j y,Inv X pins j y z/\RelV v u/\D.rt v y

def PE  (X:Cx)(e:Expr)(t:TE):Prop:=
 ∀(j:List (Addr×Obj)) (s:Shared) (σ:St) (H:Hp) (Q:VK),Inv X j σ H s->t σ H Q->wpAny (model X.prog X.w) X.A (eval e X.env) (EP X j σ Q) X.xe s
def PT  (X:Cx)(e:Expr)(t:TT):Prop:=
 ∀(j:List (Addr×Obj)) (s:Shared) (σ:St) (H:Hp) (Q:Bool->Hp->Prop),Inv X j σ H s->t σ H Q->wpAny (model X.prog X.w) X.A (isTrue e X.env (eval e X.env)) (TP X j σ Q) X.xe s
def PW  (X:Cx)(e:Expr)(t:TT):Prop:=
 ∀(j:Sem Value) (pins:List (Addr×Obj)) (s:Shared) (σ:St) (H:Hp) (Q:Bool->Hp->Prop),Inv X pins σ H s->t σ H Q->wpAny (model X.prog X.w) X.A (isTrue e X.env j) (TP X pins σ Q) X.xe s
def PW.pt     (h:PW X e t):PT X e t:=h _
def PA  (X:Cx)(y:List Expr)(t:TA):Prop:=
 ∀(j:Pos) (pins:List (Addr×Obj)) (s:Shared) (σ:St) (H:Hp) (Q:List V->Hp->Prop),Inv X pins σ H s->t σ H Q->wpAny (model X.prog X.w) X.A (spliced (backTo j (YaC y X.env))) (AP X pins σ Q) X.xe s
def PS  (X:Cx)(st:Stmt)(t:TS):Prop:=
 ∀(j:List (Addr×Obj)) (s:Shared) (σ:St) (H:Hp) (D:Ends),Inv X j σ H s->t D σ H->wpAny (model X.prog X.w) X.A (exec st X.env) (SP X j D) X.xe s
def PSs  (X:Cx)(st:List Stmt)(t:TS):Prop:=
 ∀(j:List (Addr×Obj)) (s:Shared) (σ:St) (H:Hp) (D:Ends),Inv X j σ H s->t D σ H->wpAny (model X.prog X.w) X.A (execs st X.env) (SP X j D) X.xe s
def thn    {Q j:α->Shared->Prop}(h:wpAny M A t Q E s)(y:∀a s,Q a s->j a s):wpAny M A t j E s:=YaZ h y λ_ _ x=>x
section
variable {X:Cx}

def tVar  (i:Nat):TE:=λj H Q=>∃v,j[i]?=some (some v)/\Q v H
def tC  (v:V):TE:=λ_ H Q=>Q v H
def jcI {i:Nat}{x:Str}{pos:Pos}(F:X.N[i]?=some x)(J:Vis X.env.scope x)(hd:(x==("__debug__" : Str))=false:=by decide)(z:(x==("__classdict__" : Str))=false:=by decide):PE X (.Name x pos) (tVar i):=by
 intro y s Y H Q I h;obtain⟨v,e,h⟩:=h;obtain⟨m,O,Z⟩:=I.loc;obtain⟨u,r,l⟩:=Z i x v F e J;have j:EP X y Y Q u s:=⟨v,H,I,r,h⟩;rcases l with⟨hk,L⟩|⟨hk,c,hc,hcell⟩
 ·exact wpAny_Name (wpAny_loadName_local I.ok.kind hk O L j) hd
 ·rcases hk with hk|hk
  ·exact wpAny_Name (wpAny_loadName_cell I.ok.kind hk hc hcell j) hd
  ·exact wpAny_Name (wpAny_loadName_free I.ok.kind hk hc hcell j z) hd
def jnu   : PE X (.Constant (.int i) j pos) (tC (.int i)):=λ_ _ _ H _ I h=>wpAny_Constant_int ⟨.int i,H,I.tok _,⟨_,rfl⟩,h⟩
def jnv   : PE X (.Constant (.bool b) j pos) (tC (.bl b)):=λ_ _ _ H _ I h=>Constant_bool ⟨.bl b,H,I,rfl,h⟩
def jns   : PE X (.Constant .none j pos) (tC .non):=λ_ _ _ H _ I h=>Constant_none ⟨.non,H,I,rfl,h⟩
def jkB   : PE X (.Constant (.str x) j pos) (tC (.str x)):=λ_ _ _ H _ I h=>Calls.Constant_str ⟨.str x,H,I.tok _,⟨_,rfl⟩,h⟩

def Gl  (X:Cx)(x:Str):Prop:=X.env.kindOf x=some .globalImplicit
section
variable {E:Value->Shared->Prop}{pins:List (Addr×Obj)}{s:Shared}{σ:St}{H:Hp}{x:Str}{u:Value}{pos:Pos}{Q:Value->Shared->Prop}
def jdT (I:Inv X pins σ H s)(y:Gl X x)(j:X.mg x=some u)(h:Q u s)
  (hd:(x==("__debug__" : Str))=false:=by decide):wpAny (model X.prog X.w) X.A (eval (.Name x pos) X.env) Q E s:=
 Yer I.ok.kind y (Calls.loadGlobal_global (by rw[I.ok.glob];exact I.mod.glob.keeps I.bk) j h) hd
def jdU (I:Inv X pins σ H s)(j:Gl X x)(z:X.mg x=none)(y:YbS x=some u)(h:Q u s)
  (F:x ≠ "__name__" := by decide) (hd:(x==("__debug__" : Str))=false:=by decide):wpAny (model X.prog X.w) X.A (eval (.Name x pos) X.env) Q E s:=by
 obtain⟨O,L,J⟩:=I.mod.blt;exact Yer I.ok.kind j (Calls.loadGlobal_builtin (by rw[I.ok.glob];exact I.mod.glob.keeps I.bk) z (by rw[I.ok.blt];exact L.keeps I.bk) ((J x F).trans y) h) hd
end
section
variable {x:Str}{v:V}{u:Value}{pos:Pos}
def jij (y:Gl X x)(j:X.mg x=some u)(r:RelV v u)(hd:(x==("__debug__" : Str))=false:=by decide):PE X (.Name x pos) (tC v):=
 λ_ _ _ H _ I h=>jdT I y j ⟨v,H,I,r,h⟩ hd
def jik (z:Gl X x)(j:X.mg x=none)(F:YbS x=some u)(r:RelV v u)(y:x ≠ "__name__" := by decide)(hd:(x==("__debug__" : Str))=false:=by decide):PE X (.Name x pos) (tC v):=
 λ_ _ _ H _ I h=>jdU I z j F ⟨v,H,I,r,h⟩ y hd

end
variable {a b:Expr}{ta tb:TE}{pos:Pos}
def tB  (t:TE):TT:=λj H Q=>t j H λx H1=>∃c,x=.bl c/\Q c H1
def jnd {e:Expr}{t:TE}(h:PE X e t)(J:∀j,isTrue e X.env j=(do let v <- j;standAt e.pos;holding [v] (truthy v)):=by intro _;rfl):PT X e (tB t):=by
 intro y s L H Q I F;refine isTrue_plain (thn (h y s L H _ I F) λv s1 ⟨x,H1,z,r1,q1⟩=>?_) (J _);obtain⟨d,rfl,q⟩:=q1;cases r1;exact Ybd ⟨H1,z,q⟩

def tAnd  (t u:TT):TT:=λj H Q=>t j H λc H1=>if c=true then u j H1 Q else Q false H1
def tOr  (t u:TT):TT:=λj H Q=>t j H λc H1=>if c=true then Q true H1 else u j H1 Q
def tNot  (t:TT):TT:=λj H Q=>t j H λc H1=>Q (!c) H1
def pw_and1  (F:PT X a y):PW X (.BoolOp .And [a] pos) y:=by
 intro J j s z H Q I h;refine isTrue_and (thn (F j s z H Q I h) λc s1 e=>?_);cases c with
 |true=>exact isTrue_and_nil e
 |false=>exact e
def pw_or1  (F:PT X a y):PW X (.BoolOp .Or [a] pos) y:=by
 intro J j s z H Q I h;refine isTrue_or (thn (F j s z H Q I h) λc s1 e=>?_);cases c with
 |false=>exact isTrue_or_nil e
 |true=>exact e
def pw_and  {rest: List Expr}(Y:PT X a L)(O:PW X (.BoolOp .And (b::rest) pos) y):PW X (.BoolOp .And (a::b::rest) pos) (tAnd L y):=by
 intro J j s F H Q I h;refine isTrue_and (thn (Y j s F H _ I h) λc s1 ⟨H1,z,q1⟩=>?_);cases c with
 |true=>exact O J j s1 F H1 Q z q1
 |false=>exact⟨H1,z,q1⟩
def pw_or  {rest: List Expr}(Y:PT X a L)(O:PW X (.BoolOp .Or (b::rest) pos) y):PW X (.BoolOp .Or (a::b::rest) pos) (tOr L y):=by
 intro J j s F H Q I h;refine isTrue_or (thn (Y j s F H _ I h) λc s1 ⟨H1,z,q1⟩=>?_);cases c with
 |true=>exact⟨H1,z,q1⟩
 |false=>exact O J j s1 F H1 Q z q1
def jky  (F:PT X a y):PT X (.UnaryOp .Not a pos) (tNot y):=by
 intro j s z H Q I h;exact isTrue_not (F j s z H (λc H1=>Q (!c) H1) I h)
def jph  (y tb:TE):TE:=λj H Q=>y j H λx H1=>∃c,x=.bl c/\if c=true then tb j H1 Q else Q (.bl false) H1
def tOrV  (y tb:TE):TE:=λj H Q=>y j H λx H1=>∃c,x=.bl c/\if c=true then Q (.bl true) H1 else tb j H1 Q
def jpb  (j:TE):TE:=λy H Q=>j y H λx H1=>∃c,x=.bl c/\Q (.bl (!c)) H1
def jgY    (h:PE X a t):PE X (.BoolOp op [a] pos) t:=λj s z H Q I y=>BoolOp_one (h j s z H Q I y)
def jnw  {rest: List Expr}(J:PE X a ta)(F:PE X (.BoolOp .And (b::rest) pos) tb):PE X (.BoolOp .And (a::b::rest) pos) (jph ta tb):=by
 intro j s z H Q I h;refine BoolOp_and (thn (J j s z H _ I h) λv s1 ⟨x,H1,y,r1,q1⟩=>?_);obtain⟨c,rfl,q1⟩:=q1;cases r1;refine Ybd ?_;cases c with
 |true=>exact F j s1 z H1 Q y q1
 |false=>exact⟨.bl false,H1,y,rfl,q1⟩
def jpz  {rest: List Expr}(J:PE X a ta)(F:PE X (.BoolOp .Or (b::rest) pos) tb):PE X (.BoolOp .Or (a::b::rest) pos) (tOrV ta tb):=by
 intro j s z H Q I h;refine BoolOp_or (thn (J j s z H _ I h) λv s1 ⟨x,H1,y,r1,q1⟩=>?_);obtain⟨c,rfl,q1⟩:=q1;cases r1;refine Ybd ?_;cases c with
 |false=>exact F j s1 z H1 Q y q1
 |true=>exact⟨.bl true,H1,y,rfl,q1⟩
def jnr  (F:PE X a ta):PE X (.UnaryOp .Not a pos) (jpb ta):=by
 intro j s z H Q I h;refine UnaryOp_ (thn (F j s z H _ I h) λv s1 ⟨x,H1,y,r1,q1⟩=>?_);obtain⟨c,rfl,q1⟩:=q1;cases r1;exact not_of (Ybd ⟨.bl (!c),H1,y,rfl,q1⟩)
end

def SqL  (K:Yae)(H:Hp)(a:Addr)(xs:List V):Prop:=
 Rd H a (.lst xs)\/
  ∃(o:Obj) (its:Array Value) (n:Nat),K.lookup a=some o/\o.cls=.type "list" /\ o.dict=none/\o.data=.seq its n/\its.size<=Yai/\Vals xs its.toList
def SqT  (K:Yae)(H:Hp)(a:Addr)(xs:List V):Prop:=
 Rd H a (.tup xs)\/
  ∃(o:Obj) (its:Array Value) (n:Nat),K.lookup a=some o/\o.cls=.type "tuple" /\ o.data=.seq its n/\its.size<=Yai/\Vals xs its.toList
noncomputable def absV  : Value->Option V
 |.none=>some .non
 |.bool b=>some (.bl b)
 |.int i _=>some (.int i)
 |.str x _=>some (.str x)
 |.bytes b _=>some (.byt b)
 |.float b _=>some (.flt b)
 |.ref a=>some (.ref a)
 |.type n=>some (.ty n)
 |_=>none
def RelV.abs    (r:RelV x u):absV u=some x:=by
 cases x with
 |non=>cases r;rfl
 |bl _=>cases r;rfl
 |int _=>obtain⟨t,rfl⟩:=r;rfl
 |str _=>obtain⟨t,rfl⟩:=r;rfl
 |byt _=>obtain⟨t,rfl⟩:=r;rfl
 |flt _=>obtain⟨t,rfl⟩:=r;rfl
 |ref _=>cases r;rfl
 |ty _=>cases r;rfl
def RelV.inj    (r:RelV x u)(q:RelV y u):x=y:=Yaw (r.abs.symm.trans q.abs)
theorem Vals.inj  : ∀{xs ys } {us },Vals xs us->Vals ys us->xs=ys
 |_,_,_,.nil,.nil=>rfl
 |_,_,_,.cons r t,.cons r' t'=>by rw[r.inj r',Vals.inj t t']

def SqL.of  {K:Yae}(h:H a=some (.lst xs)):SqL K H a xs:=.inl (.inl h)
def SqT.of  {K:Yae}(h:H a=some (.tup xs)):SqT K H a xs:=.inl (.inl h)
def Inv.list  {y: St}(I:Inv X pins y H s)(h:SqL X.K H a xs):∃j ,Vals xs j/\PlainL s.heap a j.toArray/\xs.length<=Yai:=by
 rcases h with h|⟨o,j,n,hk,hc,hd,hs,hz,r⟩
 ·obtain⟨z,j,n,r,e⟩:=h.ok I.hok;exact⟨j,r,⟨_,n,e,rfl,rfl,rfl⟩,z⟩
 ·refine⟨j.toList,r,⟨o,n,I.kIn a o hk,hc,hd,by simpa using hs⟩,?_⟩
  have e:=r.length;simp only[YcL]at e
  lia
def Inv.tuple  {y: St}(I:Inv X pins y H s)(h:SqT X.K H a xs):∃j ,Vals xs j/\IsTup s.heap a j.toArray/\xs.length<=Yai:=by
 rcases h with h|⟨o,j,n,hk,hc,hs,hz,r⟩
 ·obtain⟨z,j,r,p⟩:=h.ok I.hok;exact⟨j,r,p.tup,z⟩
 ·refine⟨j.toList,r,⟨o,I.kIn a o hk,hc,n,by simpa using hs⟩,?_⟩
  have e:=r.length;simp only[YcL]at e
  lia
def Inv.list_inj  {L: St}(I:Inv X pins L H s)(h:SqL X.K H a xs)(h':SqL X.K H a ys):xs=ys:=by
 obtain⟨y,r,⟨o,n,e,_,_,d⟩,_⟩:=I.list h;obtain⟨j,J,⟨Y,O,z,_,_,F⟩,_⟩:=I.list h';rw[e]at z;cases z;rw[d]at F;injection F with d1 _
 have:y=j:=by simpa using congrArg Array.toList d1
 subst this;exact r.inj J
def Inv.tuple_inj  {L: St}(I:Inv X pins L H s)(h:SqT X.K H a xs)(h':SqT X.K H a ys):xs=ys:=by
 obtain⟨y,r,⟨o,e,_,n,d⟩,_⟩:=I.tuple h;obtain⟨j,J,⟨Y,z,_,O,F⟩,_⟩:=I.tuple h';rw[e]at z;cases z;rw[d]at F;injection F with d1 _
 have:y=j:=by simpa using congrArg Array.toList d1
 subst this;exact r.inj J

noncomputable abbrev Cx.wish  (X:Cx)(E:Value->Shared->Prop):Cx:={ X with xe:=E }
def Cx.Ok.wish  {X:Cx}(ok:X.Ok) E:(X.wish E).Ok:=
 ⟨ok.mod,ok.kind,ok.glob,ok.blt,ok.above,ok.inj,ok.has,ok.cab,ok.hd,ok.frames,ok.stk,ok.exf,ok.bs,ok.bsz,ok.noex,ok.exfs,ok.funs,ok.frf⟩
def Cx.Ok.unwish  {X:Cx}(ok:(X.wish E).Ok):X.Ok:=
 ⟨ok.mod,ok.kind,ok.glob,ok.blt,ok.above,ok.inj,ok.has,ok.cab,ok.hd,ok.frames,ok.stk,ok.exf,ok.bs,ok.bsz,ok.noex,ok.exfs,ok.funs,ok.frf⟩
section
variable {X:Cx}{pins:List (Addr×Obj)}{σ:St}{H:Hp}{s:Shared}{E:Value->Shared->Prop}
def Inv.wish  (I:Inv X pins σ H s) E:Inv (X.wish E) pins σ H s:=⟨I.ok.wish E,I.os,I.bare,I.base,I.loc,I.cell,I.free,I.freeC,I.pin,I.hok,I.len⟩
def Inv.unwish  (I:Inv (X.wish E) pins σ H s):Inv X pins σ H s:=⟨I.ok.unwish,I.os,I.bare,I.base,I.loc,I.cell,I.free,I.freeC,I.pin,I.hok,I.len⟩
theorem SP.unwish     (h:SP (X.wish E) pins D f z):SP X pins D f z:=by
 cases f with
 |next=>obtain⟨j,y,I,q⟩:=h;exact⟨j,y,I.unwish,q⟩
 |brk=>obtain⟨j,y,I,q⟩:=h;exact⟨j,y,I.unwish,q⟩
 |cont=>obtain⟨j,y,I,q⟩:=h;exact⟨j,y,I.unwish,q⟩
 |ret u=>obtain⟨v,j,y,I,r,q⟩:=h;exact⟨v,j,y,I.unwish,r,q⟩
end

section
variable {X:Cx}{st:Stmt}{rest:List Stmt}{t u:TS}{e:Expr}{te:TE}{pos:Pos}
def jpd  : TS:=λD j H=>D.nx j H
def tSeq  (t u:TS):TS:=λD j H=>t { D with nx:=u D } j H
def jf5  : PSs X [] jpd:=λ_ _ j H _ I h=>YcV ⟨j,H,I,h⟩
def jeL  (L:PS X st t)(J:PSs X rest u):PSs X (st::rest) (tSeq t u):=by
 intro j s O H D I h;refine YcP (thn (L j s O H { D with nx:=u D } I h) λf s1 q=>?_)
 cases f with
 |next=>
  obtain⟨y,z,F,q⟩:=q;exact J j s1 y z D F q
 |ret v=>exact q
 |brk=>exact q
 |cont=>exact q
def jly  (y:PS X st t):PSs X [st] t:=by
 intro j s z H D I h;refine YcP (thn (y j s z H D I h) λf s1 q=>?_);cases f with
 |next=>exact YcV q
 |ret v=>exact q
 |brk=>exact q
 |cont=>exact q
def Inv.quiet   {j:St}(I:Inv X pins j H s):interactive X.env=false:=by simp[interactive,I.ok.kind]
def jpe  (y:TE):TS:=λD j H=>y j H λ_ H1=>D.nx j H1
def jlB (F:PE X e te)(hs:YbY e none pos.line X.env=pure false:=by rfl):PS X (.Expr e pos) (jpe te):=by
 intro j s y H D I h;exact wpAny_Expr_any (thn (F j s y H _ I h) λv s1 ⟨x,H1,z,r1,q1⟩=>⟨y,H1,z,q1⟩) I.quiet hs
def tRet  (j:TE):TS:=λD y H=>j y H D.rt
def jnh  (F:PE X e te):PS X (.Return (some e) pos) (tRet te):=by
 intro j s y H D I h;exact wpAny_Return_some (thn (F j s y H _ I h) λv s1 ⟨x,H1,z,r1,q1⟩=>⟨x,y,H1,z,r1,q1⟩)
def tIfS  (c:TT)(t u:TS):TS:=λD j H=>c j H λb H1=>if b=true then t D j H1 else u D j H1
def jnk     (J:PT X c tc)(L:PSs X a t)(F:PSs X b u):PS X (.If c a b pos) (tIfS tc t u):=by
 intro j s y H D I h;refine wpAny_If (thn (J j s y H _ I h) λd s1 ⟨H1,z,q1⟩=>?_);cases d with
 |true=>exact L j s1 y H1 D z q1
 |false=>exact F j s1 y H1 D z q1
end

abbrev TG:=V->St->Hp->(St->Hp->Prop)->Prop
abbrev TGs:=List V->St->Hp->(St->Hp->Prop)->Prop
def PG  (X:Cx)(j:Expr)(t:TG):Prop:=
 ∀(y:List (Addr×Obj)) (s:Shared) (σ:St) (H:Hp) (v:V) (u:Value) (Q:St->Hp->Prop),Inv X y σ H s->RelV v u->t v σ H Q->
  wpAny (model X.prog X.w) X.A (assign j X.env u) (λ_ I=>∃z F,Inv X y z F I/\Q z F) X.xe s
def PGs  (X:Cx)(ts:List Expr)(t:TGs):Prop:=
 ∀(j:List (Addr×Obj)) (s:Shared) (σ:St) (H:Hp) (vs:List V) (us:List Value) (Q:St->Hp->Prop),Inv X j σ H s->Vals vs us->t vs σ H Q->
  wpAny (model X.prog X.w) X.A (Ydo ((Ybn ts X.env).map (·.2)) us) (λ_ F=>∃y z,Inv X j y z F/\Q y z) X.xe s
abbrev TSet:=V->V->V->Hp->(Hp->Prop)->Prop
def PSet  (X:Cx)(t:TSet):Prop:=
 ∀(j:List (Addr×Obj)) (s:Shared) (σ:St) (H:Hp) (o i v:V) (ov iv u:Value) (Q:Hp->Prop),Inv X j σ H s->RelV o ov->RelV i iv->RelV v u->t o i v H Q->
  wpAny (model X.prog X.w) X.A (setItem ov iv u) (λ_ z=>∃y,Inv X j σ y z/\Q y) X.xe s
abbrev TIp:=V->V->Hp->VK->Prop
def PIp  (X:Cx)(z:Yen)(t:TIp):Prop:=
 ∀(j:List (Addr×Obj)) (s:Shared) (σ:St) (H:Hp) (x y:V) (v u:Value) (Q:VK),Inv X j σ H s->RelV x v->RelV y u->t x y H Q->
  wpAny (model X.prog X.w) X.A (Yej z v u) (EP X j σ Q) X.xe s
section
variable {X:Cx}{pos:Pos}
def jhF  (i:Nat):TG:=λv j H Q=>Q (j.set i (some v)) H
def jf6 {i:Nat}{x:Str}(y:X.N.Nodup)(hi:X.N[i]?=some x)(F:Loc X.env.scope x)(z:X.fn x=true\/X.env.scope.names.lookup x=some .local:=by first|exact .inl rfl|exact .inr rfl|assumption):PG X (.Name x pos) (jhF i):=by
 intro j s O H v u Q I r h;exact wpAny_assign_Name (jbj I y hi F r (λL J=>⟨_,H,J,h⟩) z)
def gNil  : TGs:=λj y H Q=>j=[]/\Q y H
def jpS  (t:TG)(u:TGs):TGs:=λy z H Q=>∃v r,y=v::r/\t v z H λj F=>u r j F Q
def jlI  : PGs X [] gNil:=by
 intro j s y H z F Q I r h;obtain⟨e,h⟩:=h;subst e;cases r;exact Yet ⟨y,H,I,h⟩
def jjK {e:Expr}{y:List Expr}{t:TG}{u:TGs}(L:PG X e t)(O:PGs X y u)
  (hs:(Ybn (e::y) X.env).map (·.2)=assign e X.env::(Ybn y X.env).map (·.2):=by rfl):PGs X (e::y) (jpS t u):=by
 intro j s Y H Z us Q I r h;obtain⟨v,vr,J,h⟩:=h;subst J;cases r with
 |cons r rr=>
  rw[hs];refine Yca (thn (L j s Y H _ _ _ I r h) λ_ s1 ⟨z,H1,F,q1⟩=>?_);exact O j s1 z H1 _ _ Q F rr q1
def gTup  (K:Yae)(n:Nat)(t:TGs):TG:=λv y H Q=>∃a j,v=.ref a/\SqT K H a j/\j.length=n/\t j y H Q
def jno {y:List Expr}{k:Nat}{t:TGs}{n:Nat}(hc:X.calm=true)(h:PGs X y t)
  (hn:(Ybn y X.env).length=n:=by rfl) (F:(Ybn y X.env).findIdx? (·.1)=none:=by rfl):PG X (.Tuple y k pos) (gTup X.K n t):=by
 intro j s L H v u Q I r z;obtain⟨a,xs,e1,hq,hl,z⟩:=z;subst e1;cases r;obtain⟨xa,J,ht,hz⟩:=I.tuple hq;refine assign_Tuple_tuple (I.ok.hd hc) ht (by simp[hn,<- hl,J.length]) F λY Z=>?_
 have O:Inv X j L H { s with heap:=Y }:=I.kept (t':=s.toks) λb o e=>Z b o (YaD (Yan e)) e
 exact h j _ L H xs _ Q O (by simpa using J) z
def gSub  (y z:TE)(t:TSet):TG:=λv j H Q=>y j H λo H1=>z j H1 λi H2=>t o i v H2 λF=>Q j F
def jnp {o i:Expr}{O L:TE}{t:TSet}(ho:PE X o O)(hi:PE X i L)(hs:PSet X t)
  (ha:∀v,assign (.Subscript o i pos) X.env v=(do
   let z <- holding [v] (eval o X.env)
   let F <- holding [v,z] (eval i X.env)
   standAt pos
   holding [v,z,F] (setItem z F v)
   release [v,z,F] []):=by intro _;rfl):PG X (.Subscript o i pos) (gSub O L t):=by
 intro j s J H v u Q I r h;rw[ha];refine Yab (YbH (thn (ho j s J H _ I h) λz s1 ⟨x,H1,Y,r1,q1⟩=>?_));refine Yab (YbH (thn (hi j s1 J H1 _ Y q1) λF s2 ⟨y,H2,I2,r2,q2⟩=>?_));refine Yab (Ybz (Yab (YbH (thn (hs j s2 J H2 x y v z F u _ I2 r1 r2 r q2) λ_ s3 ⟨Z,I3,q3⟩=>?_))));exact wpAny_release ⟨J,Z,I3,q3⟩
def tAsg  (y:TE)(g:TG):TS:=λD j H=>y j H λx H1=>g x j H1 D.nx
def jif {tg e:Expr}{y:TE}{g:TG}(L:PE X e y)(O:PG X tg g)(hs:Ybo [tg] e pos.line X.env=pure false:=by rfl)(J:Ya9 [tg] e X.env=pure none:=by rfl)
  (Y:(Ybn [tg] X.env).map (·.2)=[assign tg X.env]:=by rfl):PS X (.Assign [tg] e pos) (tAsg y g):=by
 intro j s z H D I h;refine wpAny_Assign_stores (thn (L j s z H _ I h) λv s1 ⟨x,H1,F,r1,q1⟩=>?_) hs J;rw[Y];exact thn (O j s1 z H1 x v _ F r1 q1) λ_ s2 q=>q
def tPar  (i j:Nat)(F:TA):TS:=λD y H=>F y H λz H1=>∃v w,z=[v,w]/\D.nx ((y.set i (some v)).set j (some w)) H1
def jni {i j:Nat}{x y:Str}{a b:Expr}{ta:TA}{px py pt:Pos}{Z k2 J}(hc:X.calm=true)(hN:X.N.Nodup)(hi:X.N[i]?=some x)(hj:X.N[j]?=some y)(za:i≠j)
  (hx:X.env.scope.names.lookup x=some .local) (hy:X.env.scope.names.lookup y=some .local) (ha:PA X [a,b] ta)
  (hw:Ya9 [.Tuple [.Name x px,.Name y py] Z pt] (.Tuple [a,b] k2 J) X.env=pure (some [x,y]))
  (hs:Ybo [.Tuple [.Name x px,.Name y py] Z pt] (.Tuple [a,b] k2 J) pos.line X.env=pure false:=by rfl) :
  PS X (.Assign [.Tuple [.Name x px,.Name y py] Z pt] (.Tuple [a,b] k2 J) pos) (tPar i j ta):=by
 intro F s σ H D I h;rw[exec_Assign_arm];refine Yab (Ybz ?_);rw[hs];refine Yab (Yam ?_);rw[if_neg (by decide)]
 refine Yab (Tuple_ (thn (ha _ F s σ H _ I h) λus s1 ⟨vs,H1,I1,r1,q1⟩=>?_));obtain⟨v,w,e1,q1⟩:=q1;subst e1;obtain⟨L,O,rfl,rv,Y⟩:∃L O,us=[L,O]/\RelV v L/\RelV w O:=by
  cases r1 with
  |cons p q=>
   cases q with
   |cons p' q'=>
    cases q';exact⟨_,_,rfl,p,p'⟩
 refine Ya2 ?_ (by show 2<=Yai;decide)
 have I2:Inv X F σ H1 { s1 with heap:=s1.heap.push { cls:=.type "tuple",data:=.seq [L,O].toArray } }:=I1.kept (t':=s1.toks) λb o e=>Yad _ e
 rw[hw];refine Yab (Yam ?_);show wpAny (model X.prog X.w) X.A (do rule "assign.swapped-stores";let z <- unpackItems (.ref s1.heap.objs.size) 2 none;Ydo [λv=>YcH X.env y v,λv=>YcH X.env x v] z.reverse;pure Yfh) _ _ _
 refine Yab (YdP (Yab (unpackItems_tuple (items:=#[L,O]) (I.ok.hd hc) (IsTup.new s1.heap _) λh' xa=>?_)));have I3:=I2.kept (h':=h') (t':=s1.toks) λb o e=>xa b o (YaD (Yan e)) e;show wpAny _ _ (Ydo [λv=>YcH X.env y v,λv=>YcH X.env x v] [O,L] >>= λ_=>pure Yfh) _ _ _
 refine Yab (Yca (Ydb (jbj I3 hN hj (.inl hy) Y (λs2 I4=>?_) (.inr hy))));refine Yca (Ydb (jbj I4 hN hi (.inl hx) rv (λs3 I5=>Yet (Yam ?_)) (.inr hx)));rw[YdW _ _ (Ne.symm za)]at I5;exact⟨_,H1,I5,q1⟩
def tAug  (i:Nat)(I:TE)(F:TIp):TS:=λD j H=>∃x,j[i]?=some (some x)/\I j H λy H1=>F x y H1 λz H2=>D.nx (j.set i (some z)) H2
def jnm {i:Nat}{x:Str}{e:Expr}{te:TE}{Y:Yen}{ti:TIp}{F:Pos}(hN:X.N.Nodup)(hi:X.N[i]?=some x)(O:Loc X.env.scope x)(he:PE X e te)(ho:PIp X Y ti)(hf:X.fn x=true\/X.env.scope.names.lookup x=some .local:=by first|exact .inl rfl|exact .inr rfl|assumption) :
  PS X (.AugAssign (.Name x F) Y e pos) (tAug i te ti):=by
 intro j s σ H D I h;obtain⟨v,e1,h⟩:=h;obtain⟨m,hn,hl⟩:=I.loc;have vis:Vis X.env.scope x:=by rcases O with k|k;exact .inl k;exact .inr (.inl k)
 obtain⟨u,r,l⟩:=hl i x v hi e1 vis;refine wpAny_AugAssign_Name ?_;have Z:wpAny (model X.prog X.w) X.A (eval e X.env) (λw J=>wpAny (model X.prog X.w) X.A (Yej Y u w) (λr L=>wpAny (model X.prog X.w) X.A (storeName X.env x r) (λ_=>SP X j D .next) X.xe L) X.xe J) X.xe s:=by
  refine thn (he j s σ H _ I h) λw s1 ⟨y,H1,I1,r1,q1⟩=>?_;refine thn (ho j s1 σ H1 v y u w _ I1 r r1 q1) λz s2 ⟨zv,H2,I2,r2,q2⟩=>?_;exact jbj I2 hN hi O r2 (λs3 I3=>⟨_,H2,I3,q2⟩) hf
 rcases l with⟨hk,hm⟩|⟨hk,c,hc,hcell⟩
 ·exact wpAny_loadName_local I.ok.kind hk hn hm Z
 ·rcases hk with hk|hk
  ·exact wpAny_loadName_cell I.ok.kind hk hc hcell Z
  ·rcases O with k|k
   ·have:X.env.scope.names.lookup x=some .free:=hk;rw[k]at this;cases this
   ·have:X.env.scope.names.lookup x=some .free:=hk;rw[k]at this;cases this
def PGet  (X:Cx)(t:V->V->Hp->VK->Prop):Prop:=
 ∀(j:List (Addr×Obj)) (s:Shared) (σ:St) (H:Hp) (o i:V) (ov iv:Value) (Q:VK),Inv X j σ H s->RelV o ov->RelV i iv->t o i H Q->
  wpAny (model X.prog X.w) X.A (getItem ov iv) (EP X j σ Q) X.xe s
end


def jmN  (c:TT)(tb:TS):TS:=λD j H=>∃W:Nat->St->Hp->Prop,(∃m,W m j H)/\∀m j H,W m j H->
 c j H λb H1=>if b=true then ∃N:St->Hp->Prop,(∀y F,N y F->∃z,z<m/\W z y F)/\tb { D with nx:=N,ct:=N,bk:=D.nx } j H1 else D.nx j H1
def jjE      (hp:Ydj (model X.prog X.w) X.A X.env X.xe)(hc:PT X c tc)(hb:PSs X body tb):PS X (.While c body [] pos) (jmN tc tb):=by
 intro y s σ H D I h;obtain⟨W,⟨m0,w0⟩,F⟩:=h;refine wpAny_While (codeAny_whileLoop (λn s'=>∃J H',Inv X y J H' s'/\W n J H') ?_ m0 ⟨σ,H,I,w0⟩);rintro n s1 ⟨σ1,H1,I1,w1⟩;refine Ycm hp (thn (hc y s1 σ1 H1 _ I1 (F n σ1 H1 w1)) λb s2 ⟨H2,I2,q2⟩=>?_);cases b with
 |true=>
  obtain⟨N,hN,q2⟩:=q2;rw[if_pos rfl];refine Ycm hp (thn (hb y s2 σ1 H2 _ I2 q2) λf s3 q3=>?_);cases f with
  |next=>
   obtain⟨j,z,Z,O⟩:=q3;obtain⟨L,Y,w3⟩:=hN j z O;exact⟨L,Y,j,z,Z,w3⟩
  |cont=>
   obtain⟨j,z,Z,O⟩:=q3;obtain⟨L,Y,w3⟩:=hN j z O;exact⟨L,Y,j,z,Z,w3⟩
  |brk=>exact q3
  |ret v=>exact q3
 |false=>
  rw[if_neg Yal];exact YcV ⟨σ1,H2,I2,q2⟩

structure It where
 go:Nat->Hp->Prop
 yld:Nat->Hp->V->Hp->Prop
 stop:Nat->Hp->Prop
def FpOk  (X:Cx)(pins:List (Addr×Obj))(H:Hp)(b:Addr):Prop:=
 H b=none/\b≠X.env.locals/\b∉X.fs/\(b∈X.ex\/X.s₀.heap.objs.size<=b)/\(∀x c,X.env.cells.lookup x=some c->c≠b)/\∀p∈X.pn++pins,p.1≠b
def Inv.fpOk    {J:St}{b:Addr}(I:Inv X pins J H s)(j:s.heap.objs.size<=b)(y:H' b=none):FpOk X pins H' b:=by
 refine⟨y,Nat.ne_of_gt (Yar I.lt j),I.nofs j,.inr (Yaf I.sz j),λx c e z=>?_,λp F z=>?_⟩
 ·obtain⟨v,q⟩:=I.cell x c e;exact absurd (Yar q.lt (by rw[z];exact j)) (Ybl _)
 ·exact absurd (Yar (Yan (I.pin p F).1) (by rw[z];exact j)) (Ybl _)
structure Turn (P:Program)(w:World)(K:Yae)(tg:Expr)(J:It)(fp:List Addr)(it:Addr)(tn:Nat->Heap->Prop):Prop where
 mem:it∈fp
 obj:∀i h,tn i h->∀b∈fp,∃o,h.get? b=some o/\∀v,o.data≠.cell v
 keep:∀i h h',tn i h->(∀b∈fp,∀o,h.get? b=some o->h'.get? b=some o)->tn i h'
 item:∀(X:Cx),X.prog=P->X.w=w->X.K=K->X.calm=true->∀(i:Nat) (pins:List (Addr×Obj)) (s:Shared) (σ:St) (H:Hp) (E:Value->Shared->Prop),Inv X pins σ H s->(∀b∈fp,FpOk X pins H b)->tn i s.heap->J.go i H->
  wpAny (model P w) X.A (pyNext (.ref it)) (λr s1=>∃u,r=some u/\
   wpAny (model P w) X.A (YcW tg (.ref it) u) (λ_ s2=>∃x H',Inv X pins σ H' s2/\RelV x u/\J.yld i H x H'/\tn (i+1) s2.heap/\∀b∈fp,H' b=none) E s1) E s
 done:∀(X:Cx),X.prog=P->X.w=w->X.K=K->X.calm=true->∀(i:Nat) (pins:List (Addr×Obj)) (s:Shared) (σ:St) (H:Hp) (E:Value->Shared->Prop),Inv X pins σ H s->(∀b∈fp,FpOk X pins H b)->tn i s.heap->J.stop i H->
  wpAny (model P w) X.A (pyNext (.ref it)) (λr s1=>r=none/\Inv X pins σ H s1) E s
 self:∀(A:Around) (i:Nat) (s:Shared) (Q:Value->Shared->Prop) (E:Value->Shared->Prop),tn i s.heap->Q (.ref it) s->wpAny (model P w) A (pyIter (.ref it)) Q E s
abbrev TI:=St->Hp->(It->Hp->Prop)->Prop
def PIE  (X:Cx)(pins:List (Addr×Obj))(z:St)(tg:Expr)(R:It->Hp->Prop)(j:Value)(s2:Shared):Prop:=
 ∃(y:Addr) (fp:List Addr) (tn:Nat->Heap->Prop) (J:It) (H':Hp),j=.ref y/\Inv X pins z H' s2/\Turn X.prog X.w X.K tg J fp y tn/\tn 0 s2.heap/\(∀b∈fp,FpOk X pins H' b)/\R J H'
def PI  (X:Cx)(tg y:Expr)(z:TI):Prop:=
 ∀(j:List (Addr×Obj)) (s:Shared) (σ:St) (H:Hp) (R:It->Hp->Prop),Inv X j σ H s->z σ H R->
  wpAny (model X.prog X.w) X.A (eval y X.env) (λv s1=>wpAny (model X.prog X.w) X.A (pyIter v) (PIE X j σ tg R) X.xe s1) X.xe s

def jmk             (z : s.heap.get? it = some o)(F : o.cls = .type n)(hd : o.data = .fields vs)
    (y : ["enumerate", "zip", "dict_itemiterator", "dict_reverseitemiterator", "odict_iterator", "itertools.zip_longest", "itertools.pairwise"].contains n = false) (j : Q () s) : wpAny M A (YcW tg (.ref it) u) Q E s := by
  unfold YcW
  cases tg <;> first
    | exact Yam j
    | (cases u <;> first
        | exact Yam j
        | (refine Yab (wpAny_load z ?_)
           rw [F, hd]
           show wpAny M A (if (["enumerate", "zip", "dict_itemiterator", "dict_reverseitemiterator", "odict_iterator", "itertools.zip_longest", "itertools.pairwise"].contains n && vs[0]? == some (rawInt _)) = true then _ else _) Q E s
           rw [if_neg (by intro h; rw [y, Bool.false_and] at h; cases h)]
           exact Yam j))

noncomputable def Itl  (K:Yae)(a:Addr):It:=
 ⟨λi H=>∃j x,SqL K H a j/\j[i]?=some x,λi H x y=>y=H/\∀j,SqL K H a j->j[i]?=some x,λi H=>∃j,SqL K H a j/\j.length<=i⟩
noncomputable def Itt  (K:Yae)(a:Addr):It:=
 ⟨λi H=>∃j x,SqT K H a j/\j[i]?=some x,λi H x y=>y=H/\∀j,SqT K H a j->j[i]?=some x,λi H=>∃j,SqT K H a j/\j.length<=i⟩
noncomputable def Itr  (lo:Int)(n:Nat):It:=⟨λi _=>i<n,λi H x j=>j=H/\x=.int (lo+i),λi _=>n<=i⟩
def jhT    {K:Yae} a it:Turn P w K tg (Itl K a) [it] it (λi h=>h.IsListIter it a i) where
 mem:=by simp
 obj:=λi h st b y=>by
  have e:b=it:=by simpa using y
  subst e;obtain⟨o,e,c,d⟩:=st;exact⟨o,e,λv z=>by rw[d]at z;cases z⟩
 keep:=λi h J st k=>st.at λo e=>k it (by simp) o e
 item:=by
  intro X hP hw hK hc i j s σ H E I O st hg;subst hP hw hK;obtain⟨xs,x,L,hx⟩:=hg;obtain⟨xa,Z,p,hz⟩:=I.list L;obtain⟨u,hu,ru⟩:=Z.get hx;obtain⟨f0,Y,f2,f3,f4,f5⟩:=O it (by simp)
  refine Yf2 st p.isList (x:=u) (by simpa using hu) λJ F sb=>?_
  have I1:Inv X j σ H { s with heap:=J }:=I.turned (t':=s.toks) (λb o y e=>(sb.2 b y).trans e) f0 Y f3 f4 f5
  obtain⟨o,e,c,d⟩:=id F;exact⟨u,rfl,jmk (s:={ s with heap:=J }) e c d (by decide) ⟨x,H,I1,ru,⟨rfl,λys hy=>by rw[I.list_inj hy L];exact hx⟩,F,λb y=>(O b y).1⟩⟩
 done:=by
  intro X hP hw hK hc i j s σ H E I O st hg;subst hP hw hK;obtain⟨xs,L,hx⟩:=hg;obtain⟨xa,Z,p,hz⟩:=I.list L;obtain⟨f0,Y,f2,f3,f4,f5⟩:=O it (by simp)
  have hl:=Z.length;exact Ygf (I.ok.hd hc) st p.isList (by simp;lia) λJ eb=>⟨rfl,I.turned (t':=s.toks) (λb o y e=>eb b o y e) f0 Y f3 f4 f5⟩
 self:=λ_ _ _ _ _ st h=>wpAny_pyIter_listiter st h
def jho    {K:Yae} a it:Turn P w K tg (Itt K a) [it] it (λi h=>h.IsTupleIter it a i) where
 mem:=by simp
 obj:=λi h st b y=>by
  have e:b=it:=by simpa using y
  subst e;obtain⟨o,e,c,d⟩:=st;exact⟨o,e,λv z=>by rw[d]at z;cases z⟩
 keep:=λi h L st k=>st.at λo e=>k it (by simp) o e
 item:=by
  intro X hP hw hK hc i j s σ H E I Y st hg;subst hP hw hK;obtain⟨xs,x,O,hx⟩:=hg;obtain⟨F,rv,p,hz⟩:=I.tuple O;obtain⟨u,hu,ru⟩:=rv.get hx;obtain⟨f0,Z,f2,f3,f4,f5⟩:=Y it (by simp)
  refine wpAny_pyNext_tuple_item st (show s.heap.IsTuple a F.toArray from p) (x:=u) (by simpa using hu) λL J sb=>?_
  have I1:Inv X j σ H { s with heap:=L }:=I.turned (t':=s.toks) (λb o y e=>(sb.2 b y).trans e) f0 Z f3 f4 f5
  obtain⟨o,e,c,d⟩:=id J;exact⟨u,rfl,jmk (s:={ s with heap:=L }) e c d (by decide) ⟨x,H,I1,ru,⟨rfl,λys hy=>by rw[I.tuple_inj hy O];exact hx⟩,J,λb y=>(Y b y).1⟩⟩
 done:=by
  intro X hP hw hK hc i j s σ H E I Y st hg;subst hP hw hK;obtain⟨xs,O,hx⟩:=hg;obtain⟨F,rv,p,hz⟩:=I.tuple O;obtain⟨f0,Z,f2,f3,f4,f5⟩:=Y it (by simp)
  have hl:=rv.length;exact wpAny_pyNext_tuple_end (I.ok.hd hc) st (show s.heap.IsTuple a F.toArray from p) (by simp;lia) λL eb=>⟨rfl,I.turned (t':=s.toks) (λb o y e=>eb b o y e) f0 Z f3 f4 f5⟩
 self:=λ_ _ _ _ _ st h=>wpAny_pyIter_tupleiter st h
def jhp    {K:Yae} it lo n:Turn P w K tg (Itr lo n) [it] it (λi h=>IsRangeIter h it (lo+(i:Nat)*1) ((n:Int)-(i:Nat)) 1) where
 mem:=by simp
 obj:=λi h st b y=>by
  have e:b=it:=by simpa using y
  subst e;exact⟨_,st,λv z=>by
   have z':Data.fields _=Data.cell v:=z;cases z'⟩
 keep:=λi h J st k=>k it (by simp) _ st
 item:=by
  intro X hP hw Y hc i j s σ H E I L st hg;subst hP hw Y;obtain⟨Z,O,f2,f3,f4,f5⟩:=L it (by simp)
  have W:=Walks.range (prog:=X.prog) (w:=X.w) (I.ok.hd hc) it lo 1 n;refine W.item i s _ _ hg st λv J tk hv F kk=>?_;obtain⟨t,rfl⟩:=hv;have I1:Inv X j σ H { s with heap:=J,toks:=tk }:=I.turned (λb o y e=>kk b o (by simpa using y) e) Z O f3 f4 f5
  refine⟨_,rfl,jmk (s:={ s with heap:=J,toks:=tk }) (n := "range_iterator") F rfl rfl (by decide) ⟨.int (lo+i),H,I1,⟨t,?_⟩,⟨rfl,rfl⟩,F,λb y=>(L b y).1⟩⟩
  rw[Int.mul_one]
 done:=by
  intro X hP hw Y hc i j s σ H E I L st hg;subst hP hw Y;obtain⟨Z,O,f2,f3,f4,f5⟩:=L it (by simp)
  exact wpAny_pyNext_range_end (I.ok.hd hc) st (by have:n<=i:=hg;lia) λJ eb=>⟨rfl,I.turned (t':=s.toks) (λb o y e=>eb b o y e) Z O f3 f4 f5⟩
 self:=λ_ _ _ _ _ st h=>wpAny_pyIter_rangeiter st h
section
variable {X:Cx}{tg:Expr}
def jjz   {y:St}{lo hi:Int}(I:Inv X pins y H s)(Z:-(2 ^ 62)<=lo)(Y:lo<2 ^ 62)(J:-(2 ^ 62)<=hi)(L:hi<2 ^ 62)
  (q:R (Itr lo (hi-lo).toNat) H):wpAny (model X.prog X.w) X.A (pyIter (.ref s.heap.objs.size)) (PIE X pins y tg R) E { s with heap:=s.heap.push { cls:=.type "range",data:=.fields #[.int lo t,.int hi u,.int 1 v] },toks:=tk }:=by
 refine wpAny_pyIter_range (IsRange.new ..) (small_one Z Y J L) ?_;have j:Inv X pins y H { s with heap:=s.heap.push { cls:=.type "range",data:=.fields #[.int lo t,.int hi u,.int 1 v] },toks:=tk }:=I.kept λb o e=>Yad _ e
 refine⟨(s.heap.push { cls:=.type "range",data:=.fields #[.int lo t,.int hi u,.int 1 v] }).objs.size,[(s.heap.push { cls:=.type "range",data:=.fields #[.int lo t,.int hi u,.int 1 v] }).objs.size],_,_,H,rfl,
  j.kept (t':=tk) λb o e=>Yad _ e,jhp _ lo (hi-lo).toNat,?_,λb O=>?_,q⟩
 ·have F:lo+((0:Nat):Int)*1=lo:=by simp
  have z:(((hi-lo).toNat:Nat):Int)-((0:Nat):Int)=Yd0 lo hi 1:=by rw[rangeSize_one];split<;>lia
  show IsRangeIter _ _ (lo+((0:Nat):Int)*1) ((((hi-lo).toNat:Nat):Int)-((0:Nat):Int)) 1;rw[F,z];exact Yay _ rfl
 ·have e:b=(s.heap.push { cls:=.type "range",data:=.fields #[.int lo t,.int hi u,.int 1 v] }).objs.size:=by simpa using O
  subst e;exact j.fpOk (Yac _) (j.hok.fresh (Yac _))
def jpP  (z:TA):TI:=λF H R=>z F H λy H1=>∃j:Int,y=[.int j]/\-(2 ^ 62)<=j/\j<2 ^ 62/\R (Itr 0 j.toNat) H1
def jih {a:Expr}{z:TA}{p pos:Pos}(J:Gl X "range")(L:X.mg "range" = none)(Y:PA X [a] z)(hs:YaC [a] X.env=[(false,eval a X.env)]:=by rfl):PI X tg (.Call (.Name "range" p) [a] [] pos) (jpP z):=by
 intro y s O H R I h;refine Call_ (jdU I J L boot_range (Ybq (thn (Y pos y s O H _ I h) λus s1 ⟨Z,H1,F,r1,q1⟩=>?_) hs rfl));obtain⟨j,e,q1,q2,q⟩:=q1;subst e;cases r1 with
 |cons r rr=>
  cases rr;obtain⟨t,rfl⟩:=r;exact call_range_1 (jjz F (by lia) (by lia) q1 q2 (by simpa using q))
def tFor  (L:TI)(g:TG)(tb:TS):TS:=λD j H=>L j H λJ H1=>∃W:Nat->Nat->St->Hp->Prop,(∃m,W 0 m j H1)/\∀i m j H,W i m j H->
 (J.stop i H/\D.nx j H)\/(J.go i H/\∃N:St->Hp->Prop,(∀z y,N z y->∃I,I<m/\W (i+1) I z y)/\∀x y,J.yld i H x y->g x j y λF H2=>tb { D with nx:=N,ct:=N,bk:=D.nx } F H2)
noncomputable def jfh  (j:List Addr)(h:Heap):List (Addr×Obj):=j.filterMap λb=>(h.get? b).map λo=>(b,o)
def jcf      (j:b∈y)(e:h.get? b=some o):(b,o)∈jfh y h:=List.mem_filterMap.mpr ⟨b,j,by rw[e];rfl⟩
def jit     (z:p∈jfh y h):p.1∈y/\h.get? p.1=some p.2:=by
 obtain⟨b,F,e⟩:=List.mem_filterMap.mp z;cases q:h.get? b with
 |none=>rw[q]at e;cases e
 |some o=>
  rw[q]at e;have j:(b,o)=p:=Yaw e;subst j;exact⟨F,q⟩
def Inv.pinned   {J:St}(I:Inv X pins J H s)(L:∀b∈y,FpOk X pins H b)(Z:∀b∈y,∃o,s.heap.get? b=some o/\∀v,o.data≠.cell v):Inv X (pins++jfh y s.heap) J H s:=
 I.pins_of λp O=>(List.mem_append.mp O).elim (λz=>I.pin p (YaS _ z)) λz=>by
  obtain⟨F,e⟩:=jit z;obtain⟨f0,Y,f2,_⟩:=L p.1 F;obtain⟨o,j,d⟩:=Z p.1 F;rw[e]at j;cases j;exact⟨e,f0,Y,f2,d⟩
def Inv.unpinned   {j:St}(I:Inv X (pins++pl) j H s):Inv X pins j H s:=I.pins_of λp y=>I.pin p (YaS _ (YbK _ y))
def jnl {F:Expr}{body:List Stmt}{wi:TI}{g:TG}{tb:TS}{pos:Pos}(hp:Ydj (model X.prog X.w) X.A X.env X.xe)(hc:X.calm=true)(hi:PI X tg F wi)(hg:PG X tg g)(Y:PSs X body tb)
  (hs:∀x,Yaz F X.env x=pure x:=by intro _;rfl):PS X (.For tg F body [] pos) (tFor wi g tb):=by
 intro y s σ H D I h;refine wpAny_For (thn (hi y s σ H _ I h) λv s1 h1=>thn h1 λka s2 h2=>?_) hs;obtain⟨it,fp,tn,J,H2,e,I2,T,st2,f2,W,⟨m0,w0⟩,za⟩:=h2;subst e;have z:∀{H':Hp},(∀b∈fp,H' b=none)->∀b∈fp,FpOk X y H' b:=λhn b Y=>⟨hn b Y,(f2 b Y).2⟩;refine codeAny_forLoop_any (λn s'=>∃i L H',Inv X y L H' s'/\tn i s'.heap/\(∀b∈fp,H' b=none)/\W i n L H') ?_ m0 ⟨0,σ,H2,I2,st2,λb Y=>(f2 b Y).1,w0⟩;rintro n s3 ⟨i,σ3,H3,I3,st3,fr3,w3⟩;rcases za i n σ3 H3 w3 with⟨ja,qn⟩|⟨go,N,hN,step⟩
 ·refine Ycm hp (thn (T.done X rfl rfl rfl hc i y s3 σ3 H3 X.xe I3 (z fr3) st3 ja) λr s4 ⟨hr,I4⟩=>?_);subst hr;exact YcV ⟨σ3,H3,I4,qn⟩
 ·refine Ycm hp (thn (T.item X rfl rfl rfl hc i y s3 σ3 H3 X.xe I3 (z fr3) st3 go) λr s4 ⟨u,hr,h4⟩=>?_);subst hr;refine Ycm hp (thn h4 λ_ s5 ⟨x,H5,I5,r5,y5,xa,wa⟩=>?_);have ya:=I5.pinned (z wa) (T.obj _ _ xa);refine Ycm hp (thn (hg _ s5 σ3 H5 x u _ ya r5 (step x H5 y5)) λ_ s6 ⟨va,H6,I6,q6⟩=>?_);refine Ycm hp (thn (Y _ s6 va H6 _ I6 q6) λf s7 q7=>?_);have O:∀{j:St} {Z:Hp},Inv X (y++jfh fp s5.heap) j Z s7->N j Z->∃m,m<n/\∃i L H',Inv X y L H' s7/\tn i s7.heap/\(∀b∈fp,H' b=none)/\W i m L H':=λ{j Z} I7 n7=>by
   obtain⟨m',hm,w7⟩:=hN j Z n7;refine⟨m',hm,i+1,j,Z,I7.unpinned,T.keep _ _ _ xa λb Y o e=>(I7.pin (b,o) (YaS _ (YaS _ (jcf Y e)))).1,λb Y=>?_,w7⟩;obtain⟨o,e,d⟩:=T.obj _ _ xa b Y;exact(I7.pin (b,o) (YaS _ (YaS _ (jcf Y e)))).2.1
  cases f with
  |next=>obtain⟨j,Z,I7,n7⟩:=q7;exact O I7 n7
  |cont=>obtain⟨j,Z,I7,n7⟩:=q7;exact O I7 n7
  |brk=>obtain⟨j,Z,I7,q7⟩:=q7;exact⟨j,Z,I7.unpinned,q7⟩
  |ret v=>obtain⟨x7,j,Z,I7,r7,q7⟩:=q7;exact⟨x7,j,Z,I7.unpinned,r7,q7⟩
end


abbrev R2:=V->V->Hp->VK->Prop
def OpR  (X:Cx)(f:Value->Value->Sem Value)(r:R2):Prop:=
 ∀(j:List (Addr×Obj)) (s:Shared) (σ:St) (H:Hp) (x y:V) (v u:Value) (Q:VK),Inv X j σ H s->RelV x v->RelV y u->r x y H Q->
  wpAny (model X.prog X.w) X.A (f v u) (EP X j σ Q) X.xe s
def UnR  (X:Cx)(f:Value->Sem Value)(r:V->Hp->VK->Prop):Prop:=
 ∀(j:List (Addr×Obj)) (s:Shared) (σ:St) (H:Hp) (x:V) (v:Value) (Q:VK),Inv X j σ H s->RelV x v->r x H Q->
  wpAny (model X.prog X.w) X.A (f v) (EP X j σ Q) X.xe s
def jaW  (X:Cx)(f:Value)(r:List V->Hp->VK->Prop):Prop:=
 ∀(j:List (Addr×Obj)) (s:Shared) (σ:St) (H:Hp) (xs:List V) (us:List Value) (Q:VK),Inv X j σ H s->Vals xs us->r xs H Q->
  wpAny (model X.prog X.w) X.A (call f us) (EP X j σ Q) X.xe s
def TruR  (X:Cx)(r:V->Hp->(Bool->Hp->Prop)->Prop):Prop:=
 ∀(j:List (Addr×Obj)) (s:Shared) (σ:St) (H:Hp) (x:V) (v:Value) (Q:Bool->Hp->Prop),Inv X j σ H s->RelV x v->r x H Q->
  wpAny (model X.prog X.w) X.A (truthy v) (TP X j σ Q) X.xe s

def tOp  (r:R2)(z tb:TE):TE:=λj H Q=>z j H λx H1=>tb j H1 λy H2=>r x y H2 Q
def tUn  (r:V->Hp->VK->Prop)(j:TE):TE:=λy H Q=>j y H λx H1=>r x H1 Q
def rI  (C:Int->Int->Prop)(g:Int->Int->V):R2:=λx y H Q=>∃i j,x=.int i/\y=.int j/\C i j/\Q (g i j) H
def rI0  (g:Int->Int->V):R2:=λx y H Q=>∃i j,x=.int i/\y=.int j/\Q (g i j) H
def rU  (g:Int->V):V->Hp->VK->Prop:=λx H Q=>∃i,x=.int i/\Q (g i) H


def binT  (Y:PE X a ta)(Z:PE X b tb){j:St}{R:V->V->Hp->Prop}(I:Inv X pins j H s)
  (h:ta j H λx H1=>tb j H1 λy H2=>R x y H2) {f:Value->Value->Sem Value}
  (L:∀v u s2 x y H2,Inv X pins j H2 s2->RelV x v->RelV y u->R x y H2->wpAny (model X.prog X.w) X.A (f v u) Q X.xe s2) :
  wpAny (model X.prog X.w) X.A (eval a X.env) (λv F=>wpAny (model X.prog X.w) X.A (eval b X.env) (λu z=>wpAny (model X.prog X.w) X.A (f v u) Q X.xe z) X.xe F) X.xe s:=by
 refine thn (Y pins s j H _ I h) λv s1 ⟨x,H1,J,r1,q1⟩=>?_;refine thn (Z pins s1 j H1 _ J q1) λu s2 ⟨y,H2,O,r2,q2⟩=>?_;exact L v u s2 x y H2 O r1 r2 q2

def jpA    (F:OpR X (Ybp op) r)(Z:PE X a ta)(L:PE X b tb):PE X (.BinOp a op b pos) (tOp r ta tb):=by
 intro j s Y H Q I h;exact wpAny_BinOp (binT Z L I h λv u s2 x y H2 z O J q=>F j s2 Y H2 x y v u Q z O J q)
def jpy    (F:UnR X (unaryOp op) r)(J:PE X a ta):PE X (.UnaryOp op a pos) (tUn r ta):=by
 intro j s y H Q I h;exact UnaryOp_ (thn (J j s y H _ I h) λv s1 ⟨x,H1,z,r1,q1⟩=>F j s1 y H1 x v Q z r1 q1)
def opI    {g:Int->Int->Int}
  (z:∀i j t u (s:Shared) Q E ,C i j->Q (.int (g i j) s.toks) { s with toks:=s.toks+1 }->wpAny (model X.prog X.w) X.A (f (.int i t) (.int j u)) Q E s) :
  OpR X f (rI C λi j=>.int (g i j)):=by
 intro F s Z H x y v u Q I O L h;obtain⟨i,j,rfl,rfl,Y,q⟩:=h;obtain⟨t,rfl⟩:=O;obtain⟨J,rfl⟩:=L;exact z i j t J s _ _ Y ⟨.int (g i j),H,I.tok _,⟨_,rfl⟩,q⟩
def opI0   {g:Int->Int->Int}
  (z:∀i j t u (s:Shared) Q E ,Q (.int (g i j) s.toks) { s with toks:=s.toks+1 }->wpAny (model X.prog X.w) X.A (f (.int i t) (.int j u)) Q E s) :
  OpR X f (rI0 λi j=>.int (g i j)):=by
 intro F s Y H x y v u Q I O L h;obtain⟨i,j,rfl,rfl,q⟩:=h;obtain⟨t,rfl⟩:=O;obtain⟨J,rfl⟩:=L;exact z i j t J s _ _ ⟨.int (g i j),H,I.tok _,⟨_,rfl⟩,q⟩
def opB0   {g:Int->Int->Bool}
  (z:∀i j t u s Q E ,Q (.bool (g i j)) s->wpAny (model X.prog X.w) X.A (f (.int i t) (.int j u)) Q E s) :
  OpR X f (rI0 λi j=>.bl (g i j)):=by
 intro F s Y H x y v u Q I O L h;obtain⟨i,j,rfl,rfl,q⟩:=h;obtain⟨t,rfl⟩:=O;obtain⟨J,rfl⟩:=L;exact z i j t J s _ _ ⟨.bl (g i j),H,I,rfl,q⟩

def CDiv  (i j:Int):Prop:=0<j/\j<1073741824
def CPow  (i j:Int):Prop:=0<=j/\j<=1000000/\i.natAbs<2 ^ 64
def CMul  (i j:Int):Prop:=(-(2 ^ 64)<i/\i<2 ^ 64)\/(-(2 ^ 64)<j/\j<2 ^ 64)
def CMul.ok   (h:CMul i j):IntMulOk i j:=by
 rcases h with⟨z,y⟩|⟨z,y⟩
 ·exact .of_left (intBits_le_64 z y)
 ·exact .of_right (intBits_le_64 z y)
def jnP  : OpR X (Ybp .Add) (rI0 λi j=>.int (i+j)):=opI0 λ_ _ _ _ _ _ _ q=>add_int q
def jnF  : OpR X (Ybp .Sub) (rI0 λi j=>.int (i-j)):=opI0 λ_ _ _ _ _ _ _ q=>sub_int q
def jnJ  : OpR X (Ybp .Mult) (rI CMul λi j=>.int (i*j)):=opI λ_ _ _ _ _ _ _ y q=>mul_int q y.ok
def jlR  : OpR X (Ybp .FloorDiv) (rI CDiv λi j=>.int (i/j)):=opI λi j _ _ _ _ _ y q=>by
 have F:(0:Int)<j:=y.1;have z:j<1073741824:=y.2;exact floordiv_int (by lia) (by rw[Int.fdiv_eq_ediv_of_nonneg i (by lia)];exact q) (.inl (PyProof.noPylong_small (by lia)))
def jnK  : OpR X (Ybp .Mod) (rI (λ_ j=>0<j) λi j=>.int (i%j)):=opI λi j _ _ _ _ _ y q=>by
 have z:(0:Int)<j:=y;exact mod_int' (by lia) (by rw[Int.fmod_eq_emod_of_nonneg i (by lia)];exact q)
def jnH  : OpR X (Ybp .Pow) (rI CPow λi j=>.int (i ^ j.toNat)):=opI λ_ _ _ _ _ _ _ y q=>pow_int_small y.1 y.2.1 y.2.2 q
def jmg  : OpR X (Yej .Add) (rI0 λi j=>.int (i+j)):=opI0 λ_ _ _ _ _ _ _ q=>iadd_int q
def jme  : OpR X (Yej .Sub) (rI0 λi j=>.int (i-j)):=opI0 λ_ _ _ _ _ _ _ q=>isub_int q
def jmf  : OpR X (Yej .Mult) (rI CMul λi j=>.int (i*j)):=opI λ_ _ _ _ _ _ _ y q=>imul_int q y.ok
def unI   {g:Int->Int}
  (j:∀i t (s:Shared) Q E ,Q (.int (g i) s.toks) { s with toks:=s.toks+1 }->wpAny (model X.prog X.w) X.A (f (.int i t)) Q E s) :
  UnR X f (rU λi=>.int (g i)):=by
 intro y s F H x v Q I z h;obtain⟨i,rfl,q⟩:=h;obtain⟨t,rfl⟩:=z;exact j i t s _ _ ⟨.int (g i),H,I.tok _,⟨_,rfl⟩,q⟩
def jmz  : UnR X (unaryOp .USub) (rU λi=>.int (-i)):=unI λ_ _ _ _ _ q=>neg_int q

noncomputable def scal  : V->V->Bool
 |.non,.non=>true|.non,.int _=>true|.int _,.non=>true|.non,.bl _=>true|.bl _,.non=>true|.non,.str _=>true|.str _,.non=>true
 |.int _,.int _=>true|.bl _,.bl _=>true|.str _,.str _=>true|.byt _,.byt _=>true
 |.int _,.str _=>true|.str _,.int _=>true|.bl _,.str _=>true|.str _,.bl _=>true
 |_,_=>false
def rEq  : R2:=λx y H Q=>scal x y=true/\Q (.bl (decide (x=y))) H
def rNe  : R2:=λx y H Q=>scal x y=true/\Q (.bl (!decide (x=y))) H

def ji1   : decide (V.int i=V.int j)=(i==j):=by
 rw[YbL];simp
def jk1   : decide (V.bl i=V.bl j)=(i==j):=by
 rw[YbL];simp
def ji0   : decide (V.str i=V.str j)=(i==j):=by
 rw[YbL];simp
def ji2   : decide (V.byt i=V.byt j)=(i.toList==j.toList):=by
 rw[YbL];cases i;cases j;simp

section
variable {X:Cx}{a b c:Expr}{ta tb tc:TE}{pos:Pos}
def jaq   {j:St}(I:Inv X pins j H s)(q:Q (.bl k) H)(e:k=k'):EP X pins j Q (.bool k') s:=by
 subst e;exact⟨.bl k,H,I,rfl,q⟩
def jpI  : OpR X (YaX .Eq) rEq:=by
 intro O s Y H x y v u Q I L z h;obtain⟨J,q⟩:=h;cases x with
 |non=>
  cases L;cases y with
  |non=>cases z;exact PySem.EqNone.eq_none_none (jaq I q (by simp))
  |bl j=>cases z;exact PySem.EqNone.eq_none_bool (jaq I q (by simp))
  |int j=>obtain⟨F,rfl⟩:=z;exact PySem.EqNone.eq_none_int (jaq I q (by simp))
  |str j=>obtain⟨F,rfl⟩:=z;exact PySem.EqNone.eq_none_str (jaq I q (by simp))
  |_=>exact absurd (show false=true from J) Yal
 |bl i=>
  cases L;cases y with
  |non=>cases z;exact PySem.EqNone.eq_bool_none (jaq I q (by simp))
  |bl j=>cases z;exact eq_bool (jaq I q jk1)
  |str j=>obtain⟨F,rfl⟩:=z;exact PySem.EqMixed.eq_bool_str (jaq I q (by simp))
  |_=>exact absurd (show false=true from J) Yal
 |int i=>
  obtain⟨t,rfl⟩:=L;cases y with
  |non=>cases z;exact PySem.EqNone.eq_int_none (jaq I q (by simp))
  |int j=>obtain⟨F,rfl⟩:=z;exact eq_int (jaq I q ji1)
  |str j=>obtain⟨F,rfl⟩:=z;exact PySem.EqMixed.eq_int_str (jaq I q (by simp))
  |_=>exact absurd (show false=true from J) Yal
 |str i=>
  obtain⟨t,rfl⟩:=L;cases y with
  |non=>cases z;exact PySem.EqNone.eq_str_none (jaq I q (by simp))
  |bl j=>cases z;exact PySem.EqMixed.eq_str_bool (jaq I q (by simp))
  |int j=>obtain⟨F,rfl⟩:=z;exact PySem.EqMixed.eq_str_int (jaq I q (by simp))
  |str j=>obtain⟨F,rfl⟩:=z;exact eq_str (jaq I q ji0)
  |_=>exact absurd (show false=true from J) Yal
 |byt i=>
  obtain⟨t,rfl⟩:=L;cases y with
  |byt j=>obtain⟨F,rfl⟩:=z;exact PySem.W.eq_bytes (jaq I q ji2)
  |_=>exact absurd (show false=true from J) Yal
 |_=>cases y<;>exact absurd (show false=true from J) Yal
def jpD  : OpR X (YaX .NotEq) rNe:=by
 intro O s Y H x y v u Q I L z h;obtain⟨J,q⟩:=h;cases x with
 |non=>
  cases L;cases y with
  |non=>cases z;exact PySem.EqNone.ne_none_none (jaq I q (by simp))
  |bl j=>cases z;exact PySem.EqNone.ne_none_bool (jaq I q (by simp))
  |int j=>obtain⟨F,rfl⟩:=z;exact PySem.EqNone.ne_none_int (jaq I q (by simp))
  |str j=>obtain⟨F,rfl⟩:=z;exact PySem.EqNone.ne_none_str (jaq I q (by simp))
  |_=>exact absurd (show false=true from J) Yal
 |bl i=>
  cases L;cases y with
  |non=>cases z;exact PySem.EqNone.ne_bool_none (jaq I q (by simp))
  |bl j=>cases z;exact ne_bool (jaq I q (congrArg not jk1))
  |str j=>obtain⟨F,rfl⟩:=z;exact PySem.EqMixed.ne_bool_str (jaq I q (by simp))
  |_=>exact absurd (show false=true from J) Yal
 |int i=>
  obtain⟨t,rfl⟩:=L;cases y with
  |non=>cases z;exact PySem.EqNone.ne_int_none (jaq I q (by simp))
  |int j=>obtain⟨F,rfl⟩:=z;exact ne_int (jaq I q (congrArg not ji1))
  |str j=>obtain⟨F,rfl⟩:=z;exact PySem.EqMixed.ne_int_str (jaq I q (by simp))
  |_=>exact absurd (show false=true from J) Yal
 |str i=>
  obtain⟨t,rfl⟩:=L;cases y with
  |non=>cases z;exact PySem.EqNone.ne_str_none (jaq I q (by simp))
  |bl j=>cases z;exact PySem.EqMixed.ne_str_bool (jaq I q (by simp))
  |int j=>obtain⟨F,rfl⟩:=z;exact PySem.EqMixed.ne_str_int (jaq I q (by simp))
  |str j=>obtain⟨F,rfl⟩:=z;exact ne_str (jaq I q (congrArg not ji0))
  |_=>exact absurd (show false=true from J) Yal
 |byt i=>
  obtain⟨t,rfl⟩:=L;cases y with
  |byt j=>obtain⟨F,rfl⟩:=z;exact PySem.W.ne_bytes (jaq I q (congrArg not ji2))
  |_=>exact absurd (show false=true from J) Yal
 |_=>cases y<;>exact absurd (show false=true from J) Yal

def jpE  : OpR X (YaX .Lt) (rI0 λi j=>.bl (decide (i<j))):=opB0 λ_ _ _ _ _ _ _ q=>lt_int q
def jpF  : OpR X (YaX .LtE) (rI0 λi j=>.bl (decide (i<=j))):=opB0 λ_ _ _ _ _ _ _ q=>le_int q
def jpG  : OpR X (YaX .Gt) (rI0 λi j=>.bl (decide (j<i))):=opB0 λ_ _ _ _ _ _ _ q=>gt_int q
def jpH  : OpR X (YaX .GtE) (rI0 λi j=>.bl (decide (j<=i))):=opB0 λ_ _ _ _ _ _ _ q=>ge_int q
def jin  : OpR X (YaX .In) (λx y H Q=>∃i j,x=.str i/\y=.str j/\Q (.bl (!(Ycp j i 0 j.length 1).isEmpty)) H):=by
 intro z s O H x y v u Q I J F h;obtain⟨i,j,rfl,rfl,q⟩:=h;obtain⟨t,rfl⟩:=J;obtain⟨L,rfl⟩:=F;exact in_str (jaq I q rfl)

def jfj  : OpR X (YaX .NotIn) (λx y H Q=>∃i j,x=.str i/\y=.str j/\Q (.bl (!(!(Ycp j i 0 j.length 1).isEmpty))) H):=by
 intro z s O H x y v u Q I J F h;obtain⟨i,j,rfl,rfl,q⟩:=h;obtain⟨t,rfl⟩:=J;obtain⟨L,rfl⟩:=F;exact notIn_str (jaq I q rfl)
def OpR.or    (h:OpR X f r)(h':OpR X f r'):OpR X f (λx y H Q=>r x y H Q\/r' x y H Q):=by
 intro j s J H x y v u Q I z F q;rcases q with q|q
 ·exact h j s J H x y v u Q I z F q
 ·exact h' j s J H x y v u Q I z F q

def jlM    (J:OpR X (YaX op) r)(ha:PE X a ta)(O:PE X b tb)(F:Yek op b=false):PE X (.Compare a [op] [b] pos) (tOp r ta tb):=by
 intro j s Z H Q I h;exact wpAny_Compare1 (binT ha O I h λv u s2 x y H2 z Y L q=>J j s2 Z H2 x y v u Q z Y L q) F
def jmO  (t:TE):TT:=λy H Q=>t y H λx j=>∃k,x=.bl k/\Q k j
def jlx    (Z:OpR X (YaX op) r)(ha:PE X a ta)(hb:PE X b tb)(O:Yek op b=false):PT X (.Compare a [op] [b] pos) (jmO (tOp r ta tb)):=by
 intro j s F H Q I h;refine wpAny_isTrue_Compare1 (thn (ha j s F H _ I h) λv s1 ⟨x,H1,J,r1,q1⟩=>thn (hb j s1 F H1 _ J q1) λu s2 ⟨y,H2,Y,r2,q2⟩=>
  thn (Z j s2 F H2 x y v u _ Y r1 r2 q2) λc s3 ⟨z,L,I3,r3,k,e,q3⟩=>?_) O
 subst e;cases r3;exact Ybd ⟨L,I3,q3⟩
def jkt  (r L:R2)(O tb J:TE):TE:=λj H Q=>O j H λx H1=>tb j H1 λy H2=>r x y H2 λz F=>∃k,z=.bl k/\
 (if k=true then J j F λY I=>L y Y I Q else Q (.bl false) F)
section
variable {op op':CmpOp}{r r':R2}
def jjO (ho:OpR X (YaX op) r)(J:OpR X (YaX op') r')(ha:PE X a ta)(hb:PE X b tb)(hc:PE X c tc)
  (hm:Ygi [op,op'] [b,c]=false:=by with_unfolding_all rfl):PE X (.Compare a [op,op'] [b,c] pos) (jkt r r' ta tb tc):=by
 intro j s F H Q I h;refine Compare_chain (thn (ha j s F H _ I h) λv s1 ⟨x,H1,Y,r1,q1⟩=>chain_link (thn (hb j s1 F H1 _ Y q1) λu s2 ⟨y,H2,I2,r2,q2⟩=>
  thn (ho j s2 F H2 x y v u _ I2 r1 r2 q2) λd s3 ⟨z,L,O,r3,k,e,q3⟩=>?_)) hm
 subst e;cases r3;refine Ybd ?_;cases k with
 |false=>exact ite_ff ⟨.bl false,L,O,rfl,q3⟩
 |true=>exact ite_tt (chain_last (thn (hc j s3 F L _ O q3) λw' s4 ⟨z',Z,I4,r4,q4⟩=>J j s4 F Z y z' u w' Q I4 r2 r4 q4))
def jjD (ho:OpR X (YaX op) r)(J:OpR X (YaX op') r')(ha:PE X a ta)(hb:PE X b tb)(hc:PE X c tc)
  (hm:Ygi [op,op'] [b,c]=false:=by with_unfolding_all rfl):PT X (.Compare a [op,op'] [b,c] pos) (jmO (jkt r r' ta tb tc)):=by
 intro j s F H Q I h;refine isTrue_chain (thn (ha j s F H _ I h) λv s1 ⟨x,H1,Y,r1,q1⟩=>test_link (thn (hb j s1 F H1 _ Y q1) λu s2 ⟨y,H2,I2,r2,q2⟩=>
  thn (ho j s2 F H2 x y v u _ I2 r1 r2 q2) λd s3 ⟨z,L,O,r3,k,e,q3⟩=>?_)) hm
 subst e;cases r3;refine Ybd ?_;cases k with
 |false=>
  obtain⟨k',Z,q'⟩:=q3;cases Z;exact ite_ff ⟨L,O,q'⟩
 |true=>
  refine ite_tt (test_last (thn (hc j s3 F L _ O q3) λw' s4 ⟨z',H4,I4,r4,q4⟩=>thn (J j s4 F H4 y z' u w' _ I4 r2 r4 q4) λd' s5 ⟨z2,H5,I5,r5,k2,e2,q5⟩=>?_));subst e2;cases r5;exact Ybd ⟨H5,I5,q5⟩

end
def TruV  (K:Yae)(x:V)(H:Hp)(k:Bool):Prop:=
 match x with
 |.non=>k=false
 |.bl b=>k=b
 |.int i=>k=(i != 0)
 |.str y=>y.length<=Yai/\k=((y.length:Int) != 0)
 |.byt y=>y.size<=Yai/\k=((y.size:Int) != 0)
 |.ref p=>(∃j,SqL K H p j/\k = !j.isEmpty)\/(∃j,SqT K H p j/\k = !j.isEmpty)\/∃z,H p=some (.dK z)/\k = !z.isEmpty
 |_=>False
def jhD     (r:KV kvs vs):(!vs.isEmpty) = !kvs.isEmpty:=by
 cases r<;>rfl
def jer    (r:Vals xs j):(!j.toArray.isEmpty) = !xs.isEmpty:=by
 cases r<;>simp
def jeo  : (Yai:Nat)<2 ^ 63:=by rw[YbV];decide
def jgJ  : TruR X (λx H Q=>∃k,TruV X.K x H k/\Q k H):=by
 intro za s σ H x v Q I L h;obtain⟨k,e,q⟩:=h;have hl:=jeo;have hs:Yai=16777216:=YbV;cases x with
 |non=>
  cases L;have j:k=false:=e;subst j;exact truthy_none ⟨H,I,q⟩
 |bl b=>
  cases L;have j:k=b:=e;subst j;exact Ybd ⟨H,I,q⟩
 |int i=>
  obtain⟨t,rfl⟩:=L;have j:k=(i != 0):=e;subst j;exact PySem.P.truthy_int ⟨H,I,q⟩
 |str y=>
  obtain⟨t,rfl⟩:=L;obtain⟨hy,j⟩:y.length<=Yai/\k=((y.length:Int) != 0):=e;subst j;exact PySem.P.truthy_str (by lia) ⟨H,I.tok _,q⟩
 |byt y=>
  obtain⟨t,rfl⟩:=L;obtain⟨hy,j⟩:y.size<=Yai/\k=((y.size:Int) != 0):=e;subst j;exact PySem.W.truthy_bytes (by lia) ⟨H,I.tok _,q⟩
 |ref p=>
  cases L;have j:(∃J,SqL X.K H p J/\k = !J.isEmpty)\/(∃J,SqT X.K H p J/\k = !J.isEmpty)\/∃z,H p=some (.dK z)/\k = !z.isEmpty:=e;rcases j with⟨J,O,j⟩|⟨J,O,j⟩|⟨z,O,j⟩
  ·subst j;obtain⟨xa,r,Z,hz⟩:=I.list O;have F:=r.length;exact wpAny_truthy_list Z.isList (by simp only[Yao];lia) ⟨H,I.tok _,by rw[jer r];exact q⟩
  ·subst j;obtain⟨xa,r,Z,hz⟩:=I.tuple O;have F:=r.length;exact truthy_tuple Z (by simp only[Yao];lia) ⟨H,I.tok _,by rw[jer r];exact q⟩
  ·subst j;obtain⟨hz,hS,Y,r,m⟩:z.length<=Yai/\(p==Ya6)=false/\∃Y,KV z Y/\s.heap.DictOf (jam X.prog X.w) p Y:=I.hok p _ O;have F:z.length=Y.length:=Yc2 r;exact wpAny_truthy_dict hS m (by lia) ⟨H,I.tok _,by rw[jhD r];exact q⟩
 |_=>exact(show False from e).elim
def jjC  (O:PE X a ta)(L:∀j,isTrue a X.env j=(do let v <- j;standAt a.pos;holding [v] (truthy v))) :
  PT X a (λz H Q=>ta z H λx F=>∃k,TruV X.K x F k/\Q k F):=by
 intro y s z H Q I h;exact isTrue_plain (thn (O y s z H _ I h) λv s1 ⟨x,H1,J,r1,q1⟩=>jgJ y s1 z H1 x v Q J r1 q1) (L _)

def jhv  : OpR X (Ybp .Add) (λx y H Q=>∃i j,x=.str i/\y=.str j/\i.length+j.length<=Yai/\Q (.str (i++j)) H):=by
 intro z s Y H x y v u Q I O L h;obtain⟨i,j,rfl,rfl,F,q⟩:=h;obtain⟨t,rfl⟩:=O;obtain⟨J,rfl⟩:=L;exact add_str (λJ tk=>⟨.str (i++j),H,I.tok _,⟨_,rfl⟩,q⟩) F
def jgi  : OpR X (Yej .Add) (λx y H Q=>∃i j,x=.str i/\y=.str j/\i.length+j.length<=Yai/\Q (.str (i++j)) H):=by
 intro z s Y H x y v u Q I O L h;obtain⟨i,j,rfl,rfl,F,q⟩:=h;obtain⟨t,rfl⟩:=O;obtain⟨J,rfl⟩:=L;exact iadd_str (λJ tk=>⟨.str (i++j),H,I.tok _,⟨_,rfl⟩,q⟩) F
def jcV    (r:Vals [x] us):∃u,us=[u]/\RelV x u:=by
 cases r with
 |cons r1 r2=>cases r2;exact⟨_,rfl,r1⟩
def jmy    (r:Vals [x,y] us):∃u j,us=[u,j]/\RelV x u/\RelV y j:=by
 cases r with
 |cons r1 r2=>
  cases r2 with
  |cons r3 z=>cases z;exact⟨_,_,rfl,r1,r3⟩
def jjd  (F:X.calm=true):jaW X (.builtin "max") (λxs H Q=>∃i j,xs=[.int i,.int j]/\Q (.int (if j>i then j else i)) H):=by
 intro z s Z H xs J Q I r h;obtain⟨i,j,rfl,q⟩:=h;obtain⟨u,Y,rfl,⟨t,rfl⟩,⟨O,rfl⟩⟩:=jmy r;refine max_two_ints (I.ok.hd F) λL tk k=>⟨_,H,I.kept k,?_,q⟩;by_cases y:j>i
 ·rw[if_pos y,if_pos y];exact⟨_,rfl⟩
 ·rw[if_neg y,if_neg y];exact⟨_,rfl⟩
def jjc  (F:X.calm=true):jaW X (.builtin "min") (λxs H Q=>∃i j,xs=[.int i,.int j]/\Q (.int (if j<i then j else i)) H):=by
 intro z s Z H xs J Q I r h;obtain⟨i,j,rfl,q⟩:=h;obtain⟨u,Y,rfl,⟨t,rfl⟩,⟨O,rfl⟩⟩:=jmy r;refine min_two_ints (I.ok.hd F) λL tk k=>⟨_,H,I.kept k,?_,q⟩;by_cases y:j<i
 ·rw[if_pos y,if_pos y];exact⟨_,rfl⟩
 ·rw[if_neg y,if_neg y];exact⟨_,rfl⟩
def jji  : jaW X (.type "int") (λxs H Q=>(∃i,xs=[.int i]/\Q (.int i) H)\/∃k,xs=[.bl k]/\Q (.int (if k then 1 else 0)) H):=by
 intro j s z H xs y Q I r h;rcases h with⟨i,rfl,q⟩|⟨k,rfl,q⟩
 ·obtain⟨u,rfl,t,rfl⟩:=jcV r;exact call_int_int ⟨.int i,H,I,⟨_,rfl⟩,q⟩
 ·obtain⟨u,rfl,r1⟩:=jcV r;cases r1;exact call_int_bool ⟨.int (if k then 1 else 0),H,I.tok _,⟨_,rfl⟩,q⟩
def jfL  : jaW X (.type "str") (λxs H Q=>∃i,xs=[.int i]/\i.natAbs.log2<1920/\Q (.str (toString i)) H):=by
 intro j s F H xs z Q I r h;obtain⟨i,rfl,y,q⟩:=h;obtain⟨u,rfl,t,rfl⟩:=jcV r;exact PySem.P.str_of_int y ⟨.str _,H,I.tok _,⟨_,rfl⟩,q⟩
def LenV  (K:Yae)(x:V)(H:Hp)(n:Nat):Prop:=
 match x with
 |.str y=>y.length<=Yai/\n=y.length
 |.byt y=>y.size<=Yai/\n=y.size
 |.ref p=>(∃j,SqL K H p j/\n=j.length)\/∃j,SqT K H p j/\n=j.length
 |_=>False
def jka  : jaW X (.builtin "len") (λxs H Q=>∃x n,xs=[x]/\LenV X.K x H n/\Q (.int n) H):=by
 intro Z s σ H xs us Q I r h;obtain⟨x,n,rfl,e,q⟩:=h;obtain⟨u,rfl,O⟩:=jcV r;have hl:=jeo;have hs:Yai=16777216:=YbV;cases x with
 |str y=>
  obtain⟨t,rfl⟩:=O;obtain⟨hy,z⟩:y.length<=Yai/\n=y.length:=e;subst z;exact len_str (by lia) ⟨.int _,H,I.tok _,⟨_,rfl⟩,q⟩
 |byt y=>
  obtain⟨t,rfl⟩:=O;obtain⟨hy,z⟩:y.size<=Yai/\n=y.size:=e;subst z;exact PySem.W.len_bytes (by lia) ⟨.int _,H,I.tok _,⟨_,rfl⟩,q⟩
 |ref p=>
  cases O;have z:(∃xs,SqL X.K H p xs/\n=xs.length)\/∃xs,SqT X.K H p xs/\n=xs.length:=e;rcases z with⟨xs,F,z⟩|⟨xs,F,z⟩
  ·subst z;obtain⟨Y,L,J,hz⟩:=I.list F;have j:=L.length;exact Calls.call_len_list J.isList (by simp only[Yao];lia) ⟨.int xs.length,H,I.tok _,⟨_,by simp only[Yao];rw[j]⟩,q⟩
  ·subst z;obtain⟨Y,L,J,hz⟩:=I.tuple F;have j:=L.length;exact len_tuple J (by simp only[Yao];lia) ⟨.int xs.length,H,I.tok _,⟨_,by simp only[Yao];rw[j]⟩,q⟩
 |_=>exact(show False from e).elim
end

structure ObjM (h:Heap)(x dx C:Addr)(mA:Str->Option Value):Prop where
 obj:h.get? x=some (Yd6 C dx)
 ns:h.Ns1 dx mA
 ne:dx≠x

def jiC  {h:Heap}(n:h.Ns1 dx mA):∃od,h.get? dx=some od/\∀name,Yem name od=some (mA name):=by
 obtain⟨o,F,Y,J,hd,hk,_,I⟩:=n;refine⟨o,J,λname=>?_⟩;have e:=I name;unfold nsFind findBy at e;rw[<- YdO]at e;unfold Yem;rw[hd];dsimp only;split
 ·rename_i y q;rw[q]at e;exact congrArg some e
 ·rename_i q;rw[q]at e;have a:F.toList.any (·.refKey)=false:=by
   rw[List.any_eq_false];intro y O;obtain⟨z,t,j⟩:=hk y (Array.mem_toList_iff.mp O);simp[Yeo.refKey,j]
  have L:¬F.toList.any (·.refKey)=true:=by rw[a];exact Yal
  rw[if_neg L];exact congrArg some e

def ObjM.look     (I:ObjM h x dx C mA):∃od,PySem.W.InstAt h x (Yd6 C dx) C (some od)/\∀name,Yem name od=some (mA name):=
 let ⟨od,j,y⟩:=jiC I.ns
 ⟨od,⟨I.obj,rfl,rfl,j⟩,y⟩



noncomputable def putF  (f:Str)(v:V):List (Str×V)->List (Str×V)
 |[]=>[(f,v)]
 |(g,x)::r=>if g=f then (g,v)::r else (g,x)::putF f v r
theorem jdR   f g v:∀fs ,(putF f v fs).lookup g=if g=f then some v else fs.lookup g
 |[]=>by
  show YbF g [(f,v)]=_;by_cases h:g=f
  ·have j:(g==f)=true:=beq_iff_eq.mpr h;simp only[YbF,j,if_pos h]
  ·have j:(g==f)=false:=beq_eq_false_iff_ne.mpr h;simp only[YbF,j,if_neg h]
 |(k,x)::r=>by
  have y:=jdR f g v r;rw[show putF f v ((k,x)::r)=(if k=f then (k,v)::r else (k,x)::putF f v r)from rfl]
  by_cases hk:k=f
  ·rw[if_pos hk];by_cases h:g=k
   ·have j:(g==k)=true:=beq_iff_eq.mpr h;simp only[YbF,j,if_pos (h.trans hk)]
   ·have j:(g==k)=false:=beq_eq_false_iff_ne.mpr h;simp only[YbF,j,if_neg (λe:g=f=>h (e.trans hk.symm))]
  ·rw[if_neg hk];by_cases h:g=k
   ·have j:(g==k)=true:=beq_iff_eq.mpr h;simp only[YbF,j,if_neg (λe:g=f=>hk (h.symm.trans e))]
   ·have j:(g==k)=false:=beq_eq_false_iff_ne.mpr h;simp only[YbF,j];exact y
def RelO.some_of    (r:RelO (some v) o):∃u,o=some u/\RelV v u:=by
 cases o with
 |none=>exact(show False from r).elim
 |some u=>exact⟨u,rfl,r⟩
def RelO.none_of   (r:RelO none o):o=none:=by
 cases o with
 |none=>rfl
 |some u=>exact(show False from r).elim

def jmh  (j:HOk P w H h)(e:H a=some (.ins C dx fs)):∃mA,ObjM h a dx C mA/\(∀f,RelO (fs.lookup f) (mA f))/\PySem.Within mA (fs.map (·.1))/\fs.length<=1000/\H dx=some (.own a):=by
 obtain⟨d,z,y,F,mA,n,r,q⟩:=(show jaE P w H h a (.ins C dx fs)from j a _ e);exact⟨mA,⟨F,n,y⟩,r,q,z,d⟩

structure Cls (K:Yae)(C:Addr):Prop where
 pg:Yfy K C Str.empty=true
 hd:PySem.W.hasDictIn K C=true
 po:PySem.W.plainOver K C=true
 sa:Yf7 K (.ref C) "__setattr__" = some (some (.builtin "object.__setattr__"))
def Cls.get  {K:Yae}(c:Cls K C) f:Yfy K C f=true:=c.pg

def jmu          (y:YcR e f env (eval e env)=eval e env)
  (h:wpAny (model prog w) A (eval e env) (λo j=>wpAny (model prog w) A (getAttr o f true) Q E j) E s):wpAny (model prog w) A (eval (.Attribute e f pos) env) Q E s:=
 Attribute_any_ h (by rw[arm_eval_Attribute,y])



section
variable {X:Cx}{pins:List (Addr×Obj)}{σ:St}{H:Hp}{s:Shared}{A:Around}{E:Value->Shared->Prop}{Q:Value->Shared->Prop}{c:Value}{b:Bool}
inductive TyOf (K:Yae)(H:Hp):V->Value->Prop where
 |non:TyOf K H .non (.type "NoneType")
 |bl (x:Bool):TyOf K H (.bl x) (.type "bool")
 |int (i:Int):TyOf K H (.int i) (.type "int")
 |str (x:Str):TyOf K H (.str x) (.type "str")
 |flt (x:UInt64):TyOf K H (.flt x) (.type "float")
 |lst {a:Addr} {xs:List V} (e:H a=some (.lst xs)):TyOf K H (.ref a) (.type "list")
 |frz {a:Addr} {o:Obj} {xs:List V} (e:H a=some (.frz o (.lst xs))):TyOf K H (.ref a) (.type "list")
 |tup {a:Addr} {xs:List V} (e:H a=some (.tup xs)):TyOf K H (.ref a) (.type "tuple")
 |dK {a:Addr} {kvs:List (Key×V)} (e:H a=some (.dK kvs)):TyOf K H (.ref a) (.type "dict")
 |dT {a:Addr} {kvs:List (List Key×V)} (e:H a=some (.dT kvs)):TyOf K H (.ref a) (.type "dict")
 |ins {a C dx:Addr} {fs:List (Str×V)} (e:H a=some (.ins C dx fs)) (cl:Cls K C) (ha:Yf7 K (.ref C) "__class__" = some (some (.builtin "object.__class__")))
   (hn:PySem.W.specialIn K (.builtin "object.__class__") "__get__" = some (some (.builtin "getset_descriptor.__get__"))) (htk:PySem.W.takesIn K (.builtin "object.__class__")=some true)
   (hm:PySem.W.mroIn K C (.type "object")=some true):TyOf K H (.ref a) (.ref C)
def jiL    (I:Inv X pins σ H s)(j:RelV x u)(ty:TyOf X.K H x t)(e:Ydl X.K t c=some b)(h:∀tk,Q (.bool b) { s with toks:=tk }) :
  wpAny (model X.prog X.w) A (call (.builtin "isinstance") [u,c]) Q E s:=by
 cases ty with
 |non=>cases(show u=YbI from j);exact Ybb PySem.W.kitx_none I.kIn YbR e (λz=>nomatch z) h
 |bl y=>cases(show u=Yez y from j);exact Ybb PySem.W.kitx_bool I.kIn YbR e (λz=>nomatch z) h
 |int i=>obtain⟨t,q⟩:=(show ∃t,u=Ye7 i t from j);cases q;exact Ybb PySem.W.kitx_int I.kIn YbR e (λz=>nomatch z) h
 |str y=>obtain⟨t,q⟩:=(show ∃t,u=Ye6 y t from j);cases q;exact Ybb PySem.W.kitx_str I.kIn YbR e (λz=>nomatch z) h
 |flt y=>obtain⟨t,q⟩:=(show ∃t,u=Value.float y t from j);cases q;exact Ybb PySem.W.kitx_float I.kIn YbR e (λz=>nomatch z) h
 |@lst a Z F=>
  cases(show u=Ya1 a from j);obtain⟨_,_,n,_,L⟩:=(show jaE X.prog X.w H s.heap a (.lst Z)from I.hok a _ F);exact Ybb Yfn I.kIn ⟨_,L,rfl⟩ e (λz=>nomatch z) h
 |@frz a ob Z F=>
  cases(show u=Ya1 a from j);obtain⟨_,_,_,n,_,L⟩:=(show jaE X.prog X.w H s.heap a (.frz ob (.lst Z))from I.hok a _ F);exact Ybb Yfn I.kIn ⟨_,L,rfl⟩ e (λz=>nomatch z) h
 |@tup a Z F=>
  cases(show u=Ya1 a from j);obtain⟨_,_,_,p⟩:=(show jaE X.prog X.w H s.heap a (.tup Z)from I.hok a _ F);obtain⟨o,L,h2,_⟩:=p;exact Ybb PySem.W.kitx_tuple I.kIn ⟨o,L,h2⟩ e (λz=>nomatch z) h
 |@dK a Y F=>
  cases(show u=Ya1 a from j);obtain⟨_,_,vs,_,p⟩:=(show jaE X.prog X.w H s.heap a (.dK Y)from I.hok a _ F);obtain⟨o,es,ep,L,h2,_⟩:=p;exact Ybb Yfo I.kIn ⟨o,L,h2.1⟩ e (λz=>nomatch z) h
 |@dT a Y F=>
  cases(show u=Ya1 a from j);obtain⟨_,_,Z,_,o,es,ep,L,h2,_⟩:=(show jaE X.prog X.w H s.heap a (.dT Y)from I.hok a _ F);exact Ybb Yfo I.kIn ⟨o,L,h2.1⟩ e (λz=>nomatch z) h
 |@ins a C dx fs F cl ha hn xa hm=>
  cases(show u=Ya1 a from j);obtain⟨mA,O,_⟩:=jmh I.hok F;obtain⟨od,J,_⟩:=O.look;exact Ybb (PySem.W.kitx_own (cl.get _) cl.hd ha hn xa hm) I.kIn J e (λz=>nomatch z) h
end

structure Room (k:Nat)(A:Around):Prop where
 hd:A.handled=none
 dp:A.depth+k+20<recursionLimit
 un:A.units+8*k+200<cLine
 gd:A.guards=some []
def Room.mono    (r:Room k A)(h:j<=k):Room j A:=⟨r.hd,by have:=r.dp;lia,by have:=r.un;lia,r.gd⟩
def Room.deeper    (r:Room (k+1) A) env:Room k (A.deeper env):=
 ⟨r.hd,by have:=r.dp;show A.depth+1+k+20<_;lia,by have:=r.un;show A.units+3+8*k+200<_;lia,r.gd⟩
def jhz  {A:Around}:(A.under (.builtin "type.__call__" ⟨.ref C::us,j⟩)).depth=A.depth+1:=by
 first|rfl|simp[Ye3,Code.weight,Code.isCreation,Code.isGuard,Code.isCaller,Code.frames,Yfi,guardIds]
def jhy  {A:Around}:(A.under (.builtin "type.__call__" ⟨.ref C::us,j⟩)).units=A.units+1:=by
 first|rfl|simp[Ye3,Code.cUnits,Code.frames,Yfi]
def Room.make    (r:Room (k+1) A) C us kw:Room k (A.under (.builtin "type.__call__" ⟨.ref C::us,kw⟩)):=
 ⟨r.hd,by have:=r.dp;rw[jhz];lia,by have:=r.un;rw[jhy];lia,r.gd⟩
def Room.depth    (r:Room k A):A.depth<recursionLimit:=by have:=r.dp;lia
def Room.units    (r:Room k A):A.units+64<cLine:=by have:=r.un;lia
def Room.units0    (r:Room k A):A.units<cLine:=by have:=r.un;lia

def tNil  : TA:=λ_ H Q=>Q [] H
def jpg  (y:TE)(z:TA):TA:=λj H Q=>y j H λx H1=>z j H1 λF H2=>Q (x::F) H2
section
variable {X:Cx}{e:Expr}{es:List Expr}{te:TE}{t:TA}{pos:Pos}
def jei  : PA X [] tNil:=λ_ _ _ _ H Q I h=>Calls.spliced_nil ⟨[],H,I,.nil,h⟩
def jbN (O:PE X e te)(hr:PA X es t)(hs:YaC (e::es) X.env=(false,eval e X.env)::YaC es X.env:=by rfl):PA X (e::es) (jpg te t):=by
 intro y j s z H Q I h;rw[hs];show wpAny _ _ (spliced ((false,eval e X.env)::backTo y (YaC es X.env))) _ _ s;refine YfG (thn (O j s z H _ I h) λu s1 ⟨x,H1,F,r1,q1⟩=>?_);exact thn (hr y j s1 z H1 _ F q1) λY s2 ⟨L,H2,J,r2,q2⟩=>⟨x::L,H2,J,.cons r1 r2,q2⟩

def tTup  (t:TA):TE:=λy H Q=>t y H λj H1=>j.length<=Yai/\∀p,H1 p=none->Q (.ref p) (upd H1 p (.tup j))
def tLst  (t:TA):TE:=λy H Q=>t y H λj H1=>j.length<=Yai/\∀p,H1 p=none->Q (.ref p) (upd H1 p (.lst j))
def jii   (h:PA X es t):PE X (.Tuple es Z pos) (tTup t):=by
 intro j s Y H Q I O;refine wpAny_Tuple_spliced (thn (h pos j s Y H _ I O) λF s1 ⟨L,H1,y,r,z,q⟩=>⟨by rw[<- r.length];exact z,?_⟩)
 have J:H1 s1.heap.objs.size=none:=y.hok.fresh (Yac _);refine⟨.ref s1.heap.objs.size,upd H1 s1.heap.objs.size (.tup L),y.laid (t':=s1.toks) (λb u e=>Yad _ e) (Yac _) ?_,rfl,q _ J⟩;exact⟨z,F,r,⟨_,Yay _ rfl,rfl,_,rfl,rfl⟩⟩
def jkC  (h:PA X es t):PE X (.List es pos) (tLst t):=by
 intro j s Y H Q I O;refine wpAny_List_spliced (thn (h pos j s Y H _ I O) λF s1 ⟨L,H1,y,r,z,q⟩=>⟨by rw[<- r.length];exact z,?_⟩)
 have J:H1 s1.heap.objs.size=none:=y.hok.fresh (Yac _);refine⟨.ref s1.heap.objs.size,upd H1 s1.heap.objs.size (.lst L),y.laid (t':=s1.toks) (λb u e=>Yad _ e) (Yac _) ?_,rfl,q _ J⟩;exact⟨z,F,0,r,Yay _ rfl⟩
end

abbrev Sp:=List V->Hp->VK->XK->Prop
abbrev CXT:=List Env->Hp->Shared->XK->Value->Shared->Prop

structure Env0 (P:Program)(w:World)(K:Yae)(mg:Str->Option Value)(base:Heap)(A:Around)(outer:List Env)(s:Shared)(H:Hp):Prop where
 frames:A.frames=some outer
 mod:Mod K mg base
 bs:∀b o,base.get? b=some o->s.heap.get? b=some o/\H b=none
 bsz:base.objs.size<=s.heap.objs.size
 funs:s.heap.FunFrames base outer
 frf:∀b∈frs outer,H b=none
 hok:HOk P w H s.heap
 bare:AllBare s.gens
def CE  (outer:List Env)(P:Program)(w:World)(H:Hp)(s:Shared)(Q:VK)(u:Value)(j:Shared):Prop:=
 ∃v y,j.os=s.os/\AllBare j.gens/\Un (frs outer) [] H y s.heap j.heap/\HOk P w y j.heap/\RelV v u/\Q v y
def CR  (CX:CXT)(outer:List Env)(P:Program)(w:World)(H:Hp)(s:Shared)(Q:VK)(E:XK)(r:Result)(j:Shared):Prop:=
 match r with
 |.ok (.ret u)=>CE outer P w H s Q u j
 |.ok _=>False
 |.error e=>CX outer H s E e j
structure FnOk (P:Program)(w:World)(K:Yae)(mg:Str->Option Value)(base:Heap)(CX:CXT)(k:Nat)(f:Addr)(fd:YeZ)(ps:List Str)(sp:Sp):Prop where
 len:∀vs H Q E,sp vs H Q E->vs.length=ps.length
 run:∀(A:Around) (outer:List Env) (s:Shared) (H:Hp) (args:Args) (us:List Value) (vs:List V) (Q:VK) (E:XK),Room k A->Env0 P w K mg base A outer s H->BindsTo s fd args (ps.zip us)->Vals vs us->sp vs H Q E->
  codeAny (model P w) A (.call (.ref f) args) (CR CX outer P w H s Q E) s
def Env0.make    {K:Yae}(e:Env0 P w K mg base A outer s H) C us kw :
  Env0 P w K mg base (A.under (.builtin "type.__call__" ⟨.ref C::us,kw⟩)) outer s H:=⟨by first|exact e.frames|(simpa[Ye3,Code.envs,Yfi,pushEnvs]using e.frames),e.mod,e.bs,e.bsz,e.funs,e.frf,e.hok,e.bare⟩

def Inv.env0  {j: St}(I:Inv X pins j H s):Env0 X.prog X.w X.K X.mg X.base X.A X.stack s H:=
 ⟨I.ok.frames,I.ok.mod,I.bs,Yaf I.ok.bsz I.sz,I.stack,I.stkFree,I.hok,I.bare⟩
def Inv.after  {J: St}(I:Inv X pins J H s)(h:CE X.stack X.prog X.w H s Q u F):EP X pins J Q u F:=by
 obtain⟨v,O,Y,bare,un,j,r,q⟩:=h;obtain⟨L,g,d,t,y⟩:=F;obtain rfl:y=s.os:=Y;exact⟨v,O,I.call (h':=L) (g':=g) (d':=d) (t':=t) (ch:=[]) un j bare (λb z=>absurd z (by simp)),r,q⟩

def Binds  (K:Yae)(j:YeZ)(ps:List Str)(ds:List Value):Prop:=
 ∀(s:Shared) (us:List Value),K.In s.heap->(us++ds).length=ps.length->BindsTo s j ⟨us,[]⟩ (ps.zip (us++ds))
def Binds.all  {K:Yae}(h:∀us ,us.length=ps.length->bindArgs y ⟨us,[]⟩=pure (ps.zip us)):Binds K y ps []:=λs us _ j=>by
 rw[YcO]at j ⊢;exact .of_eq (h us j)





structure FnScope (N P:List Str)(sc:Scope):Prop where
 kind:sc.kind=.function
 co:sc.isCoroutine=false
 gen:sc.isGenerator=false
 nd:N.Nodup
 pre:N.take P.length=P
 par:∀x∈P,sc.names.lookup x=some .local\/sc.names.lookup x=some .cell
 nofree:∀y∈sc.names,y.2≠.free

theorem jfN  {kindOf:Str->Option YbJ}:∀{binds } {m },(∀v,(x,v)∉binds)->bindL kindOf binds m x=m x
 |[],_,_=>rfl
 |(n,v)::r,m,h=>by
  unfold bindL;rw[jfN λw j=>h w (Yaj _ j)];split
  ·have:x≠n:=by rintro rfl;exact h v Yav
   simp[this]
  ·rfl
theorem jfP  {kindOf:Str->Option YbJ}:∀{binds } {m },(∀v,(x,v)∉binds)->bindC kindOf binds m x=m x
 |[],_,_=>rfl
 |(n,v)::r,m,h=>by
  unfold bindC;rw[jfP λw j=>h w (Yaj _ j)];split
  ·rfl
  ·have:x≠n:=by rintro rfl;exact h v Yav
   simp[this]
theorem jfO  {kindOf:Str->Option YbJ}:∀{P:List Str} {vs } {i:Nat} {m },P.Nodup->P[i]?=some x->vs[i]?=some v->kindOf x=some .local->
  bindL kindOf (P.zip vs) m x=some v
 |[],_,_,_,_,h,_,_=>by simp at h
 |_::_,[],_,_,_,_,h,_=>by simp at h
 |p::P,w::vs,0,m,nd,h1,h2,hk=>by
  simp at h1 h2;subst h1;subst h2;show bindL kindOf ((p,w)::P.zip vs) m p=_;unfold bindL;rw[jfN λv j=>(List.nodup_cons.mp nd).1 (YcM j).1,if_pos hk];simp
 |p::P,w::vs,i+1,m,nd,h1,h2,hk=>by
  show bindL kindOf ((p,w)::P.zip vs) m x=_;unfold bindL;exact jfO (i:=i) (List.nodup_cons.mp nd).2 (by simpa using h1) (by simpa using h2) hk
theorem jfQ  {kindOf:Str->Option YbJ}:∀{P:List Str} {vs } {i:Nat} {m },P.Nodup->P[i]?=some x->vs[i]?=some v->kindOf x≠some .local->
  bindC kindOf (P.zip vs) m x=some v
 |[],_,_,_,_,h,_,_=>by simp at h
 |_::_,[],_,_,_,_,h,_=>by simp at h
 |p::P,w::vs,0,m,nd,h1,h2,hk=>by
  simp at h1 h2;subst h1;subst h2;show bindC kindOf ((p,w)::P.zip vs) m p=_;unfold bindC;rw[jfP λv j=>(List.nodup_cons.mp nd).1 (YcM j).1,if_neg hk];simp
 |p::P,w::vs,i+1,m,nd,h1,h2,hk=>by
  show bindC kindOf ((p,w)::P.zip vs) m x=_;unfold bindC;exact jfQ (i:=i) (List.nodup_cons.mp nd).2 (by simpa using h1) (by simpa using h2) hk

noncomputable def start  (N:List Str)(vs:List V):St:=vs.map some++Yag (N.length-vs.length) none

noncomputable def cxOf  (CX:CXT)(P:Program)(w:World)(K:Yae)(mg:Str->Option Value)(base:Heap)(N:List Str)(j:Str)(scope:Scope)(f:Addr)(z:Value)(A:Around)(outer:List Env)(s:Shared)(H:Hp)(E:XK):Cx where
 prog:=P
 w:=w
 K:=K
 mg:=mg
 base:=base
 A:=A.deeper (envOfC j scope s.heap.objs.size f z)
 N:=N
 s₀:=s
 H₀:=H
 env:=envOfC j scope s.heap.objs.size f z
 outer:=outer
 stack:=envOfC j scope s.heap.objs.size f z::outer
 ex:=[]
 calm:=true
 fn:=λ_=>true
 pn:=[]
 xe:=λe I=>wpAny (model P w) (A.deeper (envOfC j scope s.heap.objs.size f z)) (leaving (envOfC j scope s.heap.objs.size f z) e) (λ_ y=>CX outer H s E e y) (λF y=>CX outer H s E F y) I

def je2  {j:Scope}(h:j.names.lookup x=some .cell):∃c,(Ybk n j.names []).lookup x=some c:=by
 have q:=Yc7 j.names n [] (.inl h);exact Option.isSome_iff_exists.mp q

def jfy     {K:Yae} 
  (S:FnScope N ps scope) (hd:A.handled=none) (e0:Env0 P w K mg base A outer s H) (hl:vs.length=ps.length) (r:Vals vs us)
  (x:InCallC s s.heap.objs.size (bindL (envOfC F scope s.heap.objs.size f cd).kindOf (ps.zip us) λ_=>none) (Ybk (s.heap.objs.size+1) scope.names []) (bindC (envOfC F scope s.heap.objs.size f cd).kindOf (ps.zip us) λ_=>none) s1) :
  Inv (cxOf CX P w K mg base N F scope f cd A outer s H E) [] (start N vs) H s1:=by
 have xa:ps.length<=N.length:=by have:=congrArg List.length S.pre;rw[YaT]at this;lia
 obtain⟨Y,tk,rfl,hk⟩:=x.done;have J:∀b:Addr,b∉(cxOf CX P w K mg base N F scope f cd A outer s H E).ex:=λb z=>absurd (show b∈([]:List Addr)from z) (by simp)
 refine⟨⟨e0.mod,S.kind,rfl,rfl,Yac _,λy z c Y j=>?_,λy I=>?_,λy c _ h=>?_,λ_=>hd,Around.frames_deeper e0.frames,.inr ⟨rfl,rfl⟩,λb z=>absurd z (J b),e0.bs,e0.bsz,λb _ _=>J b,λb z=>absurd z (J b),e0.funs,e0.frf⟩,
  rfl,e0.bare,Un.kept hk,⟨_,x.toInCall.ns,λi y v Y j h3=>?_⟩,λy c h=>⟨_,x.cell y c h⟩,e0.hok.fresh (Yac _),λy c h=>?_,λp L=>absurd (show p∈([]:List (Addr×Obj))from L) (by simp),e0.hok.kept hk,?_⟩
 ·exact name_of_addr x.apart (YaI Y) (YaI j)
 ·have I:scope.names.lookup y=some .cell\/scope.names.lookup y=some .free:=I;rcases I with I|I
  ·exact je2 I
  ·exact absurd rfl (S.nofree _ (YaI I))
 ·exact Yb6 (x.above y c (YaI h))
 ·have Z:i<vs.length:=by
   unfold start at j;by_cases Z:i<vs.length
   ·exact Z
   ·rw[Ycd (by simpa using Z)]at j
    rw[YeW]at j;split at j<;>cases j
  have ha:vs[i]?=some v:=by
   unfold start at j;rw[YbG (by simpa using Z),Yau]at j
   cases e:vs[i]? with
   |none=>rw[e]at j;cases j
   |some a=>rw[e]at j;cases j;rfl
  obtain⟨u,hu,rv⟩:=r.get ha;have L:ps[i]?=some y:=by
   rw[<- S.pre,List.getElem?_take_of_lt (by lia)];exact Y
  have O:ps.Nodup:=by rw[<- S.pre];exact S.nd.sublist (Yf9 _ _)
  refine⟨u,rv,?_⟩;rcases S.par y (Yas L)with k|k
  ·exact .inl ⟨k,jfO O L hu k⟩
  ·obtain⟨c,e⟩:=je2 (n:=s.heap.objs.size+1) k;refine .inr ⟨.inl k,c,e,?_⟩;have q:=x.cell y c e;rw[jfQ O L hu (by show scope.names.lookup y≠_;rw[k];decide)]at q
   exact q
 ·exact e0.hok.fresh (Yb6 (x.above y c (YaI h)))
 ·unfold start;show _=N.length;rw[Yat,Yaa,List.length_replicate]
  lia

def jpX     {K : Yae}{dV kV ja pm z ct oc : Value} 
       (lk : K.lookup f = some ⟨oc, od, .func (Ya8 name j params body scope dV kV ja pm an z ct), ka⟩) (va : YbB K z j = true) (S : FnScope N ps scope)
    (len : ∀ vs H Q E, sp vs H Q E -> vs.length = ps.length)
    (Y : ∀ (A : Around) outer (s : Shared) H (vs : List V) Q E , Room k (A.deeper (envOfC j scope s.heap.objs.size f z)) -> sp vs H Q E ->
      ∃ t, PSs (cxOf CX P w K mg base N j scope f z A outer s H E) body t /\ t { nx := λ_ L => Q .non L, rt := Q } (start N vs) H) :
    FnOk P w K mg base CX (k + 1) f (Ya8 name j params body scope dV kV ja pm an z ct) ps sp := by
  refine ⟨len, λA outer s H wa us vs Q E hr e0 hb r za => ?_⟩
  have hl := len _ _ _ _ za
  have KX : K.In s.heap := e0.mod.kin.keeps λb o e => (e0.bs b o e).1
  have ya : s.heap.NoLimit := e0.mod.nolimit.keeps λb o e => (e0.bs b o e).1
  have O : ∀ y ∈ ps.zip us, scope.names.lookup y.1 = some .local \/ (scope.names.lookup y.1 = some .cell /\ ((Ybk (s.heap.objs.size + 1) scope.names []).lookup y.1).isSome = true) := λ⟨n, v⟩ hy => by
    rcases S.par n (YcM hy).1 with q | q
    · exact .inl q
    · exact .inr ⟨q, Yc7 _ _ _ (.inl q)⟩
  refine Ygk hr.depth (KX _ _ lk) rfl S.co S.gen rfl (Yfe KX va) (hb _ _ _ _ ?_)
  refine Yfc S.kind O λha he s1 x => ?_
  subst he
  refine ⟨ya.keeps x.toInCall.keep, codeAny_func ?_⟩
  obtain ⟨t, ht, hq⟩ := Y A outer s H vs Q E (hr.deeper _) za
  have I : Inv (cxOf CX P w K mg base N j scope f z A outer s H E) [] (start N vs) H s1 := jfy S hr.hd e0 hl r x
  refine YaZ (ht [] s1 (start N vs) H _ I hq) (λfl s' Z => ?_) λe s' Z => Z
  have xa : ∀ {F : St} {L : Hp} {v : V} {u : Value}, Inv (cxOf CX P w K mg base N j scope f z A outer s H E) [] F L s' -> RelV v u -> Q v L -> CE outer P w H s Q u s' :=
    λ{F L v u} J rv q => ⟨v, L, J.os, J.bare, J.base, J.hok, rv, q⟩
  cases fl with
  | ret u =>
    obtain ⟨v, F, L, J, rv, q⟩ := Z
    exact xa J rv q
  | next =>
    obtain ⟨F, L, J, q⟩ := Z
    exact xa (v := V.non) (u := YbI) J rfl q
  | brk =>
    obtain ⟨_, _, _, q⟩ := Z
    exact Yc1 q
  | cont =>
    obtain ⟨_, _, _, q⟩ := Z
    exact Yc1 q
section
variable {X:Cx}{x:Str}{p pos:Pos}{e:Expr}{es:List Expr}{t:TA}{id T:String}{r:List V->Hp->VK->Prop}

def tCB  (r:List V->Hp->VK->Prop)(t:TA):TE:=λy H Q=>t y H λj H1=>r j H1 Q
def jdt (hc:jaW X (.builtin id) r)(Z:Gl X x)(hm:X.mg x=none)(hv:YbS x=some (.builtin id))(ha:PA X (e::es) t)(hn:x ≠ "__name__" := by decide)(z:(x==("__debug__" : Str))=false:=by decide)
  (Y:YaC (e::es) X.env=(false,eval e X.env)::YaC es X.env:=by rfl) (y:(backTo pos (YaC es X.env)).any (·.1)=false:=by rfl):PE X (.Call (.Name x p) (e::es) [] pos) (tCB r t):=by
 intro j s F H Q I h;refine Yb8 (jdU I Z hm hv ?_ hn z);exact PyProof.Rows.callWith_builtin1 (thn (ha pos j s F H _ I h) λO s1 ⟨L,H1,J,r1,q1⟩=>hc j s1 F H1 L O Q J r1 q1) Y y
def jcJ (hc:jaW X (.type T) r)(Z:Gl X x)(hm:X.mg x=none)(hv:YbS x=some (.type T))(ha:PA X (e::es) t)(hn:x ≠ "__name__" := by decide)(z:(x==("__debug__" : Str))=false:=by decide)
  (Y:YaC (e::es) X.env=(false,eval e X.env)::YaC es X.env:=by rfl) (y:(backTo pos (YaC es X.env)).any (·.1)=false:=by rfl):PE X (.Call (.Name x p) (e::es) [] pos) (tCB r t):=by
 intro j s F H Q I h;refine Yb8 (jdU I Z hm hv ?_ hn z);exact Ybq (thn (ha pos j s F H _ I h) λO s1 ⟨L,H1,J,r1,q1⟩=>hc j s1 F H1 L O Q J r1 q1) Y y
end
end L2

namespace HT
open PySem PyProof.Rows

section
open PySem.SeqAt
open PySem.AutoSeq1 (wpAny_loadPart')
open PySem.MeetsSeq PySem.MeetsSeq2 PySem.MeetsSeq3

end

section
variable {prog:Program}{w:World}{A:Around}{E:Value->Shared->Prop}{s:Shared}

def cat_tup     (ht:IsTup s.heap t vs.toArray)(hb:IsTup s.heap b j.toArray)(hv:vs≠[])
  (h1:j=[]->Q (.ref t) s) (h2:j≠[]->Q (.ref s.heap.objs.size) { s with heap:=s.heap.push { cls:=.type "tuple",data:=.seq (vs++j).toArray } })
  (hsz:vs.length+j.length<=Yai):wpAny (model prog w) A (Ybp .Add (.ref t) (.ref b)) Q E s:=by
 obtain⟨⟨cls,dd,data,sl⟩,L,hc,n,hd⟩:=id ht;obtain⟨⟨Z,z,Y,J⟩,y,I,n2,F⟩:=id hb;simp only at hc hd I F;subst hc hd I F;have e:vs.toArray++j.toArray=(vs++j).toArray:=by simp
 by_cases O:j=[]
 ·exact Ygj ⟨_,L,rfl⟩ ⟨_,y,rfl⟩ YeI YfL Yc8 Yc0 (YcS _ _)
   (tuple_addW1 t b vs.toArray j.toArray n n2 dd z sl J (by simpa using hv) (by simp[O])) ⟨L,y,h1 O⟩
 ·refine Ygj ⟨_,L,rfl⟩ ⟨_,y,rfl⟩ YeI YfL Yc8 Yc0 (YcS _ _)
   (tuple_addW2 t b vs.toArray j.toArray n n2 dd z sl J (by simpa using hv) (by simpa using O) (by rw[Yao,Yao];exact hsz)) ⟨L,y,?_⟩
  rw[e];exact h2 O

noncomputable def sIx  (n d:Nat):Option Int->Nat
 |none=>d
 |some v=>if v<0 then (v+(n:Int)).toNat else min v.toNat n
def sIx_none   n d:sIx n d none=d:=rfl
def sIx_nat  (n d k:Nat):sIx n d (some (k:Int))=min k n:=by
 show(if (k:Int)<0 then ((k:Int)+(n:Int)).toNat else min (k:Int).toNat n)=min k n
 rw[if_neg (by lia),Ybg]
def jm3   n d (hd:d<=n) o:sIx n d o<=n:=by
 cases o with
 |none=>exact hd
 |some v=>
  show(if v<0 then (v+(n:Int)).toNat else min v.toNat n)<=n
  by_cases j:v<0
  ·rw[if_pos j];lia
  ·rw[if_neg j];exact Nat.min_le_right _ _
def ji9   v (n d:Nat):(if v<0 then max (v+(n:Int)) 0 else min v (n:Int))=((sIx n d (some v):Nat):Int):=by
 show(if v<0 then max (v+(n:Int)) 0 else min v (n:Int))=(((if v<0 then (v+(n:Int)).toNat else min v.toNat n):Nat):Int)
 by_cases j:v<0
 ·simp only[if_pos j];lia
 ·simp only[if_neg j];lia
def jhM   lo hi (n:Nat):Ybw lo hi 1 (n:Int)=(((sIx n 0 lo:Nat):Int),((sIx n n hi:Nat):Int)):=by
 have j:¬((1:Int)<0):=by lia
 unfold Ybw;simp only[j,if_false];refine Prod.ext ?_ ?_
 ·cases lo with
  |none=>rfl
  |some v=>exact ji9 v n 0
 ·cases hi with
  |none=>rfl
  |some v=>exact ji9 v n n
def jht  (i j:Nat):YaY (i:Int) (j:Int) 1=j-i:=by
 unfold YaY;have y:(1:Int)>0:=by lia
 simp only[y,if_true,Yfu];split<;>lia
def jbB     (p:IsPart v o)(h:Q o s):wpAny (model prog w) A (Builtin.Slice.slicePartIndex v) Q E s:=by
 cases p with
 |none=>exact slicePart_none h
 |int i t=>exact slicePart_int h
def jbX    {lo hi:Option Int}{n:Nat}(hs:s.heap.IsSliceOf I F z .none)(pl:IsPart F lo)(L:IsPart z hi)
  (h:Q (((sIx n 0 lo:Nat):Int),1,sIx n n hi-sIx n 0 lo) s):wpAny (model prog w) A (YbQ (.ref I) (pure (n:Int))) Q E s:=by
 obtain⟨O,j,J,y⟩:=id hs;unfold YbQ YdN;refine Yab (Yab (YbU j y (x:=F) rfl (Yab (YbU j y (x:=z) rfl (Yab (YbU j y (x:=.none) rfl (Yam ?_)))))));refine Yab (slicePart_none ?_);show wpAny _ _ (if ((1:Int)==0)=true then _ else _) _ _ s
 rw[if_neg (by decide)]
 refine Yab (jbB pl (Yab (jbB L (Yab (Yam ?_)))));show wpAny _ _ (match Ybw lo hi 1 (n:Int)with|(lo,hi)=>pure (lo,(1:Int),YaY lo hi 1)) _ _ s
 rw[jhM lo hi n];show wpAny _ _ (pure (((sIx n 0 lo:Nat):Int),(1:Int),YaY ((sIx n 0 lo:Nat):Int) ((sIx n n hi:Nat):Int) 1)) _ _ s;rw[jht];exact Yam h
def jjI  (xs:Array Value)(i k:Nat):((YaA k).filterMap λ(m:Nat)=>xs[((i:Int)+(m:Int)*1).toNat]?).toArray=((xs.toList.drop i).take k).toArray:=by
 have e:(λ(m:Nat)=>xs[((i:Int)+(m:Int)*1).toNat]?)=λm=>xs[i+m]?:=by
  funext m;have:((i:Int)+(m:Int)*1).toNat=i+m:=by lia
  rw[this]
 rw[e];have:=pick_run xs i k;rw[YfW]at this;have j:((λx=>xs[x]?) ∘ λx=>i+x)=λm=>xs[i+m]?:=rfl;rw[j]at this;rw[this]

def getItem_tuple_cut     {lo hi:Option Int}(y:IsTup s.heap t items)(hs:s.heap.IsSliceOf L Y vu .none)(pl:IsPart Y lo)(Z:IsPart vu hi)
  (O:¬(sIx items.size 0 lo=0/\sIx items.size items.size hi=items.size))
  (h:Q (.ref s.heap.objs.size) { s with heap:=s.heap.push { cls:=.type "tuple",data:=.seq ((items.toList.drop (sIx items.size 0 lo)).take (sIx items.size items.size hi-sIx items.size 0 lo)).toArray } })
  (hsz:items.size<=Yai):wpAny (model prog w) A (getItem (.ref t) (.ref L)) Q E s:=by
 have j:sizeOk (.seq ((items.toList.drop (sIx items.size 0 lo)).take (sIx items.size items.size hi-sIx items.size 0 lo)).toArray):=by
  show((items.toList.drop (sIx items.size 0 lo)).take (sIx items.size items.size hi-sIx items.size 0 lo)).toArray.size<=Yai;rw[Yao,YaT,Ybt,YcL]
  lia
 have hj:sIx items.size items.size hi<=items.size:=jm3 _ _ (Yac _) hi;obtain⟨os,I,z,xa⟩:=id hs;have J:s.TypeIs (.ref L) "slice" := ⟨os,I,z⟩;unfold getItem
 try with_reducible refine YbH ?_
 first|refine Yab (Yam ?_)|skip
 refine Yab (Yes y.typeIs (by decide) ?_)
 refine Yab (YcA (name:=Yb5 "__getitem__") y.typeIs Ya4
  (Ydv Ya4 y.typeIs Yd4 ?_ (Yel _ _)))
 show wpAny _ _ (YcB (.ref t) >>= _) _ _ s;refine Yab (YfK y ?_);refine Yab (YcK J ?_);rw[if_pos (by decide)]
 refine Yab (jbX hs pl Z ?_);have F:¬((((sIx items.size 0 lo:Nat):Int)==0&&(1:Int)==1&&(sIx items.size items.size hi-sIx items.size 0 lo)==items.size)=true):=by
  intro q;rw[Yaq,Yaq]at q;have q1:((sIx items.size 0 lo:Nat):Int)=0:=eq_of_beq q.1.1;have q2:sIx items.size items.size hi-sIx items.size 0 lo=items.size:=eq_of_beq q.2;exact O ⟨by lia,by lia⟩
 show wpAny _ _ (if (((sIx items.size 0 lo:Nat):Int)==0&&(1:Int)==1&&(sIx items.size items.size hi-sIx items.size 0 lo)==items.size)=true then _ else _) _ _ s
 rw[if_neg F,jjI]
 first
  |exact Yab (m:=Ya0 _) (Ya2 (Yam ⟨_,rfl,Yam h⟩) j)
  |exact Yab (m:=Ya0 _) (Ya2 (Yab (Yam (Yam ⟨_,rfl,Yam h⟩))) j)
  |exact Yab (Yab (m:=Ya0 _) (Ya2 (Yam (Yam ⟨_,rfl,Yam h⟩)) j))
  |exact Yab (Yab (m:=Ya0 _) (Ya2 (Yam ⟨_,rfl,Yam h⟩) j))
end
end HT

namespace L2
open PySem PySem.Spec PyProof.Rows

abbrev TO:=St->Hp->(Option Int->Hp->Prop)->Prop
def PO  (X:Cx)(e:Option Expr)(t:TO):Prop:=
 ∀(j:List (Addr×Obj)) (s:Shared) (σ:St) (H:Hp) (Q:Option Int->Hp->Prop),Inv X j σ H s->t σ H Q->
  wpAny (model X.prog X.w) X.A (evalPart e X.env) (λu z=>∃o y,Inv X j σ y z/\IsPart u o/\Q o y) X.xe s
def jlg  : TO:=λ_ H Q=>Q none H
def jo9  (t:TE):TO:=λj H Q=>t j H λx H1=>∃i,x=.int i/\Q (some i) H1


def jlF  : PO X none jlg:=by
 intro j s y H Q I h;rw[YfN];exact Yam ⟨none,H,I,.none,h⟩
def jlE  (h:PE X e te):PO X (some e) (jo9 te):=by
 intro j s F H Q I z;rw[evalPart_some];refine thn (h j s F H _ I z) λu s1 ⟨x,H1,y,r1,q1⟩=>?_;obtain⟨i,rfl,q⟩:=q1;obtain⟨t,rfl⟩:=r1;exact⟨some i,H1,y,.int i t,q⟩

def SlR  (X:Cx)(r:V->Option Int->Option Int->Hp->VK->Prop):Prop:=
 ∀(j:List (Addr×Obj)) (s:Shared) (σ:St) (H:Hp) (x:V) (v vl vu:Value) (lo hi:Option Int) (sl:Addr) (Q:VK),Inv X j σ H s->RelV x v->s.heap.IsSliceOf sl vl vu .none->IsPart vl lo->IsPart vu hi->r x lo hi H Q->
  ∃T y,Ya3 (.type T) "__getitem__" = pure (some (.builtin y))/\s.TypeIs v T/\wpAny (model X.prog X.w) X.A (getItem v (.ref sl)) (EP X j σ Q) X.xe s
def SlR.or   (h:SlR X r)(h':SlR X r'):SlR X (λx lo hi H Q=>r x lo hi H Q\/r' x lo hi H Q):=by
 intro j s y H x v O J lo hi z Q I L Y Z F q;rcases q with q|q
 ·exact h j s y H x v O J lo hi z Q I L Y Z F q
 ·exact h' j s y H x v O J lo hi z Q I L Y Z F q
def tSl  (r:V->Option Int->Option Int->Hp->VK->Prop)(F:TE)(z I:TO):TE:=λj H Q=>F j H λx H1=>z j H1 λl H2=>I j H2 λu y=>r x l u y Q
def jjL  {lo: Option Expr}(hr:SlR X r)(he:PE X e te)(hl:PO X lo tl)(hu:PO X hi Z):PE X (.Subscript e (.Slice lo hi none p2) pos) (tSl r te tl Z):=by
 intro j s z H Q I h;refine Subscript_ (thn (he j s z H _ I h) λv s1 ⟨x,H1,O,r1,q1⟩=>?_);refine wpAny_Slice (thn (hl j s1 z H1 _ O q1) λF s2 ⟨l,H2,I2,pl,q2⟩=>thn (hu j s2 z H2 _ I2 q2) λJ y ⟨u,L,I3,Y,q3⟩=>?_);rw[YfN];refine Yam ?_;have I4:Inv X j z L { y with heap:=y.heap.push { cls:=.type "slice",data:=.fields #[F,J,.none] } }:=I3.kept (t':=y.toks) λb ob q=>Yad _ q
 obtain⟨T,id,hT,ht,hg⟩:=hr j { y with heap:=y.heap.push { cls:=.type "slice",data:=.fields #[F,J,.none] } } z L x v F J l u y.heap.objs.size Q I4 r1 (Heap.IsSliceOf.new ..) pl Y q3;show wpAny (model X.prog X.w) X.A (Yee e (.Slice lo hi none p2) v (.ref y.heap.objs.size)) (EP X j z Q) X.xe { y with heap:=y.heap.push { cls:=.type "slice",data:=.fields #[F,J,.none] } }
 exact tail_any (ops:=[.ref y.heap.objs.size,v]) ht hT hg (by with_unfolding_all rfl)

def cutV  (xs:List V)(lo hi:Option Int):List V:=(xs.drop (HT.sIx xs.length 0 lo)).take (HT.sIx xs.length xs.length hi-HT.sIx xs.length 0 lo)
def jd8  (xs:List V) lo hi:(cutV xs lo hi).length<=xs.length:=by
 unfold cutV;rw[YaT,Ybt]
 lia
def rSlT  (K:Yae):V->Option Int->Option Int->Hp->VK->Prop:=λx y z H Q=>∃a j,x=.ref a/\SqT K H a j/\
 ¬(HT.sIx j.length 0 y=0/\HT.sIx j.length j.length z=j.length)/\∀p,H p=none->Q (.ref p) (upd H p (.tup (cutV j y z)))
def jmV  : SlR X (rSlT X.K):=by
 intro L s σ H x v vl vu z J sl Q I rx Z pl pu h;obtain⟨a,y,rfl,hx,hw,q⟩:=h;cases rx;obtain⟨F,r,Y,O⟩:=I.tuple hx;have j:F.toArray.size=y.length:=by rw[Yao];exact r.length.symm
 refine⟨"tuple",_,Ya4.lookup,Y.typeIs,?_⟩;refine HT.getItem_tuple_cut Y Z pl pu (by rw[j];exact hw) ?_ (by rw[j];exact O)
 rw[j];refine⟨.ref s.heap.objs.size,_,I.laid (t':=s.toks) (o:=.tup (cutV y z J)) (λb ob q=>Yad _ q) (Yac _) ?_,rfl,q _ (I.hok.fresh (Yac _))⟩;exact⟨Yaf (jd8 y z J) O,_,(r.drop (HT.sIx y.length 0 z)).take (HT.sIx y.length y.length J-HT.sIx y.length 0 z),TupD.new _ _⟩

def jpr  (K:Yae):R2:=λx y H Q=>∃a b z j,x=.ref a/\y=.ref b/\SqT K H a z/\SqT K H b j/\z≠[]/\z.length+j.length<=Yai/\
 (j=[]->Q (.ref a) H)/\(j≠[]->∀p,H p=none->Q (.ref p) (upd H p (.tup (z++j))))
def Vals.nil_iff    (r:Vals xs us):us=[]↔xs=[]:=by
 cases r with
 |nil=>simp
 |cons _ _=>simp
def jlS  : OpR X (Ybp .Add) (jpr X.K):=by
 intro F s σ H x y v u Q I L ry h;obtain⟨a,b,Z,Y,rfl,rfl,ha,hb,O,J,q1,q2⟩:=h;cases L;cases ry;obtain⟨xa,r1,p1,_⟩:=I.tuple ha;obtain⟨j,r2,p2,_⟩:=I.tuple hb;refine HT.cat_tup p1 p2 (λz=>O (r1.nil_iff.mp z)) (λz=>⟨.ref a,H,I,rfl,q1 (r2.nil_iff.mp z)⟩) (λz=>?_) (by rw[<- r1.length,<- r2.length];exact J)
 refine⟨.ref s.heap.objs.size,_,I.laid (t':=s.toks) (o:=.tup (Z++Y)) (λb ob q=>Yad _ q) (Yac _) ?_,rfl,q2 (λw=>z (r2.nil_iff.mpr w)) _ (I.hok.fresh (Yac _))⟩;exact⟨by rw[Yat];exact J,_,r1.append r2,TupD.new _ _⟩

noncomputable def ixN  (n:Nat)(i:Int):Option Nat:=if 0<=i then (if i<n then some i.toNat else none) else if -(n:Int)<=i then some (i+n).toNat else none
def atI  {y:Type}(xs:List y)(i:Int):Option y:=(ixN xs.length i).bind λj=>xs[j]?
def jiJ     (h:ixN n i=some j):Yei i n=some j/\j<n/\-(n:Int)<=i/\i<n:=by
 unfold ixN at h;by_cases h0:0<=i
 ·rw[if_pos h0]at h;by_cases y:i<n
  ·rw[if_pos y]at h;have e:i.toNat=j:=Yaw h;exact⟨by rw[seqIndex_of h0 y,e],by lia,by lia,y⟩
  ·rw[if_neg y]at h;cases h
 ·rw[if_neg h0]at h;by_cases y:-(n:Int)<=i
  ·rw[if_pos y]at h;have e:(i+n).toNat=j:=Yaw h;exact⟨by rw[Ygg (by lia) y,e],by lia,y,by lia⟩
  ·rw[if_neg y]at h;cases h
def jgy      (h:atI xs i=some v):∃j,Yei i xs.length=some j/\xs[j]?=some v/\j<xs.length/\-(xs.length:Int)<=i/\i<xs.length:=by
 unfold atI at h;cases e:ixN xs.length i with
 |none=>rw[e]at h;cases h
 |some j=>
  rw[e]at h;obtain⟨z,y,I,F⟩:=jiJ e;exact⟨j,z,h,y,I,F⟩
def jaO    {j:Nat}{v:α}(h:xs[j]?=some v):atI xs (j:Int)=some v:=by
 have y:j<xs.length:=(List.getElem?_eq_some_iff.mp h).1;have e:ixN xs.length (j:Int)=some j:=by
  unfold ixN;rw[if_pos (by lia),if_pos (by lia)];simp
 unfold atI;rw[e];exact h
def jgC  (b:Expr):Prop:=∀o i,subscripted b false o i=operate [o,i] (getItem o i)
def IxR  (X:Cx)(r:R2):Prop:=
 ∀(z j:Expr) (pins:List (Addr×Obj)) (s:Shared) (σ:St) (H:Hp) (x y:V) (v u:Value) (Q:VK),Inv X pins σ H s->RelV x v->RelV y u->r x y H Q->
  subscripted j false v u=operate [v,u] (getItem v u)->wpAny (model X.prog X.w) X.A (Yee z j v u) (EP X pins σ Q) X.xe s
def MtR  (X:Cx)(y:String)(r:V->List V->Hp->VK->Prop):Prop:=
 ∀(j:List (Addr×Obj)) (s:Shared) (σ:St) (H:Hp) (x:V) (xs:List V) (v:Value) (us:List Value) (Q:VK),Inv X j σ H s->RelV x v->Vals xs us->r x xs H Q->
  wpAny (model X.prog X.w) X.A (call (.builtin y) (v::us)) (EP X j σ Q) X.xe s

def IxR.or   (h:IxR X r)(h':IxR X r'):IxR X (λx y H Q=>r x y H Q\/r' x y H Q):=by
 intro j z F s Y H x y v u Q I L J q O;rcases q with q|q
 ·exact h j z F s Y H x y v u Q I L J q O
 ·exact h' j z F s Y H x y v u Q I L J q O
def MtR.or  {y:String}(h:MtR X y r)(h':MtR X y r'):MtR X y (λx xs H Q=>r x xs H Q\/r' x xs H Q):=by
 intro j s L H x xs v z Q I J F q;rcases q with q|q
 ·exact h j s L H x xs v z Q I J F q
 ·exact h' j s L H x xs v z Q I J F q
def jpC   (hr:IxR X r)(Y:PE X a ta)(J:PE X b tb)(hs:jgC b):PE X (.Subscript a b pos) (tOp r ta tb):=by
 intro j s O H Q I h;exact Subscript_ (binT Y J I h λv u s2 x y H2 z L F q=>hr a b j s2 O H2 x y v u Q z L F q (hs _ _))

def rIxL  (K:Yae):R2:=λx y H Q=>∃p j i v,x=.ref p/\y=.int i/\SqL K H p j/\atI j i=some v/\Q v H
def rIxT  (K:Yae):R2:=λx y H Q=>∃p j i v,x=.ref p/\y=.int i/\SqT K H p j/\atI j i=some v/\Q v H
def rIxS  : R2:=λx y H Q=>∃z i c,x=.str z/\y=.int i/\z.length<=Yai/\atI z.cps.toList i=some c/\Q (.str ⟨#[c]⟩) H
def jmb  : IxR X (rIxL X.K):=by
 intro Z xa F s σ H x y v u Q I rx ry h hs;obtain⟨p,xs,i,z,rfl,rfl,hq,he,q⟩:=h;cases rx;obtain⟨t,rfl⟩:=ry;obtain⟨za,r,pl,hz⟩:=I.list hq;obtain⟨j,L,h2,h3,h4,h5⟩:=jgy he;obtain⟨w,ew,Y⟩:=r.get h2;have hl:=r.length;have hn:=jeo;have J:EP X F σ Q w s:=⟨z,H,I,Y,q⟩;by_cases h0:0<=i
 ·have O:i.toNat=j:=by
   rw[seqIndex_of h0 h5]at L;exact Yaw L
  exact item_listR pl.isList h0 (by lia) (by rw[O];simpa using ew) J hs
 ·have O:(i+(za.toArray.size:Int)).toNat=j:=by
   rw[Ygg (by lia) h4]at L
   rw[Yao,<- hl];exact Yaw L
  exact Yf4 (x:=w) pl.isList.typeIs slot_list_getitem.lookup
   (wpAny_getItem_list_neg (Q:=λr s'=>r=w/\EP X F σ Q r s') pl.isList (by lia) (by rw[Yao]<;>lia) (by lia) (by rw[O];simpa using ew) ⟨rfl,J⟩) hs
def joc  : IxR X (rIxT X.K):=by
 intro O Y F s Z H x y v u Q I rx ry h hs;obtain⟨p,xs,i,z,rfl,rfl,hq,he,q⟩:=h;cases rx;obtain⟨t,rfl⟩:=ry;obtain⟨xa,r,pl,hz⟩:=I.tuple hq;obtain⟨j,h1,h2,h3,h4,h5⟩:=jgy he;obtain⟨w,ew,J⟩:=r.get h2;have hl:=r.length;have hn:=jeo;have L:EP X F Z Q w s:=⟨z,H,I,J,q⟩;exact Yf4 (x:=w) pl.typeIs slot_tuple_getitem.lookup
  (getItem_tuple (j:=j) (Q:=λr s'=>r=w/\EP X F Z Q r s') pl (by lia) (by lia) (by rw[Yao,<- hl];exact h1) (by simpa using ew) ⟨rfl,L⟩) hs
def jod  : IxR X rIxS:=by
 intro F J L s σ H x y v u Q I rx ry h hs;obtain⟨z,i,c,rfl,rfl,hz,Z,q⟩:=h;obtain⟨t,rfl⟩:=rx;obtain⟨t',rfl⟩:=ry;obtain⟨j,O,h2,h3,h4,h5⟩:=jgy Z;have hl:z.cps.toList.length=z.length:=by simp[Str.length]
 rw[hl]at O h4 h5;have hn:=jeo;exact tail_any (YdQ s z t) slot_str_getitem.lookup (getItem_str (c:=c) (by
  have e1:decide (i < -(2 ^ 63:Int))=false:=decide_eq_false (by lia)
  have Y:decide (i ≥ 2 ^ 63)=false:=decide_eq_false (by lia)
  rw[e1,Y,Bool.or_false]) (by rw[O];simpa using h2) ⟨.str ⟨#[c]⟩,H,I.tok _,⟨_,rfl⟩,q⟩) hs
def rIx  (K:Yae):R2:=λx y H Q=>rIxL K x y H Q\/rIxT K x y H Q\/rIxS x y H Q
def joe  : IxR X (rIx X.K):=jmb.or (joc.or jod)

def jhx  (y:List Value)(n j:Nat) u:Yd8 (·.setIfInBounds j u) { cls:=.type "list",data:=.seq y.toArray n }={ cls:=.type "list",data:=.seq (y.set j u).toArray n }:=by
 simp[Yd8]
def Inv.lst   {y:St}(I:Inv X pins y H s)(h:H p=some (.lst xs)) :
  ∃(j:List Value) (n:Nat),Vals xs j/\s.heap.get? p=some { cls:=.type "list",data:=.seq j.toArray n }/\xs.length<=Yai:=by
 obtain⟨z,j,n,r,e⟩:=I.hok p _ h;exact⟨j,n,r,e,z⟩
def Inv.lstUpd   {F:St}{j its':List Value}(I:Inv X pins F H s)(h:H p=some (.lst xs))
  (L:s.heap.get? p=some { cls:=.type "list",data:=.seq j.toArray n }) (y:f { cls:=.type "list",data:=.seq j.toArray n }={ cls:=.type "list",data:=.seq its'.toArray z }) (r:Vals ys its') (J:ys.length<=Yai) t :
  Inv X pins F (upd H p (.lst ys)) { s with heap:=s.heap.update p f,toks:=t }:=by
 have e:(s.heap.update p f).get? p=some { cls:=.type "list",data:=.seq its'.toArray z }:=by
  rw[Yb4 f L (by rw[y]<;>rfl),y]
 refine I.write (x:=p) (e:=p) (by rw[h];trivial) (.inl rfl) (λb u O q=>(Ydd _ _ (Ne.symm O)).trans q) ⟨_,e⟩ ?_
 exact⟨J,its',z,r,e⟩
def jm9  : V->V->V->Hp->(Hp->Prop)->Prop:=λo i v H Q=>∃p y k j,o=.ref p/\i=.int k/\H p=some (.lst y)/\ixN y.length k=some j/\Q (upd H p (.lst (y.set j v)))
def jjs  : PSet X jm9:=by
 intro y s σ H o i v ov iv u Q I ro ri rv h;obtain⟨p,xs,k,j,rfl,rfl,Y,hj,q⟩:=h;cases ro;obtain⟨t,rfl⟩:=ri;obtain⟨z,n,r,J,hz⟩:=I.lst Y;obtain⟨F,h2,O,Z⟩:=jiJ hj;have L:=r.length;have hn:=jeo;have I':Inv X y σ (upd H p (.lst (xs.set j v))) { s with heap:=s.heap.update p (Yd8 (·.setIfInBounds j u)) }:=
  I.lstUpd Y J (jhx z n j u) (r.set rv j) (by rw[YcN];exact hz) s.toks
 by_cases h0:0<=k
 ·have hk:k.toNat=j:=by
   rw[seqIndex_of h0 Z]at F;exact Yaw F
  exact PySem.W.ki_setAt J h0 (by lia) (by rw[Yao,<- L];exact Z) (by rw[hk];exact⟨_,I',q⟩)
 ·have hk:(k+(z.toArray.size:Int)).toNat=j:=by
   rw[Ygg (by lia) O]at F
   rw[Yao,<- L];exact Yaw F
  exact PySem.W.ki_setBack J (by lia) (by rw[Yao,<- L];exact O) (by lia) (by rw[hk];exact⟨_,I',q⟩)

def jfe   lo hi n:(Ycv lo hi none n).1=((HT.sIx n 0 lo:Nat):Int)/\(Ycv lo hi none n).2.1=((HT.sIx n n hi:Nat):Int)/\(Ycv lo hi none n).2.2=1:=by
 refine⟨?_,?_,rfl⟩
 ·cases lo with
  |none=>simp[Ycv,HT.sIx]
  |some i=>
   simp only[Ycv,HT.sIx,YfR,show(1:Int)>0 by decide,if_true]
   by_cases h:i<0
   ·simp only[h,if_true]<;>lia
   ·simp only[h,if_false]<;>lia
 ·cases hi with
  |none=>simp[Ycv,HT.sIx]
  |some i=>
   simp only[Ycv,HT.sIx,YfR,show(1:Int)>0 by decide,if_true]
   by_cases h:i<0
   ·simp only[h,if_true]<;>lia
   ·simp only[h,if_false]<;>lia
def jeK  (j:List Value) lo hi:Yeg j.toArray lo hi none=((j.drop (HT.sIx j.length 0 lo)).take (HT.sIx j.length j.length hi-HT.sIx j.length 0 lo)).toArray:=by
 obtain⟨z,y,F⟩:=jfe lo hi j.toArray.size;unfold Yeg;rw[z,y,F];simp only[sliceRange_one,pick_run,Yao]<;>rfl
def rSlL  (K:Yae):V->Option Int->Option Int->Hp->VK->Prop:=λx y z H Q=>∃a j,x=.ref a/\SqL K H a j/\∀p,H p=none->Q (.ref p) (upd H p (.lst (cutV j y z)))
def jlm  : SlR X (rSlL X.K):=by
 intro J s σ H x v vl vu z F sl Q I rx hs Z pu h;obtain⟨a,j,rfl,Y,q⟩:=h;cases rx;obtain⟨xa,r,L,O⟩:=I.list Y;have y:=r.length;refine⟨"list",_,slot_list_getitem.lookup,L.isList.typeIs,?_⟩;refine Ydg L.isList hs Z pu .none (by simp) ?_ (by rw[Yao]<;>lia)
 rw[jeK,<- y];refine⟨.ref s.heap.objs.size,_,I.laid (t':=s.toks) (o:=.lst (cutV j z F)) (λb ob q=>Yad _ q) (Yac _) ?_,rfl,q _ (I.hok.fresh (Yac _))⟩;exact⟨Yaf (jd8 j z F) O,_,0,(r.drop (HT.sIx j.length 0 z)).take (HT.sIx j.length j.length F-HT.sIx j.length 0 z),Yay _ rfl⟩

noncomputable def jdo  : V->Bool
 |.non=>true
 |.bl _=>true
 |.int _=>true
 |.str _=>true
 |_=>false
noncomputable def eqV  : V->V->Bool
 |.non,.non=>true
 |.bl a,.bl b=>a==b
 |.bl a,.int b=>(if a then 1 else 0)==b
 |.int a,.bl b=>a==(if b then 1 else 0)
 |.int a,.int b=>a==b
 |.str a,.str b=>a==b
 |_,_=>false
def jox      (F:RelV y u)(j:RelV x v)(J:jdo y=true)(I:jdo x=true):YfO A s u v (eqV y x):=by
 cases y with
 |non=>
  cases F;cases x with
  |non=>cases j;exact YfO.same _
  |bl b=>cases j;exact YfO.none_bool b
  |int b=>obtain⟨t,rfl⟩:=j;exact YfO.none_int b t
  |str b=>obtain⟨t,rfl⟩:=j;exact YfO.none_str b t
  |_=>exact absurd (show false=true from I) Yal
 |bl a=>
  cases F;cases x with
  |non=>cases j;exact YfO.bool_none a
  |bl b=>cases j;exact YfO.bool_bool a b
  |int b=>obtain⟨t,rfl⟩:=j;exact YfO.bool_int a b t
  |str b=>obtain⟨t,rfl⟩:=j;exact YfO.bool_str a b t
  |_=>exact absurd (show false=true from I) Yal
 |int a=>
  obtain⟨z,rfl⟩:=F;cases x with
  |non=>cases j;exact YfO.int_none a z
  |bl b=>cases j;exact YfO.int_bool a z b
  |int b=>obtain⟨t,rfl⟩:=j;exact YfO.int_int a z b t
  |str b=>obtain⟨t,rfl⟩:=j;exact YeM a z b t
  |_=>exact absurd (show false=true from I) Yal
 |str a=>
  obtain⟨z,rfl⟩:=F;cases x with
  |non=>cases j;exact YfO.str_none a z
  |bl b=>cases j;exact YfO.str_bool a z b
  |int b=>obtain⟨t,rfl⟩:=j;exact YeL a z b t
  |str b=>obtain⟨t,rfl⟩:=j;exact YfO.str_str a z b t
  |_=>exact absurd (show false=true from I) Yal
 |_=>exact absurd (show false=true from J) Yal
def eqU  (x:V)(u:Value):Bool:=match u with
 |.none=>eqV .non x
 |.bool b=>eqV (.bl b) x
 |.int i _=>eqV (.int i) x
 |.str z _=>eqV (.str z) x
 |_=>false
def jkY    (r:RelV y u)(f:jdo y=true):eqU x u=eqV y x:=by
 cases y with
 |non=>cases r;rfl
 |bl b=>cases r;rfl
 |int i=>obtain⟨t,rfl⟩:=r;rfl
 |str z=>obtain⟨t,rfl⟩:=r;rfl
 |_=>exact absurd (show false=true from f) Yal
theorem jea   : ∀{xs } {us },Vals xs us->xs.all jdo=true->us.any (eqU x)=xs.any λy=>eqV y x
 |_,_,.nil,_=>rfl
 |y::xs,u::us,.cons r t,f=>by
  rw[Ybj,Yaq]at f;rw[YbO,YbO,jkY r f.1,jea t f.2]
theorem jcL      (z:RelV x v)(j:jdo x=true):∀{xs } {us },Vals xs us->xs.all jdo=true->∀u∈us,YfO A s u v (eqU x u)
 |_,_,.nil,_=>λu hu=>by cases hu
 |y::xs,u::us,.cons r t,f=>λF hu=>by
  rw[Ybj,Yaq]at f;rcases Yap.mp hu with rfl|hu
  ·rw[jkY r f.1];exact jox r z f.1 j
  ·exact jcL z j t f.2 F hu
def inV  (x:V)(xs:List V):Bool:=xs.any λy=>eqV y x
def rIn  (K:Yae)(z:Bool):R2:=λx y H Q=>∃p j,y=.ref p/\(SqL K H p j\/SqT K H p j)/\jdo x=true/\j.all jdo=true/\Q (.bl (if z then !inV x j else inV x j)) H
def jio  : OpR X (YaX .In) (rIn X.K false):=by
 intro L s σ H x y v u Q I Y ry h;obtain⟨p,xs,rfl,z,O,fs,q⟩:=h;cases ry;rcases z with z|z
 ·obtain⟨j,r,J,Z⟩:=I.list z;refine Ygm (eqU x) J.isList (λw F=>jcL Y O r fs w (by simpa using F)) ⟨.bl _,H,I,rfl,?_⟩
  rw[show j.toArray.any (eqU x)=j.any (eqU x) by simp,jea r fs]
  exact q
 ·obtain⟨j,r,J,Z⟩:=I.tuple z;refine Yf5 (eqU x) J (λw F=>jcL Y O r fs w (by simpa using F)) ⟨.bl _,H,I,rfl,?_⟩
  rw[show j.toArray.any (eqU x)=j.any (eqU x) by simp,jea r fs]
  exact q
def jfk  : OpR X (YaX .NotIn) (rIn X.K true):=by
 intro L s σ H x y v u Q I Y ry h;obtain⟨p,xs,rfl,z,O,fs,q⟩:=h;cases ry;rcases z with z|z
 ·obtain⟨j,r,J,Z⟩:=I.list z;refine Yfx (eqU x) J.isList (λw F=>jcL Y O r fs w (by simpa using F)) ⟨.bl _,H,I,rfl,?_⟩
  rw[show j.toArray.any (eqU x)=j.any (eqU x) by simp,jea r fs]
  exact q
 ·obtain⟨j,r,J,Z⟩:=I.tuple z;refine Yfm (eqU x) J (λw F=>jcL Y O r fs w (by simpa using F)) ⟨.bl _,H,I,rfl,?_⟩
  rw[show j.toArray.any (eqU x)=j.any (eqU x) by simp,jea r fs]
  exact q
def jaW.or    (h:jaW X f r)(h':jaW X f r'):jaW X f (λxs H Q=>r xs H Q\/r' xs H Q):=by
 intro j s F H xs y Q I z q;rcases q with q|q
 ·exact h j s F H xs y Q I z q
 ·exact h' j s F H xs y Q I z q
def jfM  : jaW X (.type "list") (λxs H Q=>∃p ys,xs=[.ref p]/\(SqL X.K H p ys\/SqT X.K H p ys)/\∀l,H l=none->Q (.ref l) (upd H l (.lst ys))):=by
 intro J s σ H xs us Q I r h;obtain⟨p,ys,rfl,hq,q⟩:=h;obtain⟨u,rfl,rx⟩:=jcV r;cases rx;have Y:∀(j:List Value),Vals ys j->ys.length<=Yai->∀(y:Heap) (F:Nat),(∀b o',s.heap.get? b=some o'->y.get? b=some o')->
   y.get? s.heap.objs.size=some { cls:=.type "list",dict:=none,data:=.seq j.toArray F,slots:=#[] }->EP X J σ Q (.ref s.heap.objs.size) { s with heap:=y }:=λj z L y F O e=>
  ⟨.ref s.heap.objs.size,_,I.laid (t':=s.toks) O (Yac _) (show jaE X.prog X.w _ y _ (.lst ys)from⟨L,j,F,z,e⟩),rfl,q _ (I.hok.fresh (Yac _))⟩
 rcases hq with hq|hq
 ·obtain⟨j,z,pl,L⟩:=I.list hq;have Z:=z.length;obtain⟨o,ho,hc,n,hd⟩:=pl.isList;exact call_list_seq p (.inl rfl) ho hc hd (λy F O e=>Y j z L y F O e) (by simp only[Yao]<;>lia)
 ·obtain⟨j,z,pl,L⟩:=I.tuple hq;have Z:=z.length;obtain⟨o,ho,hc,n,hd⟩:=pl;exact call_list_seq p (.inr rfl) ho hc hd (λy F O e=>Y j z L y F O e) (by simp only[Yao]<;>lia)
def je3  : jaW X (.type "tuple") (λxs H Q=>∃p ys,xs=[.ref p]/\((SqL X.K H p ys/\∀l,H l=none->Q (.ref l) (upd H l (.tup ys)))\/(SqT X.K H p ys/\Q (.ref p) H))):=by
 intro j s σ H xs us Q I r h;obtain⟨p,ys,rfl,h⟩:=h;obtain⟨u,rfl,rx⟩:=jcV r;cases rx;rcases h with⟨F,q⟩|⟨F,q⟩
 ·obtain⟨y,L,J,Y⟩:=I.list F;have Z:=L.length;refine call_tuple_list J.isList (λz kp=>?_) (by simp only[Yao]<;>lia)
  have O:Inv X j σ H { s with heap:=z }:=I.kept (t':=s.toks) kp
  have I2:Inv X j σ (upd H z.objs.size (.tup ys)) { s with heap:=z.push { cls:=.type "tuple",data:=.seq y.toArray } }:=
   O.laid (t':=s.toks) (λb o e=>Yad _ e) (Yac _) (show jaE X.prog X.w _ _ _ (.tup ys)from⟨Y,y,L,TupD.new _ _⟩)
  exact⟨.ref z.objs.size,_,I2,rfl,q _ (O.hok.fresh (Yac _))⟩
 ·obtain⟨y,L,J,Y⟩:=I.tuple F;exact call_tuple_same J ⟨.ref p,H,I,rfl,q⟩

def tyV  (K:Yae)(T:String)(x:V)(H:Hp):Prop:=match x with
 |.str _=>T = "str"
 |.int _=>T = "int"
 |.ref p=>(T = "list" /\ ∃y,SqL K H p y)\/(T = "tuple" /\ ∃o,K.lookup p=some o/\o.cls=.type "tuple" /\ o.dict=none)\/
   (T = "dict" /\ ((∃j,H p=some (.dK j))\/∃j,H p=some (.dT j)))\/(T = "set" /\ ∃S n,H p=some (.set S n))\/(T = "tuple" /\ ∃y,H p=some (.tup y))
 |_=>False
def jkj   {σ:St}(I:Inv X pins σ H s)(r:RelV x v)(F:tyV X.K T x H) :
  s.TypeIs v T/\∀a,v=.ref a->∃Y,s.heap.get? a=some Y/\Y.dict=none:=by
 cases x with
 |str z=>
  obtain⟨t,rfl⟩:=r;cases(show T = "str" from F);exact⟨YdQ s z t,λ_ e=>nomatch e⟩
 |int i=>
  obtain⟨t,rfl⟩:=r;cases(show T = "int" from F);exact⟨typeIs_int s i t,λ_ e=>nomatch e⟩
 |ref p=>
  cases r;rcases F with⟨rfl,O,hq⟩|⟨rfl,o,hk,hc,hd⟩|⟨rfl,hk⟩|⟨rfl,S,n,hk⟩|⟨rfl,O,hk⟩
  ·obtain⟨L,_,Z,_⟩:=I.list hq;refine⟨Z.isList.typeIs,λa e=>?_⟩;cases e;obtain⟨o,n,e,c,hd,_⟩:=Z;exact⟨o,e,hd⟩
  ·refine⟨⟨o,I.kIn p o hk,hc⟩,λa e=>?_⟩;cases e;exact⟨o,I.kIn _ o hk,hd⟩
  ·have z:∃o,s.heap.get? p=some o/\o.ExactDict:=by
    rcases hk with⟨J,hk⟩|⟨J,hk⟩
    ·obtain⟨_,_,_,_,o,_,_,e,j,_⟩:=I.hok p _ hk;exact⟨o,e,j⟩
    ·obtain⟨_,_,_,_,o,_,_,e,j,_⟩:=I.hok p _ hk;exact⟨o,e,j⟩
   obtain⟨o,e,j⟩:=z;refine⟨⟨o,e,j.1⟩,λa y=>?_⟩;cases y;exact⟨o,e,j.2.1⟩
  ·obtain⟨o,_,_,_,e,j,_⟩:=I.hok p _ hk;refine⟨⟨o,e,j.1⟩,λa y=>?_⟩;cases y;exact⟨o,e,j.2.1⟩
  ·obtain⟨_,L,r,o,e,c,n,d,hd⟩:=(show jaE X.prog X.w H s.heap p (.tup O)from I.hok p _ hk);refine⟨⟨o,e,c⟩,λa y=>?_⟩;cases y;exact⟨o,e,hd⟩
 |_=>exact Yc1 F


def MtM  (X:Cx)(y:String)(r:V->List V->Hp->VK->Prop):Prop:=
 ∀(j:List (Addr×Obj)) (s:Shared) (σ:St) (H:Hp) (x:V) (xs:List V) (v:Value) (us:List Value) (Q:VK),Inv X j σ H s->RelV x v->Vals xs us->r x xs H Q->
  wpAny (model X.prog X.w) X.A (call (.builtin y) (v::us)) (EP X j σ Q) X.xe s

def Vals.one  : ∀{x } {us },Vals [x] us->∃u,us=[u]/\RelV x u
 |_,_,.cons r .nil=>⟨_,rfl,r⟩
def Vals.two  : ∀{x y } {us },Vals [x,y] us->∃u v,us=[u,v]/\RelV x u/\RelV y v
 |_,_,_,.cons r (.cons q .nil)=>⟨_,_,rfl,r,q⟩
def Vals.zero  : ∀{us },Vals [] us->us=[]
 |_,.nil=>rfl
theorem Vals.dropLast    (h:Vals xs us):Vals xs.dropLast us.dropLast:=by
 induction h with
 |nil=>exact .nil
 |cons r t j=>
  cases t with
  |nil=>exact .nil
  |cons q y=>exact .cons r j
theorem Vals.eraseIdx  : ∀{xs } {us } i ,Vals xs us->Vals (xs.eraseIdx i) (us.eraseIdx i)
 |_,_,_,.nil=>.nil
 |_,_,0,.cons _ t=>t
 |_,_,i+1,.cons r t=>.cons r (Vals.eraseIdx i t)
theorem Vals.rep    (h:Vals xs us):∀k ,Vals (Yag k xs).flatten (Yag k us).flatten
 |0=>.nil
 |k+1=>by
  rw[Ybx,Ybx,Ycb,Ycb];exact Vals.append h (Vals.rep h k)
def jhG  {y:Type}(l:List y):l.eraseIdx (l.length-1)=l.dropLast:=by
 induction l with
 |nil=>rfl
 |cons a r j=>
  cases r with
  |nil=>rfl
  |cons b r=>
   have e:(a::b::r).length-1=((b::r).length-1)+1:=by
    have F:(a::b::r).length=r.length+2:=rfl;have z:(b::r).length=r.length+1:=rfl
    lia
   rw[e,YeY,j]
   all_goals rfl
theorem jfu  {j:Type}:∀(l:List j) i ,(l.eraseIdx i).length<=l.length
 |[],_=>Yac _
 |_::_,0=>YdJ _
 |_::r,i+1=>YbC (jfu r i)
theorem jfC  (j:List Value):∀k (acc:List Value),
  Yga (λF z=>F++z) acc.toArray (Yag k j.toArray)=(acc++(Yag k j).flatten).toArray
 |0,acc=>by simp
 |k+1,acc=>by
  have e:acc.toArray++j.toArray=(acc++j).toArray:=by simp
  have y:(acc++j)++(Yag k j).flatten=acc++(Yag (k+1) j).flatten:=by
   rw[Ybx,Ycb,Yc4]
  rw[<- y,<- jfC j k (acc++j),<- e,Ybx,Yeq]

section
variable {X:Cx}{pins:List (Addr×Obj)}{σ:St}{H:Hp}{s:Shared}{l b:Addr}{xs ys zs:List V}

def Inv.lset  {j its':List Value}(I:Inv X pins σ H s)(L:H l=some (.lst xs))
  (e:s.heap.get? l=some { cls:=.type "list",data:=.seq j.toArray n }) (y:f j.toArray=its'.toArray) (z:Vals ys its') (F:ys.length<=Yai) :
  Inv X pins σ (upd H l (.lst ys)) { s with heap:=s.heap.update l (Yd8 f),toks:=t' }:=by
 have q:=PySem.IsL.update e f;rw[y]at q;refine I.write (x:=l) (e:=l) (by rw[L];exact trivial) (.inl rfl) (λO u J hu=>(Ydd s.heap (Yd8 f) (Ne.symm J)).trans hu) ⟨_,q⟩ ?_
 exact⟨F,its',_,z,q⟩
def Inv.lnew    (I:Inv X pins σ H s)(z:Vals ys j)(y:ys.length<=Yai) :
  Inv X pins σ (upd H s.heap.objs.size (.lst ys)) { s with heap:=s.heap.push { cls:=.type "list",data:=.seq j.toArray },toks:=t' }:=
 I.laid (λ_ _ q=>Yad _ q) (Yac _) ⟨y,j,0,z,Yay _ rfl⟩
def Inv.fresh  (I:Inv X pins σ H s):H s.heap.objs.size=none:=I.hok.fresh (Yac _)
def Inv.lstM  (I:Inv X pins σ H s)(y:H l=some (.lst xs)):xs.length<=Yai/\∃(j:List Value) (n:Nat),Vals xs j/\xs.length=j.length/\s.heap.get? l=some { cls:=.type "list",data:=.seq j.toArray n }:=by
 obtain⟨z,j,n,r,e⟩:=I.hok l _ y;exact⟨z,j,n,r,r.length,e⟩

def jg2   (h:n<=Yai):Yb7 n=false:=by
 unfold Yb7;exact decide_eq_false (by lia)
end


def jlw  : V->List V->Hp->VK->Prop:=λx z H Q=>∃l j y,x=.ref l/\z=[y]/\H l=some (.lst j)/\j.length<Yai/\Q .non (upd H l (.lst (j++[y])))
def jfq  : MtM X "list.append" jlw:=by
 intro J s σ H x vs v us Q I Z O h;obtain⟨l,xs,y,rfl,rfl,L,hz,q⟩:=h;cases Z;obtain⟨u,rfl,Y⟩:=O.one;obtain⟨z,j,n,r,hl,e⟩:=I.lstM L;refine YcF F.slot_list_append ⟨_,e,rfl⟩ F.entry_list_append (F.args_list_append_2 _ _) (PySem.list_append l j.toArray n u (by rw[Yao];lia)) ⟨e,?_⟩
 refine⟨.non,_,I.lset (its':=j++[u]) L e (by simp) (r.append (.cons Y .nil)) ?_,rfl,q⟩
 rw[Yat,Ybm]
 lia

def jlv  : V->List V->Hp->VK->Prop:=λx z H Q=>∃l b j y,x=.ref l/\z=[.ref b]/\H l=some (.lst j)/\H b=some (.lst y)/\j.length+y.length<=Yai/\Q .non (upd H l (.lst (j++y)))
def jiz  : MtM X "list.extend" jlv:=by
 intro O s σ H x vs v us Q I rx rv h;obtain⟨l,b,xs,zs,rfl,rfl,Y,hB,hz,q⟩:=h;cases rx;obtain⟨u,rfl,ru⟩:=rv.one;cases ru;obtain⟨z,y,n,r,hl,e⟩:=I.lstM Y;obtain⟨z2,j,n2,r2,xa,Z⟩:=I.lstM hB;have L:y.toArray.size+j.toArray.size<=Yai:=by rw[Yao,Yao];lia
 have J:¬(!y.toArray.isEmpty&&Yb7 (y.toArray.size+j.toArray.size))=true:=by
  rw[jg2 L,YeH];exact Yal
 refine YcF F.slot_list_extend ⟨_,e,rfl⟩ F.entry_list_extend (F.args_list_extend_2 _ _)
  (AutoSeq1.list_extend_list_list_0 l y.toArray n b j.toArray n2 J (by rw[Yao];lia) (by lia)) ⟨e,Z,?_⟩
 refine⟨.non,_,I.lset (its':=y++j) Y e (by simp) (r.append r2) ?_,rfl,q⟩
 rw[Yat]
 lia

def rPop  : V->List V->Hp->VK->Prop:=λx z H Q=>∃l j y,x=.ref l/\z=[]/\H l=some (.lst j)/\j[j.length-1]?=some y/\Q y (upd H l (.lst j.dropLast))
def mt_pop  : MtM X "list.pop" rPop:=by
 intro O s σ H x vs v us Q I rx rv h;obtain⟨l,xs,y,rfl,rfl,Y,hy,q⟩:=h;cases rx;have J:=rv.zero;subst J;obtain⟨z,j,n,r,hl,e⟩:=I.lstM Y;obtain⟨u,hu,Z⟩:=r.get hy;have L:j.toArray[j.toArray.size-1]?=some u:=by
  show j.toArray[j.length-1]?=some u;rw[<- Ydk,<- hl];exact hu
 refine YcF F.slot_list_pop ⟨_,e,rfl⟩ F.entry_list_pop (F.args_list_pop_1 _) (MeetsSeq.list_pop_last l j.toArray n u L (by rw[Yao];lia)) ⟨e,?_⟩
 refine⟨y,_,I.lset (its':=j.dropLast) Y e ?_ r.dropLast ?_,Z,q⟩
 ·show j.toArray.eraseIdxIfInBounds (j.toArray.size-1)=j.dropLast.toArray;rw[Yao,Yd2,jhG]
 ·rw[List.length_dropLast]
  lia

def jnb  : V->List V->Hp->VK->Prop:=λx z H Q=>∃l j i k y,x=.ref l/\z=[.int i]/\H l=some (.lst j)/\-(2 ^ 63)<=i/\i<2 ^ 63/\Yei i j.length=some k/\j[k]?=some y/\Q y (upd H l (.lst (j.eraseIdx k)))
def jjU  : MtM X "list.pop" jnb:=by
 intro L s σ H x vs v us Q I Z rv h;obtain⟨l,xs,i,k,y,rfl,rfl,O,h1,h2,hk,hy,q⟩:=h;cases Z;obtain⟨u,rfl,ru⟩:=rv.one;obtain⟨t,rfl⟩:=ru;obtain⟨z,j,n,r,hl,e⟩:=I.lstM O;obtain⟨w,Y,J⟩:=r.get hy;refine YcF F.slot_list_pop ⟨_,e,rfl⟩ F.entry_list_pop (F.args_list_pop_2 _ _)
  (MeetsSeq.list_pop_at l j.toArray n i t k w (fitsIndex_both h1 h2) (by rw[Yao,<- hl];exact hk) (by rw[<- Ydk];exact Y) (by rw[Yao];lia)) ⟨e,?_⟩
 refine⟨y,_,I.lset (its':=j.eraseIdx k) O e ?_ (r.eraseIdx k) ?_,J,q⟩
 ·show j.toArray.eraseIdxIfInBounds k=(j.eraseIdx k).toArray;rw[Yd2]
 ·have:=jfu xs k
  lia

def rCat  : R2:=λx y H Q=>∃l b j z,x=.ref l/\y=.ref b/\H l=some (.lst j)/\H b=some (.lst z)/\j.length+z.length<=Yai/\∀p,H p=none->Q (.ref p) (upd H p (.lst (j++z)))
def jnO  : OpR X (Ybp .Add) rCat:=by
 intro J s σ H x y v u Q I L Z h;obtain⟨l,b,xs,zs,rfl,rfl,O,hB,hz,q⟩:=h;cases L;cases Z;obtain⟨z,F,n,r,hl,e⟩:=I.lstM O;obtain⟨z2,j,n2,r2,xa,Y⟩:=I.lstM hB;refine PySem.P.add_list e Y ?_ (by rw[Yao,Yao];lia)
 have ea:F.toArray++j.toArray=(F++j).toArray:=by simp
 rw[ea];exact⟨.ref _,_,I.lnew (t':=s.toks) (r.append r2) (by rw[Yat];lia),rfl,q _ I.fresh⟩
def rRep  : R2:=λx y H Q=>∃l k j,x=.ref l/\y=.int k/\H l=some (.lst j)/\-(2 ^ 63)<=k/\k<2 ^ 63/\j.length*k.toNat<=Yai/\
 ∀p,H p=none->Q (.ref p) (upd H p (.lst (Yag k.toNat j).flatten))
def jl7  {y:Type}(xs:List y) k:(Yag k xs).flatten.length=k*xs.length:=by
 induction k with
 |zero=>simp
 |succ k j=>rw[Ybx,Ycb,Yat,j,Yfp,Nat.add_comm]
def jnG  : OpR X (Ybp .Mult) rRep:=by
 intro xa s σ H x y v u Q I rx ry h;obtain⟨l,k,xs,rfl,rfl,hH,h1,h2,hz,q⟩:=h;cases rx;obtain⟨t,rfl⟩:=ry;obtain⟨z,j,n,r,hl,e⟩:=I.lstM hH;have L:j.toArray.size*k.toNat<=Yai:=by rw[Yao,<- hl];exact hz
 have Z:¬j.toArray.size*k.toNat>(2 ^ 63-1)/8:=by
  have:(Yai:Nat)<=(2 ^ 63-1)/8:=by decide
  lia
 have O:¬(!Builtin.List.listFitsIndex k)=true:=by
  rw[fitsIndex_both h1 h2];exact Yal
 have J:¬Yb7 (j.toArray.size*k.toNat)=true:=by
  rw[jg2 L];exact Yal
 have Y:Yga (λx1 x2=>x1++x2) #[] (Yag (if j.toArray.isEmpty=true then 0 else k.toNat) j.toArray)=(Yag k.toNat j).flatten.toArray:=by
  have f0:∀m:Nat,Yga (λx1 x2=>x1++x2) #[] (Yag m j.toArray)=(Yag m j).flatten.toArray:=λm=>by
   have:=jfC j m [];rw[Yb3]at this;exact this
  rw[f0];cases j with
  |nil=>simp
  |cons a r'=>rw[if_neg (by simp)]
 refine wpAny_binaryOp_repeat_ref (T := "list") (U := "int") (by decide) ⟨_,e,rfl⟩ (λs'=>typeIs_int s' k t) noFill_list_mul F.fills_int_mul F.slot_int_rmul repeat_list F.slot_int_index.lookup
  (YcF F.slot_int_rmul (typeIs_int s k t) F.entry_int_rmul (F.args_int_rmul_2 _ _) (int___rmul___int_list k t l j.toArray n)
   ⟨e,rfl,⟨_,e,rfl⟩,YcF F.slot_list_mul ⟨_,e,rfl⟩ F.entry_list_mul (F.args_list_mul_2 _ _) (AutoListH.list___mul___list_int_3 l j.toArray n k t O Z J) ⟨e,?_⟩⟩)
 rw[Y];exact⟨.ref _,_,I.lnew (t':=s.toks) (r.rep k.toNat) (by rw[jl7,Yfq];exact hz),rfl,q _ I.fresh⟩






section
variable {κ:Type}[DecidableEq κ]
noncomputable def valV (kvs:List (κ×V))(k:κ):Option V:=(kvs.find? λj=>decide (j.1=k)).map (·.2)
noncomputable def putK (kvs:List (κ×V))(k:κ)(v:V):List (κ×V):=
 if (kvs.any λj=>decide (j.1=k))=true then kvs.map (λj=>if j.1=k then (j.1,v) else j) else kvs++[(k,v)]
def jdp    {k:κ}(e:p.1=k):valV (p::r) k=some p.2:=by simp[valV,Ya7,e]
def jdq    {k:κ}(e:¬p.1=k):valV (p::r) k=valV r k:=by simp[valV,Ya7,e]
theorem jgE  (k:κ):∀kvs ,(kvs.any λj=>decide (j.1=k))=(valV kvs k).isSome
 |[]=>rfl
 |p::r=>by
  rw[YbO];by_cases e:p.1=k
  ·simp only[jdp e,decide_eq_true e,Bool.true_or,Option.isSome_some]
  ·rw[jdq e,decide_eq_false e,Ye2];exact jgE k r
def jbQ  (kvs:List (κ×V)) k v:(putK kvs k v).length<=kvs.length+1:=by
 unfold putK;split
 ·rw[Yaa];lia
 ·rw[Yat,YaU,Yct];lia
def RelO.isSome_eq    (r:RelO o u):o.isSome=u.isSome:=by
 cases o with
 |none=>cases u with
  |none=>rfl
  |some _=>exact(show False from r).elim
 |some _=>cases u with
  |none=>exact(show False from r).elim
  |some _=>rfl
theorem RelO.getD      (r:RelO o u)(rd:RelV d d'):RelV (o.getD d) (u.getD d'):=by
 cases o with
 |none=>cases u with
  |none=>exact rd
  |some _=>exact(show False from r).elim
 |some _=>cases u with
  |none=>exact(show False from r).elim
  |some _=>exact r

def KV.val    (r:KV kvs vs)(k:κ):RelO (valV kvs k) (valueAt vs k):=by
 unfold KV at r
 induction r with
 |nil=>exact YbR
 |@cons p q L y h t I=>
  obtain⟨F,J⟩:=h;by_cases e:p.1=k
  ·have j:q.1=k:=F.symm.trans e;have b:valueAt (q::y) k=some q.2:=by simp[valueAt,Ya7,j]
   rw[jdp e,b];exact J
  ·have j:¬q.1=k:=λz=>e (F.trans z);have b:valueAt (q::y) k=valueAt y k:=by simp[valueAt,Ya7,j]
   rw[jdq e,b];exact I
theorem KV.any    (r:KV kvs vs)(k:κ):(kvs.any λj=>decide (j.1=k))=vs.any λj=>decide (j.1=k):=by
 unfold KV at r
 induction r with
 |nil=>rfl
 |cons h t y=>rw[YbO,YbO,y,h.1]
def KV.repl    (r:KV kvs vs)(k:κ)(J:RelV y u) :
  KV (kvs.map λj=>if j.1=k then (j.1,y) else j) (vs.map λj=>if j.1=k then (j.1,u) else j):=by
 unfold KV at r ⊢
 induction r with
 |nil=>exact .nil
 |@cons p q O Y h t I=>
  rw[YaO,YaO];refine .cons ?_ I;obtain⟨F,L⟩:=h;by_cases e:p.1=k
  ·rw[if_pos e,if_pos (F.symm.trans e)];exact⟨F,J⟩
  ·rw[if_neg e,if_neg (λz=>e (F.trans z))];exact⟨F,L⟩
def KV.put    (r:KV kvs vs)(k:κ)(j:RelV y u):KV (putK kvs k y) (stored vs k u):=by
 unfold putK stored;rw[r.any k];by_cases e:(vs.any λz=>decide (z.1=k))=true
 ·rw[if_pos e,if_pos e];exact r.repl k j
 ·rw[if_neg e,if_neg e];exact Paired.snoc r ⟨rfl,j⟩
def KV.length {kvs:List (κ×V)}{vs:List (κ×Value)}(r:KV kvs vs):kvs.length=vs.length:=Yc2 r
end

def jgg      (r:RelV (kV k) u):(jam P w).is k u=true:=by
 cases k with
 |inl i=>obtain⟨t,e⟩:=(show ∃t,u=Ye7 i t from r);subst e;exact jgd P w i t
 |inr x=>obtain⟨t,e⟩:=(show ∃t,u=Ye6 x t from r);subst e;exact jgc P w x t
theorem jfx    : ∀{j } {us },Vals (j.map kV) us->ItemsAre (jam P w) j us
 |[],_,r=>by rw[Yd9]at r;cases r;exact .nil
 |k::j,_,r=>by
  rw[YaO]at r;cases r with
  |cons h t=>exact .cons (jgg h) (jfx t)

abbrev KT  (H:Hp):List (List Key×V)->List (List Key×Addr×Value)->Prop:=Paired λp q=>p.1=q.1/\H q.2.1=some (.tup (p.1.map kV))/\RelV p.2 q.2.2
def KT.val     (r:KT H kvs xs) k:RelO (valV kvs k) ((atKey xs k).map (·.2)):=by
 induction r with
 |nil=>exact YbR
 |@cons p q L y h t I=>
  obtain⟨F,_,J⟩:=h;by_cases e:p.1=k
  ·have j:q.1=k:=F.symm.trans e;have b:atKey (q::y) k=some q.2:=by simp[atKey,Ya7,j]
   rw[jdp e,b];exact J
  ·have j:¬q.1=k:=λz=>e (F.trans z);have b:atKey (q::y) k=atKey y k:=by simp[atKey,Ya7,j]
   rw[jdq e,b];exact I
def KT.repl     (r:KT H kvs xs) k (O:RelV y u) :
  KT H (kvs.map λF=>if F.1=k then (F.1,y) else F) (xs.map (putAt k u)):=by
 induction r with
 |nil=>exact .nil
 |@cons p q Y Z h t J=>
  rw[YaO,YaO];refine .cons ?_ J;obtain⟨j,I,L⟩:=h;unfold putAt;by_cases e:p.1=k
  ·rw[if_pos e,if_pos (j.symm.trans e)];exact⟨j,I,O⟩
  ·rw[if_neg e,if_neg (λz=>e (j.trans z))];exact⟨j,I,L⟩
def KT.put     (r:KT H kvs xs)(k:List Key)(z:H b=some (.tup (k.map kV)))(j:RelV y u) :
  KT H (putK kvs k y) (storedH xs k b u):=by
 have e:(kvs.any λF=>decide (F.1=k))=(atKey xs k).isSome:=by
  rw[jgE,(r.val k).isSome_eq,YdT]
 unfold putK storedH;rw[e];by_cases q:(atKey xs k).isSome=true
 ·rw[if_pos q,if_pos q];exact r.repl k j
 ·rw[if_neg q,if_neg q];exact Paired.snoc r ⟨rfl,z,j⟩
def KT.keeps     (r:KT H kvs xs)(j:∀b ys,H b=some (.tup ys)->H' b=some (.tup ys)):KT H' kvs xs:=
 Paired.mapP r λ_ _ z=>⟨z.1,j _ _ z.2.1,z.2.2⟩


def jm8   (ok:HOk P w H h)(e:Rd H a u):jaE P w H h a u:=e.ok ok
def jgq   (ok:HOk P w H h)(e:Rd H a (.dK kvs)):kvs.length<=Yai/\(a==Ya6)=false/\∃vs,KV kvs vs/\h.DictOf (jam P w) a vs:=
 show jaE P w H h a (.dK kvs)from jm8 ok e
def joA   (ok:HOk P w H h)(e:H a=some (.dK kvs)):kvs.length<=Yai/\(a==Ya6)=false/\∃vs,KV kvs vs/\h.DictOf (jam P w) a vs:=jgq ok (.inl e)
def jdf   (ok:HOk P w H h)(e:H a=some (.tup (y.map kV))):(Yco (jam P w)).is h y a:=by
 obtain⟨_,j,r,o,I,F,n,z,_⟩:=(show jaE P w H h a (.tup (y.map kV))from ok a _ e);exact⟨o,j.toArray,n,I,F,z,by simpa using jfx r⟩
def jhH   (ok:HOk P w H h)(e:Rd H a (.dT kvs)):kvs.length<=Yai/\(a==Ya6)=false/\
  ∃xs,KT H kvs xs/\h.DictOfH (Yco (jam P w)) a xs:=by
 obtain⟨z,y,xs,r,o,L,Z,h1,h2,J,Y,O⟩:=(show jaE P w H h a (.dT kvs)from jm8 ok e);refine⟨z,y,xs,r,o,L,Z,h1,h2,J,Y,λx j=>?_,O⟩;have all:∀{l:List (List Key×V)} {m:List (List Key×Addr×Value)},KT H l m->∀x∈m,(Yco (jam P w)).is h x.1 x.2.1:=by
  intro l m q
  induction q with
  |nil=>intro x j;exact nomatch j
  |@cons p q ps qs F t I=>
   intro x j;rcases Yap.mp j with e|j
   ·subst e;exact jdf ok (by rw[<- F.1];exact F.2.1)
   ·exact I x j
 exact all r x j
def jpZ   (ok:HOk P w H h)(e:H a=some (.dT kvs)):kvs.length<=Yai/\(a==Ya6)=false/\
  ∃xs,KT H kvs xs/\h.DictOfH (Yco (jam P w)) a xs:=jhH ok (.inl e)

def DGet  (H:Hp)(a:Addr)(y:V)(r:Option V):Prop:=
 (∃j k,Rd H a (.dK j)/\y=kV k/\r=valV j k)\/∃j k b,Rd H a (.dT j)/\y=.ref b/\H b=some (.tup (k.map kV))/\r=valV j k
def DPut  (H:Hp)(a:Addr)(y v:V)(z:Hp):Prop:=
 (∃j k,H a=some (.dK j)/\y=kV k/\j.length<Yai/\z=upd H a (.dK (putK j k v)))\/
 ∃j k b,H a=some (.dT j)/\y=.ref b/\H b=some (.tup (k.map kV))/\j.length<Yai/\z=upd H a (.dT (putK j k v))
def DGet.k     {k:Key}(e:H a=some (.dK kvs)):DGet H a (kV k) (valV kvs k):=.inl ⟨kvs,k,.inl e,rfl,rfl⟩
def DGet.t     {k:List Key}(e:H a=some (.dT kvs))(j:H b=some (.tup (k.map kV))):DGet H a (.ref b) (valV kvs k):=.inr ⟨kvs,k,b,.inl e,rfl,j,rfl⟩
def DPut.k     {k:Key}(e:H a=some (.dK kvs))(j:kvs.length<Yai):DPut H a (kV k) v (upd H a (.dK (putK kvs k v))):=.inl ⟨kvs,k,e,rfl,j,rfl⟩
def DPut.t     {k:List Key}(e:H a=some (.dT kvs))(j:H b=some (.tup (k.map kV)))(y:kvs.length<Yai) :
  DPut H a (.ref b) v (upd H a (.dT (putK kvs k v))):=.inr ⟨kvs,k,b,e,rfl,j,y,rfl⟩


def Inv.big  {j: St}(I:Inv X pins j H s):Ya6<s.heap.objs.size:=by
 have h:YaJ<s.heap.objs.size:=(I.mod.glob.keeps I.bk).lt;exact Yfr (by decide) h

def ji4  {σ: St}(hu:A.units+1<cLine)(I:Inv X pins σ H s)(g:DGet H a y (some v))(ry:RelV y u)(h:∀J s',Inv X pins σ H s'->RelV v J->Q J s') :
  wpAny (model X.prog X.w) A (getItem (.ref a) u) Q E s:=by
 rcases g with⟨Z,k,e,Y,l⟩|⟨Z,k,b,e,Y,eb,l⟩
 ·subst Y;obtain⟨z,hd,vs,F,dd⟩:=jgq I.hok e;obtain⟨J,L,j⟩:=RelO.some_of (v:=v) (o:=valueAt vs k) (by rw[l];exact F.val k)
  exact wpAny_getItem_of (jgg ry) dd.mapOf L (h J _ (I.tok _) j)
 ·subst Y;cases(show u=Ya1 b from ry);obtain⟨z,hd,xs,F,dd⟩:=jhH I.hok e;obtain⟨J,L,j⟩:=RelO.some_of (v:=v) (o:=(atKey xs k).map (·.2)) (by rw[l];exact F.val k)
  obtain⟨p,hp,O⟩:=Option.map_eq_some_iff.mp L;refine wpAny_getItem_heap (Yb9 hu) (jdf I.hok eb) dd hp ?_;rw[O];exact h J _ (I.tok _) j
def d_in  {Z: St}(hu:A.units+1<cLine)(I:Inv X pins Z H s)(g:DGet H a y o)(O:RelV y u)(h:∀Y,Inv X pins Z H Y->Q (.bool o.isSome) Y) :
  wpAny (model X.prog X.w) A (YaX .In u (.ref a)) Q E s:=by
 rcases g with⟨J,k,e,F,l⟩|⟨J,k,b,e,F,eb,l⟩
 ·subst F;obtain⟨z,hd,vs,j,L⟩:=jgq I.hok e;refine wpAny_in_of (jgg O) hd L.mapOf ?_;rw[<- (j.val k).isSome_eq,<- l];exact h _ (I.tok _)
 ·subst F;cases(show u=Ya1 b from O);obtain⟨z,hd,xs,j,L⟩:=jhH I.hok e;refine wpAny_in_heap (Yb9 hu) (jdf I.hok eb) hd L ?_;have q:=(j.val k).isSome_eq;rw[YdT]at q;rw[<- q,<- l];exact h _ (I.tok _)
def jmo  {Z: St}(hu:A.units+1<cLine)(I:Inv X pins Z H s)(g:DGet H a y o)(O:RelV y u)(h:∀Y,Inv X pins Z H Y->Q (.bool (!o.isSome)) Y) :
  wpAny (model X.prog X.w) A (YaX .NotIn u (.ref a)) Q E s:=by
 rcases g with⟨J,k,e,F,l⟩|⟨J,k,b,e,F,eb,l⟩
 ·subst F;obtain⟨z,hd,vs,j,L⟩:=jgq I.hok e;refine wpAny_notIn_of (jgg O) hd L.mapOf ?_;rw[<- (j.val k).isSome_eq,<- l];exact h _ (I.tok _)
 ·subst F;cases(show u=Ya1 b from O);obtain⟨z,hd,xs,j,L⟩:=jhH I.hok e;refine wpAny_notIn_heap (Yb9 hu) (jdf I.hok eb) hd L ?_;have q:=(j.val k).isSome_eq;rw[YdT]at q;rw[<- q,<- l];exact h _ (I.tok _)
def jgs  {y: St}(I:Inv X pins y H s)(L:Mut (H a))(hs:YcT a s.heap h')(F:∃q,h'.get? a=some q)(new:jaE X.prog X.w (upd H a j) h' a j) :
  Inv X pins y (upd H a j) { s with heap:=h',toks:=t' }:=
 I.write (x:=a) (e:=a) L (.inl rfl) (λb q J z=>(hs.2 b J).trans z) F new
def jk0        (z:kvs.length<=Yai)(hd:(a==Ya6)=false)(j:KV kvs vs)(y:h'.DictOf (jam P w) a vs) :
  jaE P w H' h' a (.dK kvs):=⟨z,hd,vs,j,y⟩
def ji3  {σ: St}(hu:A.units+1<cLine)(I:Inv X pins σ H s)(g:DPut H a y v H')(ry:RelV y u)(rv:RelV v r)(h:∀s',Inv X pins σ H' s'->Q () s') :
  wpAny (model X.prog X.w) A (setItem (.ref a) u r) Q E s:=by
 rcases g with⟨j,k,e,Y,l,Z⟩|⟨j,k,b,e,Y,eb,l,Z⟩
 ·subst Y Z;obtain⟨z,hd,vs,F,O⟩:=joA I.hok e;have hz:vs.length<=Yai:=by rw[<- F.length];exact z
  have hl:(putK j k v).length<=Yai:=by have:=jbQ j k v;lia
  refine wpAny_setItem_pairs (hsz:=hz) (jgg ry) O λh' J hs=>h _ ?_;have he:∃q,h'.get? a=some q:=let ⟨q,_,_,L,_⟩:=J;⟨q,L⟩
  exact jgs I (by rw[e];exact YbR) hs he (jk0 hl hd (F.put k rv) J)
 ·subst Y Z;cases(show u=Ya1 b from ry);obtain⟨z,hd,xs,F,O⟩:=jpZ I.hok e;have hz:xs.length<=Yai:=by rw[<- Yc2 F];exact z
  have hl:(putK j k v).length<=Yai:=by have:=jbQ j k v;lia
  refine wpAny_setItem_heap (hsz:=hz) (Yb9 hu) (jdf I.hok eb) O λh' J hs=>h _ ?_;obtain⟨q,es,ep,L,h2,h3,h4,_,h5⟩:=J;refine jgs I (by rw[e];exact YbR) hs ⟨q,L⟩ ⟨hl,hd,_,(F.put k eb rv).keeps λc ys ec=>?_,q,es,ep,L,h2,h3,h4,h5⟩
  rw[jad (jpJ ec e (λz=>nomatch z))];exact ec


def jp1  {F: St}(I:Inv X pins F H s)(e:Rd H a (.dK kvs))(h:∀t y,Inv X pins F H y->Q (.int kvs.length t) y):wpAny (model X.prog X.w) A (call (.builtin "len") [.ref a]) Q E s:=by
 obtain⟨z,hd,L,j,J⟩:=jgq I.hok e;refine call_len_dict hd J (by rw[<- j.length];rw[YbV]at z;lia) ?_
 rw[<- j.length];exact h _ _ (I.tok _)

def jgr    {F:St}(I:Inv X pins F H s)(g:DGet H a y o):s.TypeIs (.ref a) "dict" := by
 rcases g with⟨j,k,e,_,_⟩|⟨j,k,b,e,_,_,_⟩
 ·obtain⟨_,_,J,_,z⟩:=jgq I.hok e;exact z.typeIs
 ·obtain⟨_,_,L,_,z⟩:=jhH I.hok e;exact z.typeIs


def jhh     (h:Heap)(j:Ya6<h.objs.size):jaE P w H (h.push { cls:=.type "dict",data:=.dict #[] }) h.objs.size (.dK []):=
 ⟨YaF _,beq_eq_false_iff_ne.mpr (Ne.symm (YaD j)),[],.nil,Heap.DictOf.new h⟩
def jj3     (h:Heap)(j:Ya6<h.objs.size):jaE P w H (h.push { cls:=.type "dict",data:=.dict #[] }) h.objs.size (.dT []):=
 ⟨YaF _,beq_eq_false_iff_ne.mpr (Ne.symm (YaD j)),[],.nil,_,#[],0,Yay _ rfl,⟨rfl,rfl,rfl⟩,rfl,rfl,YeC⟩
def jmQ  : TE:=λ_ H Q=>∀p,H p=none->Q (.ref p) (upd H p (.dK []))
def jmP  : TE:=λ_ H Q=>∀p,H p=none->Q (.ref p) (upd H p (.dT []))

def jjN  : PE X (.Dict [] [] pos) jmQ:=λj s y H Q I h=>
 wpAny_Dict_empty ⟨.ref s.heap.objs.size,_,I.laid (a:=s.heap.objs.size) (o:=.dK []) (t':=s.toks) (λ_ _ q=>Yad _ q) (Yac _) (jhh s.heap I.big),rfl,h _ (I.hok.fresh (Yac _))⟩
def jjM  : PE X (.Dict [] [] pos) jmP:=λj s y H Q I h=>
 wpAny_Dict_empty ⟨.ref s.heap.objs.size,_,I.laid (a:=s.heap.objs.size) (o:=.dT []) (t':=s.toks) (λ_ _ q=>Yad _ q) (Yac _) (jj3 s.heap I.big),rfl,h _ (I.hok.fresh (Yac _))⟩

def jgM  : List (TE×TE)->St->Hp->(List (V×V)->Hp->Prop)->Prop
 |[],_,H,Q=>Q [] H
 |(tk,tv)::r,σ,H,Q=>tk σ H λx H1=>tv σ H1 λy H2=>jgM r σ H2 λj z=>Q ((x,y)::j) z
abbrev VV  : List (V×V)->List (Value×Value)->Prop:=Paired λp q=>RelV p.1 q.1/\RelV p.2 q.2
def PPs  (X:Cx)(pos:Pos)(z:List (Option Expr))(j:List Expr)(F:List (TE×TE)):Prop:=
 ∀(y:List (Addr×Obj)) (s:Shared) (σ:St) (H:Hp) (Q:List (V×V)->Hp->Prop),Inv X y σ H s->jgM F σ H Q->
  wpAny (model X.prog X.w) X.A (evalPairs (pairTrees z j X.env pos)) (λL O=>∃I J,Inv X y σ J O/\VV I L/\Q I J) X.xe s
def jlD    : PPs X pos [] [] []:=λj s y H Q I h=>pairTrees_nil_walk ⟨[],H,I,.nil,h⟩
def jjG         (hk:PE X k tk)(Z:PE X v tv)(hr:PPs X pos ks vs F) :
  PPs X pos (some k::ks) (v::vs) ((tk,tv)::F):=λj s J H Q I h=>
 pairTrees_cons_walk (thn (hk j s J H _ I h) λu s1 ⟨x,H1,L,rx,q1⟩=>thn (Z j s1 J H1 _ L q1) λw2 s2 ⟨y,H2,I2,ry,q2⟩=>
  thn (hr j s2 J H2 _ I2 q2) λws s3 ⟨O,Y,I3,z,q3⟩=>⟨(x,y)::O,Y,I3,.cons ⟨rx,ry⟩ z,q3⟩)

def jdP  (kvs j:List (Key×V)):List (Key×V):=j.foldl (λy z=>putK y z.1 z.2) kvs
def KV.merge  : ∀{j } {y } {kvs } {vs },KV j y->KV kvs vs->KV (jdP kvs j) (merged vs y):=by
 intro j y kvs vs r;unfold KV at r
 induction r generalizing kvs vs with
 |nil=>intro q;exact q
 |@cons p q I J h t z=>
  intro F;have e:KV (putK kvs p.1 p.2) (stored vs q.1 q.2):=by
   have:=F.put p.1 h.2;rw[<- h.1];exact this
  exact z e
theorem jcO  : ∀(j kvs:List (Key×V)),(jdP kvs j).length<=kvs.length+j.length
 |[],kvs=>by show kvs.length<=kvs.length+0;lia
 |p::r,kvs=>by
  have z:=jcO r (putK kvs p.1 p.2);have y:=jbQ kvs p.1 p.2;show(jdP (putK kvs p.1 p.2) r).length<=_;rw[YaU];lia
theorem jeE    : ∀{kvs } {z },VV (kvs.map λy=>(kV y.1,y.2)) z->∃j,Carries (jam P w) z j/\KV kvs j
 |[],_,r=>by rw[Yd9]at r;cases r;exact⟨[],YbR,.nil⟩
 |p::kvs,_,r=>by
  rw[YaO]at r;cases r with
  |@cons a b I bs h t=>
   obtain⟨j,c,q⟩:=jeE (P:=P) (w:=w) t;obtain⟨J,F⟩:=b;exact⟨(p.1,F)::j,⟨jgg h.1,rfl,c⟩,.cons ⟨rfl,h.2⟩ q⟩
def jpf  (y:List (TE×TE)):TE:=λI H Q=>∀p,H p=none->jgM y I (upd H p (.dK [])) λF H2=>H2 p=some (.dK [])/\∃j:List (Key×V),F=j.map (λz=>(kV z.1,z.2))/\j.length<=15/\Q (.ref p) (upd H2 p (.dK (jdP [] j)))
def jlL       (h:PPs X pos j y xa)(J:j.all (·.isSome)=true)(hl:j.length=y.length)(h0:j≠[])
  (Z:j.length<=15):PE X (.Dict j y pos) (jpf xa):=by
 intro L s σ H Q I q;have hn:=I.hok.fresh (Yac s.heap.objs.size);have I1:=I.laid (a:=s.heap.objs.size) (o:=.dK []) (h':=s.heap.push { cls:=.type "dict",data:=.dict #[] }) (t':=s.toks) (λ_ _ q=>Yad _ q) (Yac _) (jhh s.heap I.big);refine wpAny_Dict_walk (knd:=jam X.prog X.w) J hl h0 Z (thn (h L _ σ _ _ I1 (q _ hn)) λws s2 ⟨ps,H2,I2,Y,e,F,ep,lk,q2⟩=>?_);subst ep;obtain⟨rs,c,rk⟩:=jeE (P:=X.prog) (w:=X.w) Y;obtain⟨z,hd,za,r0,dd⟩:=joA I2.hok e;cases r0;refine⟨rs,c,dd,λh' O hs=>⟨.ref s.heap.objs.size,_,?_,rfl,q2⟩⟩;have hz:(jdP [] F).length<=Yai:=by
  have h1:=jcO F [];rw[Yct]at h1;rw[YbV];lia
 have he:∃q,h'.get? s.heap.objs.size=some q:=let ⟨q,_,_,hq,_⟩:=O;⟨q,hq⟩
 exact jgs I2 (by rw[e];exact YbR) hs he (jk0 hz hd (rk.merge .nil) O)


def joC  {σ: St}(hu:A.units+1<cLine)(I:Inv X pins σ H s)(g:DGet H a y o)(O:RelV y u)(rd:RelV d r)(h:∀Z Y,Inv X pins σ H Y->RelV (o.getD d) Z->Q Z Y) :
  wpAny (model X.prog X.w) A (call (.builtin "dict.get") [.ref a,u,r]) Q E s:=by
 rcases g with⟨L,k,e,J,l⟩|⟨L,k,b,e,J,eb,l⟩
 ·subst J;obtain⟨z,hd,vs,j,F⟩:=jgq I.hok e;refine call_meetsIn Ycy F.typeIs YeA (Yev _ _ _) (meets_dict_get_default (jam X.prog X.w) a (jgg O) hd r) ⟨_,F.mapOf,h _ _ (I.tok _) ?_⟩;rw[l];exact(j.val k).getD rd
 ·subst J;cases(show u=Ya1 b from O);obtain⟨z,hd,xs,j,F⟩:=jhH I.hok e;refine call_meetsIn Ycy F.typeIs YeA (Yev _ _ _) (meetsH_dict_get_default (Yco (jam X.prog X.w)) a b hd r) ⟨Yb9 hu,k,xs,jdf I.hok eb,F,h _ _ (I.tok _) ?_⟩;rw[l];exact(j.val k).getD rd






end L2

namespace Att
open PySem PySem.W PySem.Calls PyProof.Rows

def jdW    : ∀(ns:List Int) vs ,WellAll P h vs (ns.map WData.int)->IntsAre vs ns:=by
 intro ns
 induction ns with
 |nil=>
  intro vs w;rw[Yd9]at w;cases w;exact .nil
 |cons n ns j=>
  intro vs w;rw[YaO]at w;cases w with
  |cons a b=>
   cases a;exact .cons _ _ (j _ b)

def jh8  {l:OpenLaw}(hn:l.most=some n) 
  (j:l.row.toRowW.claim.pre args=true) (O:WellAll P h F args) :
  ∃a vs ns,F=[Ya1 a]/\args=[WData.list (ns.map WData.int)]/\h.get? a=some { cls:=.type "list",data:=.seq vs.toArray }/\IntsAre vs ns/\ns.length<=n:=by
 have L:WShape.hasAll [] args [.list .int]=true:=(pre_splitW j).1;have Y:l.pre.holds [] { args:=args }=true:=(pre_splitW j).2;obtain⟨d,r,rfl,h1,h2⟩:=hasAllW_cons L;obtain rfl:=hasAllW_nil h2;obtain⟨xs,rfl,h3⟩:=hasW_list h1;obtain⟨ns,rfl⟩:=items_int h3;have y:ns.length<=n:=by
  unfold OpenLaw.pre at Y;have J:(WTm.not (.lt (.lit (.int (n:Int))) (.len (.arg 0)))).holds [] { args:=[.list (ns.map .int)] }=true:=by
   have J:=(holds_andW Y).1;rw[hn]at J;exact J
  have I:=condW_of J (w_not (w_lt w_lit (w_len_list (w_arg rfl))));rw[Yaa]at I;refine Nat.le_of_not_lt λq=>?_;have Z:(n:Int)<((ns.length:Nat):Int):=by lia
  first
   |(rw[decide_eq_true Z]at I;exact absurd I (by decide))
   |(simp at I;lia)
 cases O with
 |cons w1 w2=>
  cases w2;cases w1 with
  |list ho z=>exact⟨_,_,ns,rfl,rfl,ho,jdW ns _ z,y⟩

def jig  (l:OpenLaw) args:l.row.toRowW.claim.post args (.bool true) args=true:=
 postW_of (r:=l.row.toRowW) (X:=(true==true))
  (show WShape.has [] (.bool true) .bool=true by first|rfl|decide|simp[WShape.has,WShape.arms,WShape.armsAll])
  (show(WTm.eq .res (.lit (.bool true))).value [] { args:=args,res:=some (.bool true),after:=args }=some (.bool (true==true))from w_eq_bool (w_res rfl) w_lit) rfl

def attach_call  {l:OpenLaw} 
  (hn:l.most=some n) (va:d.params.defaults=[])
  (call:∀(w:World) (s₀ j:Shared) mg mb L (o:Obj) pm Z z a (vs:List Value) (ns:List Int),
   Ground q loose [] XP w s₀ mg mb j.heap->YP w j.heap->
   j.heap.get? L=some o->o.data=.func (docDef d.name d.params d.body d.scope pm Z z)->j.heap.CodeRec Z d.name->mg d.name=some (.ref L)->
   j.heap.get? a=some { cls:=.type "list",data:=.seq vs.toArray }->IntsAre vs ns->ns.length<=n->j.gens=#[]->
   codeAny (model l.prog w) callerA (.call (.ref L) ⟨[.ref a],[]⟩) (λr O=>r=.ok (.ret (.bool true))/\OldK j.heap O.heap/\O.os=j.os/\AllBare O.gens) j) :
  WalkO q loose XP YP l.row.toRowW d [] (λf vs=>YfP f vs):=by
 intro w s₀ j mg mb G Y L o pm Z z dV kV ho hd za hD xa hg wa ya as I ka ha ja xb;obtain rfl:dV=.none:=Dflts.none hD va;obtain rfl:kV=.none:=Dflts.noKw hD;obtain⟨a,vs,ns,rfl,rfl,J,y,F⟩:=jh8 hn I ja;refine enter_call (YdF (call w s₀ j mg mb L o pm Z z a vs ns G Y ho (fd_plain hd) za xa J y F hg) λr O hq=>?_);obtain⟨rfl,h2,h3,h4⟩:=hq;exact⟨.inl ⟨.bool true,.bool true,[],rfl,λ_=>rfl,.bool true,jig l _,λ_=>⟨Yey,λ_ hm=>(nomatch hm)⟩⟩,h2,h3,h4⟩


end Att

namespace L2
open PySem PySem.Spec PyProof.Rows

theorem je9  : ∀{vs } {ns },IntsAre vs ns->Vals (ns.map V.int) vs
 |_,_,.nil=>.nil
 |_,_,.cons n t h=>.cons ⟨t,rfl⟩ (je9 h)



noncomputable def jaI  (s:Stmt)(j:Nat):Stmt:=match s with
 |.ClassDef _ _ _ y _ _ _ _ _ _ _=>y.getD j (.Pass ⟨0,0,0,0⟩)
 |_=>.Pass ⟨0,0,0,0⟩
def jbs  (s:Stmt):Ygs:=match s with
 |.FunctionDef _ a _ _ _ _ _ _ _ _=>a
 |_=>{ posonlyargs:=[],args:=[],vararg:=none,kwonlyargs:=[],kw_defaults:=[],kwarg:=none,defaults:=[] }
def jao  (s:Stmt):List Stmt:=match s with
 |.FunctionDef _ _ b _ _ _ _ _ _ _=>b
 |_=>[]
def jag  (s:Stmt):Scope:=match s with
 |.FunctionDef _ _ _ _ _ _ j _ _ _=>j
 |_=>{ kind:=.function,names:=[],isGenerator:=false,isCoroutine:=false }

abbrev E0  : XK:=λ_ _ _=>False
structure Fun (K:Yae)(x qual:Str)(st:Stmt)(f:Addr)(fd:YeZ):Prop where
 ex:∃(oc:Value) (od:Option Addr) (kV doc pm:Value) (an:Option Addr) (cdv ct:Value) (osl:Array (Option Value)),
  fd=Ya8 x qual (jbs st) (jao st) (jag st) .none kV doc pm an cdv ct/\K.lookup f=some ⟨oc,od,.func fd,osl⟩/\YbB K cdv qual=true
 kp:Ybv K (.ref f)=true

def Fun.binds  {K: Yae}{st:Stmt}(F:Fun K x z st f O)
  (h:∀kV j I J y ct (us:List Value),us.length=ps.length->bindArgs (Ya8 x z (jbs st) (jao st) (jag st) .none kV j I J y ct) ⟨us,[]⟩=pure (ps.zip us)):Binds K O ps []:=by
 obtain⟨Z,od,kV,j,I,J,y,ct,L,rfl,lk,Y⟩:=F.ex;exact .all (h kV j I J y ct)
def jiS  {K: Yae}{st:Stmt}{kV z F y ct:Value}(l:K.lookup f=some ⟨L,od,.func (Ya8 x j (jbs st) (jao st) (jag st) .none kV z F J y ct),I⟩)
  (c:YbB K y j=true) (k:Ybv K (.ref f)=true):Fun K x j st f (Ya8 x j (jbs st) (jao st) (jag st) .none kV z F J y ct):=⟨⟨L,od,kV,z,F,J,y,ct,I,rfl,l,c⟩,k⟩
def jpQ    (hr:Room k A):A.units+1<cLine:=YaW (YdK (by decide:1<=64) _) hr.units


def iteF  {A B:Prop}(h:B):if false=true then A else B:=by
 rw[if_neg Yal];exact h
def iteT  {A B:Prop}(h:A):if true=true then A else B:=by
 rw[if_pos rfl];exact h

def jje  : jaW X (.builtin "len") (λxs H Q=>∃a kvs,xs=[V.ref a]/\H a=some (.dK kvs)/\Q (.int kvs.length) H):=by
 intro j s O H xs J Q I r h;obtain⟨a,kvs,rfl,F,q⟩:=h;obtain⟨u,rfl,y⟩:=jcV r;cases y;exact jp1 I (.inl F) λt L z=>⟨.int kvs.length,H,z,⟨t,rfl⟩,q⟩
section
variable {κ:Type}[DecidableEq κ]
end
end L2

namespace L2
open PySem PySem.Spec PyProof.Rows


noncomputable def jeN  (env:Env)(ifs:List Expr):Sem Bool:=forIn ifs true λc r=>ite (r=true) (isTrue c env (eval c env) >>= λb=>pure (.yield b)) (pure (.yield r))
def jcw  (ip:Pos)(tg:Expr)(ifs:List Expr)(it:Value)(env:Env)(em:Sem Unit)(next:Code):Sem Fin:=
 standAt ip >>= λ_=>pyNext it >>= λr=>match r with
  |none=>pure (.done .next)
  |some v=>YcW tg it v >>= λ_=>assign tg env v >>= λ_=>jeN env ifs >>= λok=>ite (ok=true) (em >>= λ_=>again next) (again next)
def jlf  (M:Model)(A:Around)(tg:Expr)(ifs:List Expr)(it:Value)(env:Env)(em:Sem Unit)(y:Shared->Prop)(j:Shared->Prop):Option Value->Shared->Prop
 |none,s=>y s
 |some v,s=>wpAny M A (YcW tg it v) (λ_ s=>wpAny M A (assign tg env v) (λ_ s=>wpAny M A (jeN env ifs) (λok s=>if ok=true then wpAny M A em (λ_ s=>j s) (λ_ _=>False) s else j s) (λ_ _=>False) s) (λ_ _=>False) s) (λ_ _=>False) s
def jfJ             (I : Nat -> Shared -> Prop)
    (z : YdR (.ListComp elt gens scope pos) dp it acc env = jcw ip j ifs it env em (.compLoop (.ListComp elt gens scope pos) dp it acc env))
    (y : ∀ k t, I k t -> wpAny (model prog w) A (pyNext it) (jlf (model prog w) A j ifs it env em (R (.ok .next)) λt => ∃ m, m < k /\ I m t) (λ_ _ => False) t)
     n (h : I n s) : codeAny (model prog w) A (.compLoop (.ListComp elt gens scope pos) dp it acc env) R s := by
  have no : ∀ {Z : Value -> Shared -> Prop} (e : Value) (t : Shared), False -> Z e t := λ_ _ f => f.elim
  refine codeAny_loop rfl I (λk t hk => wpAny_noted (m := YdR (.ListComp elt gens scope pos) dp it acc env) (z ▸ ?_)) n h
  refine Yab (Ybz (Yab (YaZ (y k t hk) (λr t1 p => ?_) no)))
  match r, p with
  | none, p => exact Yam p
  | some v, p =>
    refine Yab (YaZ p (λ_ t2 p => Yab (YaZ p (λ_ t3 p => Yab (YaZ p (λok F p => ?_) no)) no)) no)
    match ok, p with
    | false, p => exact Yam ⟨rfl, p⟩
    | true, p => exact Yab (YaZ p (λ_ J p => Yam ⟨rfl, p⟩) no)
def jca         
  (h0:codeAny (model prog w) A (.compLoop (.ListComp elt [I,⟨t2,y,F,0⟩] scope pos) 1 it acc env) R s)
  (h:wpAny (model prog w) A (pyIter it) (λj z=>codeAny (model prog w) A (.compLoop (.ListComp elt [I,⟨t2,y,F,0⟩] scope pos) 1 j acc env) R z) (notedBy (model prog w) A env λx z=>R (.error x) z) s) :
  codeAny (model prog w) A (.compStart (.ListComp elt [I,⟨t2,y,F,0⟩] scope pos) 1 it acc env) R s:=by
 refine codeAny_of_tree (wpAny_notedAt (m:=compStart (.ListComp elt [I,⟨t2,y,F,0⟩] scope pos) 1 it acc env) ?_);unfold compStart;refine Yab (m:=ask) (wpAny_askSetting (wpAny_ite ?_));split
 ·exact Yab (Yam (Yam ⟨rfl,h0⟩))
 ·exact Yab (YdP (Yab (m:=standAt y.pos) (Ybz (Yab (thn h λj z p=>Yam ⟨rfl,p⟩)))))

theorem jcb  (env:Env):∀(names:List (Str×YbJ)) acc ,(∀y∈names,y.2=.free->∃c,env.cells.lookup y.1=some c)->
  ∃cl ,(forIn names acc (λ(y:Str×YbJ) L=>(if (y.2==YaR)=true then (do let c <- cellOf env y.1;pure (ForInStep.yield ((y.1,c)::L))) else pure (ForInStep.yield L):Sem (ForInStep (List (Str×Addr))))):Sem (List (Str×Addr)))=pure cl/\
   (∀x c,(x,c)∈cl->(x,c)∈acc\/(env.cells.lookup x=some c/\(x,YaR)∈names))/\(∀p∈acc,p∈cl)/\(∀y∈names,y.2=.free->∃c,(y.1,c)∈cl)
 |[],acc,_=>⟨acc,rfl,λ_ _ h=>.inl h,λ_ h=>h,λ_ h=>nomatch h⟩
 |(n,k)::r,acc,h=>by
  by_cases hk:k=.free
  ·subst hk;obtain⟨c,Y⟩:=h (n,.free) Yav rfl;obtain⟨cl,e,O,I,J⟩:=jcb env r ((n,c)::acc) λy j=>h y (Yaj _ j);refine⟨cl,?_,λx d hd=>?_,λp Z=>I p (Yaj _ Z),λy j F=>?_⟩
   ·rw[List.forIn_cons];have:(cellOf env n:Sem Addr)=pure c:=by unfold cellOf;rw[Y]
    simp_all
   ·grind
   grind
  ·obtain⟨cl,e,O,I,J⟩:=jcb env r acc λy j=>h y (Yaj _ j);have hb:(k==YaR)=false:=by simpa using hk
   refine⟨cl,?_,λx d hd=>?_,I,λy j F=>?_⟩
   ·rw[List.forIn_cons];simp only[hb,Yf0,if_false,pure_bind];exact e
   ·rcases O x d hd with z|⟨z,z'⟩
    ·exact .inl z
    ·exact .inr ⟨z,Yaj _ z'⟩
   ·rcases Yap.mp j with z|z
    ·subst z;exact absurd F hk
    ·exact J y z F
theorem jcN  {j:Type}:∀{l:List (Str×j)} {x } {c },(x,c)∈l->∃d,l.lookup x=some d/\(x,d)∈l
 |(n,k)::r,x,c,h=>by
  cases y:x==n with
  |true=>
   simp_all
  |false=>
   rcases Yap.mp h with z|z
   ·lia
   ·obtain⟨d,e,m⟩:=jcN z
    grind
def jeD    (h:∀y∈scope.names,y.2=.free->∃c,env.cells.lookup y.1=some c) :
  ∃cl ,closureFor scope env=pure cl/\(∀x c,cl.lookup x=some c->env.cells.lookup x=some c)/\(∀y∈scope.names,y.2=.free->∃c,cl.lookup y.1=some c):=by
 obtain⟨cl,e,L,_,I⟩:=jcb env scope.names [] h;refine⟨cl,?_,λx c F=>?_,λy J j=>?_⟩
 ·unfold closureFor
  simp_all
 ·rcases L x c (YaI F)with z|⟨z,_⟩
  ·simp_all
  lia
 ·obtain⟨c,O⟩:=I y J j;obtain⟨d,e,_⟩:=jcN O
  simp_all

noncomputable def jae  (X:Cx)(N:List Str)(scope:Scope)(cl:List (Str×Addr))(C:Addr)(s₀:Shared)(H₀:Hp)(j:List Addr):Cx where
 prog:=X.prog
 w:=X.w
 K:=X.K
 mg:=X.mg
 base:=X.base
 A:=X.A
 N:=N
 s₀:=s₀
 H₀:=H₀
 env:=compEnvC scope cl C X.env
 outer:=X.stack
 stack:=X.stack
 ex:=j
 fn:=λx=>scope.names.lookup x==some .cell
 calm:=X.calm
 pn:=[]
 xe:=λ_ _=>False

noncomputable def cOk  (F:List Str)(z:List (Str×YbJ))(N:List Str)(pick:List (Option Nat))(scope:Scope):Bool:=
 decide (scope.kind=.function)&&scope.names.all (λy=>y.2 != .cell||scope.names.lookup y.1==some .cell)&&scope.names.all (λy=>y.2 != .local||scope.names.lookup y.1==some .local)
  && scope.names.all (λy=>y.2 != .free||(scope.names.lookup y.1==some .free&&(z.lookup y.1==some .cell||z.lookup y.1==some .free)))
  && pick.length==N.length&&(N.zip pick).all (λp=>match p.2 with|none=>true|some j=>F[j]?==some p.1&&scope.names.lookup p.1==some .free)

structure CScope (X:Cx)(N:List Str)(pick:List (Option Nat))(scope:Scope):Prop where
 kind:scope.kind=.function
 cells:∀y∈scope.names,y.2=.cell->scope.names.lookup y.1=some .cell
 names:∀y∈scope.names,y.2=.local->scope.names.lookup y.1=some .local
 fre:∀y∈scope.names,y.2=.free->scope.names.lookup y.1=some .free/\(X.env.kindOf y.1=some .cell\/X.env.kindOf y.1=some .free)
 len:pick.length=N.length
 caps:∀(i j:Nat) (x:Str),N[i]?=some x->pick[i]?=some (some j)->X.N[j]?=some x/\scope.names.lookup x=some .free
theorem jde  (f:Str->YbJ->YbJ):∀(names:List (Str×YbJ)) x ,(names.map λy=>(y.1,f y.1 y.2)).lookup x=(names.lookup x).map (f x)
 |[],_=>rfl
 |(n,k)::r,x=>by
  rw[YaO,Ybs,Ybs,jde f r x];by_cases e:x=n
  ·subst e;rw[beq_self_eq_true];rfl
  ·rw[beq_false_of_ne e]
noncomputable def jkO  (env:Env)(n:Str)(k:YbJ):YbJ:=if (k==YaR&&env.scope.kind == .function&&env.kindOf n==some .cell) then .cell else k
def jcG (env:Env)(names:List (Str×YbJ))(x:Str) :
  (names.map λ(n,k)=>if (k==YaR&&env.scope.kind == .function&&env.kindOf n==some .cell) then (n,YaN) else (n,k)).lookup x=(names.lookup x).map (jkO env x):=by
 rw[<- jde (jkO env)];congr 2;funext y;show ite _ _ _=(y.1,ite _ _ _)
 lia
def jbe {env:Env}{names:List (Str×YbJ)}{x:Str}(h:names.lookup x=some .free) :
  (names.map λ(n,k)=>if (k==YaR&&env.scope.kind == .function&&env.kindOf n==some .cell) then (n,YaN) else (n,k)).lookup x=some .cell\/
  (names.map λ(n,k)=>if (k==YaR&&env.scope.kind == .function&&env.kindOf n==some .cell) then (n,YaN) else (n,k)).lookup x=some .free:=by
 rw[jcG,h];show some (ite _ _ _)=_\/some (ite _ _ _)=_
 lia
def jaD {env:Env}{q:YbJ}(j:q≠.free){names:List (Str×YbJ)}{x:Str}(h:names.lookup x=some q) :
  (names.map λ(n,k)=>if (k==YaR&&env.scope.kind == .function&&env.kindOf n==some .cell) then (n,YaN) else (n,k)).lookup x=some q:=by
 rw[jcG,h];show some (ite _ _ _)=_
 lia
theorem jb0 {env:Env}:∀{names:List (Str×YbJ)} {x:Str},
  ((names.map λ(n,k)=>if (k==YaR&&env.scope.kind == .function&&env.kindOf n==some .cell) then (n,YaN) else (n,k)).lookup x=some .cell\/
  (names.map λ(n,k)=>if (k==YaR&&env.scope.kind == .function&&env.kindOf n==some .cell) then (n,YaN) else (n,k)).lookup x=some .free)->(x,YaR)∈names\/(x,YaN)∈names
 |[],_,h=>by simp at h
 |(n,k)::r,x,h=>by
  have I:_->_:=@jb0 env r x;have j:YbF x ((if (k==YaR&&env.scope.kind == .function&&env.kindOf n==some .cell)=true then (n,YaN) else (n,k))::r.map λ(n,k)=>if (k==YaR&&env.scope.kind == .function&&env.kindOf n==some .cell) then (n,YaN) else (n,k))=some .cell\/YbF x ((if (k==YaR&&env.scope.kind == .function&&env.kindOf n==some .cell)=true then (n,YaN) else (n,k))::r.map λ(n,k)=>if (k==YaR&&env.scope.kind == .function&&env.kindOf n==some .cell) then (n,YaN) else (n,k))=some .free:=h
  by_cases hk:k=.free
  ·cases y:x==n with
   |true=>simp_all
   |false=>
    refine(I ?_).imp (Yaj _) (Yaj _);by_cases F:(k==YaR&&env.scope.kind == .function&&env.kindOf n==some .cell)=true
    ·rw[if_pos F]at j;simpa only[Ybs,y]using j
    ·rw[if_neg F]at j;simpa only[Ybs,y]using j
  ·have J:(k==YaR)=false:=by simpa using hk
   rw[if_neg (by simp[J])]at j
   cases y:x==n with
   |true=>
    simp only[Ybs,y]at j;rcases j with z|z
    ·rw[eq_of_beq y,Yaw z];exact .inr Yav
    ·exact absurd (Yaw z) hk
   |false=>exact(I (by simpa only[Ybs,y]using j)).imp (Yaj _) (Yaj _)

theorem jaK  : ∀names n acc ,Ybk n names acc=Ybk n names []++acc
 |[],_,_=>rfl
 |(x,k)::r,n,acc=>by
  unfold Ybk;split
  ·rw[jaK r (n+1) ((x,n)::acc),jaK r (n+1) [(x,n)],Yc4];rfl
  ·exact jaK r n acc
theorem jaY  : ∀names n {x } {c },(x,c)∈Ybk n names []->(x,YaN)∈names
 |[],_,_,_,h=>nomatch h
 |(y,k)::r,n,x,c,h=>by
  unfold Ybk at h;split at h
  ·rename_i hk;rw[jaK]at h;rcases List.mem_append.mp h with h|h
   ·exact Yaj _ (jaY r _ h)
   simp_all
  ·exact Yaj _ (jaY r _ h)
def jhA  {j:Type}:∀(l m:List (Str×j)) x ,(l++m).lookup x=(l.lookup x).or (m.lookup x)
 |[],_,_=>by simp
 |(n,k)::r,m,x=>by
  grind
structure BCells (scope:Scope)(cl cs:List (Str×Addr))(lo:Nat)(h:Heap):Prop where
 lk:∀x c,cs.lookup x=some c->((x,YaN)∈scope.names/\lo<c/\h.IsCell c none)\/((x,YaN)∉scope.names/\cl.lookup x=some c)
 own:∀x,scope.names.lookup x=some .cell->∃c,cs.lookup x=some c/\lo<c
 old:∀x c,(x,YaN)∉scope.names->cl.lookup x=some c->cs.lookup x=some c
 inj:∀x y c,cs.lookup x=some c->cs.lookup y=some c->lo<c->x=y
def jjj   {cl:List (Str×Addr)}{lo:Nat}(Z:h.objs.size=lo+1)(S:∀y∈scope.names,y.2=.cell->scope.names.lookup y.1=some .cell)(O:∀x c,cl.lookup x=some c->c<=lo):BCells scope cl (Ybk (lo+1) scope.names cl) lo (Ye5 h scope.names):=by
 have ok:=cellsFrom_ok scope.names h (lo+1) [] ⟨λ_ _ L=>(nomatch L),Yey⟩ (by lia)
 rw[Z]at ok;have look:∀x,(Ybk (lo+1) scope.names cl).lookup x=((Ybk (lo+1) scope.names []).lookup x).or (cl.lookup x):=λx=>by rw[jaK,jhA]
 have own:∀x,(x,YaN)∈scope.names->∃c,(Ybk (lo+1) scope.names []).lookup x=some c:=λx j=>je2 (S _ j rfl);refine⟨λx c e=>?_,λx j=>?_,λx c j Y=>?_,λx y c J I Y=>?_⟩
 ·rw[look]at e;by_cases j:(x,YaN)∈scope.names
  ·obtain⟨z,F⟩:=own x j;rw[F,Option.some_or]at e;have e:z=c:=Yaw e;subst e;obtain⟨z1,z2⟩:=ok.empty x z (YaI F)
   lia
  ·cases q:(Ybk (lo+1) scope.names []).lookup x with
   |some z=>exact absurd (jaY _ _ (YaI q)) j
   |none=>simp_all
 ·obtain⟨c,e⟩:=own x (YaI j);exact⟨c,by simp_all,(ok.empty x c (YaI e)).2⟩
 ·rw[look];cases q:(Ybk (lo+1) scope.names []).lookup x with
  |some z=>exact absurd (jaY _ _ (YaI q)) j
  |none=>simp_all
 ·rw[look]at J I;have new:∀x,((Ybk (lo+1) scope.names []).lookup x).or (cl.lookup x)=some c->(Ybk (lo+1) scope.names []).lookup x=some c:=λx e=>by
   cases q:(Ybk (lo+1) scope.names []).lookup x with
   |some z=>simp_all
   |none=>
    grind
  exact name_of_addr ok.apart (YaI (new x J)) (YaI (new y I))
def jcC           
  (y:Q (newEnv scope s.heap.objs.size globals (Ybk (s.heap.objs.size+1) scope.names cl) j none .none (some env) YdS) { s with heap:=Ye5 (s.heap.push { cls:=.type "dict",data:=.dict #[] }) scope.names }) :
  wpAny M A (Yfk scope globals cl [] j none .none (some env)) Q E s:=by
 have sz:(s.heap.push { cls:=.type "dict",data:=.dict #[] }).objs.size=s.heap.objs.size+1:=YdB ..;unfold Yfk;rw[if_pos (by rfl)]
 refine Yab (wpAny_alloc (Yab (wpAny_layCells _ (λx k c=>by lia) _ _ _ _ ?_)))
 rw[show Heap.objs (Shared.heap _)=(s.heap.push { cls:=.type "dict",data:=.dict #[] }).objs from rfl,sz];exact Yab (Yam (Yam y))


def glc   (h:scope.names.lookup x=some .globalImplicit):Gl (jae X N scope cl C s₀ H₀ j) x:=jaD (by decide) h

def PIfs  (X:Cx)(ifs:List Expr)(t:TT):Prop:=
 ∀(j:List (Addr×Obj)) (s:Shared) (σ:St) (H:Hp) (Q:Bool->Hp->Prop),Inv X j σ H s->t σ H Q->
  wpAny (model X.prog X.w) X.A (jeN X.env ifs) (TP X j σ Q) X.xe s
def jpc  : TT:=λ_ H Q=>Q true H
def jlH   : PIfs X [] jpc:=λ_ _ _ H _ I h=>wpAny_tests_nil ⟨H,I,h⟩
def jlG     (h:PT X c t):PIfs X [c] t:=λj s y H Q I q=>wpAny_tests_one (h j s y H Q I q)

abbrev TEm:=St->List V->Hp->(St->List V->Hp->Prop)->Prop
def jhn  (J:It)(g:TG)(tt:TT)(F:TEm)(QQ:St->List V->Hp->Prop)(Y:St)(O:List V)(H1:Hp):Prop:=∃W:Nat->Nat->St->List V->Hp->Prop,
 (∃m,W 0 m Y O H1)/\∀i m I z H,W i m I z H->
  (J.stop i H/\QQ I z H)\/(J.go i H/\∀x H',J.yld i H x H'->g x I H' λj H2=>tt j H2 λb H3=>if b=true then F j z H3 λZ L H4=>∃y,y<m/\W (i+1) y Z L H4
   else ∃y,y<m/\W (i+1) y j z H3)
def emA  (F:TE)(D:Addr):TEm:=λz j H Q=>F z H λv y=>y D=some (.lst j)/\j.length<Yai/\Q z (j++[v]) (upd y D (.lst (j++[v])))
def em2  (y:TI)(g:TG)(I:TT)(F:TE)(D:Addr):TEm:=λj z H Q=>y j H λJ H1=>jhn J g I (emA F D) Q j z H1
def LcGG  (J:It)(g:TG)(z:TT)(j:Addr->TEm)(D:Addr)(y:St)(Q:VK)(H1:Hp):Prop:=jhn J g z (j D) (λ_ _ H=>Q (.ref D) H) y [] (upd H1 D (.lst []))
def PEm  (Y:Cx)(em:Sem Unit)(z:TEm):Prop:=∀(j:List (Addr×Obj)) (s:Shared) (τ:St) (ys:List V) (H:Hp) (Q:St->List V->Hp->Prop),Inv Y j τ H s->z τ ys H Q->
 wpAny (model Y.prog Y.w) Y.A em (λ_ J=>∃y F I,Inv Y j y I J/\Q y F I) Y.xe s
def tLcG  (pick:List (Option Nat))(F:TI)(g:TG)(I:TT)(y:Addr->TEm):TE:=λz H Q=>F z H λJ H1=>∀D,H1 D=none->LcGG J g I y D (pick.map λo=>o.bind λj=>(z[j]?).join) Q H1
abbrev tLc  (pick:List (Option Nat))(j:TI)(g:TG)(z:TT)(y:TE):TE:=tLcG pick j g z (emA y)
abbrev tLc2  (pick:List (Option Nat))(z:TI)(g:TG)(J:TT)(j:TI)(F:TG)(y:TT)(I:TE):TE:=tLcG pick z g J (em2 j F y I)

section
variable {X:Cx}{N:List Str}{pick:List (Option Nat)}{scope:Scope}{pins:List (Addr×Obj)}{σ:St}{s s3:Shared}{H H3:Hp}

def jhI  {cl cs:List (Str×Addr)}{fp:List Addr}(S:CScope X N pick scope)(F:Inv X pins σ H3 s3)(hf:∀b∈fp,FpOk X pins H3 b)(za:∀b∈fp,b<s3.heap.objs.size)
  (c1:∀x c,cl.lookup x=some c->X.env.cells.lookup x=some c) (c2:∀y∈scope.names,y.2=.free->∃c,cl.lookup y.1=some c) (B:BCells scope cl cs s3.heap.objs.size I)
  (ya:I.Ns s3.heap.objs.size mB) (hk:∀b o,s3.heap.get? b=some o->I.get? b=some o) :
  Inv (jae X N scope cs s3.heap.objs.size s3 H3 fp) [] (pick.map λo=>o.bind λj=>(σ[j]?).join) H3 { s3 with heap:=I,toks:=tk }:=by
 have xa:∀b∈frs X.stack,b∈X.env.locals::X.fs:=F.stkSub;have oc:∀x c,cs.lookup x=some c->X.env.cells.lookup x=some c\/s3.heap.objs.size<c:=λx c e=>by
  rcases B.lk x c e with⟨_,z,_⟩|⟨_,z⟩
  ·lia
  simp_all
 have has:∀x,((x,YaR)∈scope.names\/(x,YaN)∈scope.names)->∃c,cs.lookup x=some c:=λx hx=>by
  by_cases J:(x,YaN)∈scope.names
  ·obtain⟨c,e,_⟩:=B.own x (S.cells _ J rfl)
   simp_all
  ·rcases hx with hx|hx
   ·obtain⟨c,e⟩:=c2 _ hx rfl;exact⟨c,B.old x c J e⟩
   lia
 refine⟨⟨F.ok.mod,S.kind,F.ok.glob,F.ok.blt,Yac _,λx y c e1 Z=>?_,λx hx=>has x (jb0 hx),λx c z e=>?_,F.ok.hd,F.ok.frames,.inl rfl,λb L=>⟨YaD (za b L),λx c e=>?_⟩,
   F.bs,Yaf F.ok.bsz F.sz,λb o e L=>?_,λb L hm=>?_,F.stack,F.stkFree⟩,
  rfl,F.bare,Un.kept hk,⟨_,ya,λi x v e1 Z e3=>?_⟩,λx c e=>?_,F.hok.fresh (Yac _),λx c e=>?_,λp hp=>absurd (show p∈([]:List (Addr×Obj))from hp) (by simp),F.hok.kept hk,?_⟩
 ·by_cases J:s3.heap.objs.size<c
  ·exact B.inj x y c e1 Z J
  ·exact F.ok.inj x y c ((oc x c e1).resolve_right J) ((oc y c Z).resolve_right J)
 ·have z':scope.names.lookup x=some .cell:=eq_of_beq z;rcases B.lk x c e with⟨_,y,_⟩|⟨y,_⟩
  ·exact Yb6 y
  ·exact absurd (YaI z') y
 ·rcases oc x c e with z|z
  ·exact(hf b L).2.2.2.2.1 x c z
  ·intro q;rw[q]at z;exact absurd (Yfr z (za b L)) (Ybl _)
 ·rcases(hf b L).2.2.2.1 with z|z
  ·exact F.ok.noex b o e z
  ·exact absurd (Yar (Yan e) (Yaf F.ok.bsz z)) (Ybl _)
 ·rcases Yap.mp (xa b hm)with z|z
  ·exact(hf b L).2.1 z
  ·exact(hf b L).2.2.1 z
 ·-- a captured name
  have va:∃j,pick[i]?=some (some j)/\σ[j]?=some (some v):=by
   rw[Yau]at Z;cases q:pick[i]? with
   |none=>simp_all
   |some o=>
    rw[q]at Z;cases o with
    |none=>simp at Z
    |some j=>
     grind
  obtain⟨j,ej,ev⟩:=va;obtain⟨hN,ja⟩:=S.caps i j x e1 ej;have O:(x,YaR)∈scope.names:=YaI ja;have wa:(x,YaN)∉scope.names:=λz=>by
   have:=S.cells _ z rfl
   lia
  obtain⟨_,Y⟩:=S.fre _ O rfl;obtain⟨m,hn,hl⟩:=F.loc;obtain⟨u,r,l⟩:=hl j x v hN ev (Y.elim (λz=>.inr (.inl z)) λz=>.inr (.inr z));refine⟨u,r,.inr ⟨?_,?_⟩⟩
  ·exact jbe (env:=X.env) ja
  ·obtain⟨c,J⟩:=c2 _ O rfl;have ka:=c1 _ _ J;rcases l with⟨z,_⟩|⟨_,c',e,o,ho,hd⟩
   ·lia
   ·have:c'=c:=by lia
    subst this;exact⟨c',B.old x c' wa J,o,hk _ _ ho,hd⟩
 ·rcases B.lk x c e with⟨_,_,z⟩|⟨_,z⟩
  ·grind
  ·obtain⟨v,o,ho,hd⟩:=F.cell x c (c1 x c z);exact⟨v,o,hk _ _ ho,hd⟩
 ·rcases oc x c e with z|z
  ·exact F.freeC x c z
  ·exact F.hok.fresh (Yb6 z)
 ·rw[Yaa];exact S.len

def jj8     {F:St}(L:Inv X pins σ H3 s3)(j:∀b∈I,FpOk X pins H3 b)(J:Inv (jae X N scope cl C s3 H3 I) z F H' O) :
  Inv X pins σ H' O:=L.call' J.os J.base J.hok J.bare λb y=>⟨(j b y).2.2.2.1,(j b y).2.1,(j b y).2.2.2.2.1,(j b y).2.2.2.2.2⟩

def jiB                  {ya:St} 
  (yc:Y.calm=true) (O:Y.xe=λ_ _=>False)
  (jb:YdR (.ListComp elt gens scope pos) dp (.ref it) acc Y.env=jcw ip tg ifs (.ref it) Y.env em (.compLoop (.ListComp elt gens scope pos) dp (.ref it) acc Y.env))
  (yg:PG Y tg g) (yi:PIfs Y ifs tt) (ym:PEm Y em ha) (J0:Inv Y pins ya H s) (T:Turn Y.prog Y.w Y.K tg J fp it tn) (t0:tn 0 s.heap) (f0:∀b∈fp,FpOk Y pins H b) (hW:jhn J g tt ha QQ ya zb H) :
  codeAny (model Y.prog Y.w) Y.A (.compLoop (.ListComp elt gens scope pos) dp (.ref it) acc Y.env) (λr s'=>r=.ok .next/\∃ja ka j,Inv Y pins ja j s'/\QQ ja ka j) s:=by
 obtain⟨W,⟨m0,w0⟩,za⟩:=hW;have y:∀{j:Hp},(∀b∈fp,j b=none)->∀b∈fp,FpOk Y pins j b:=λhn b L=>⟨hn b L,(f0 b L).2⟩;refine jfJ (λn s'=>∃i F Z j,Inv Y pins F j s'/\tn i s'.heap/\(∀b∈fp,j b=none)/\W i n F Z j) jb ?_ m0 ⟨0,_,zb,_,J0,t0,λb L=>(f0 b L).1,w0⟩;rintro n s4 ⟨i,F,Z,H4,J4,t4,fr4,w4⟩;rcases za i n F Z H4 w4 with⟨va,q⟩|⟨go,step⟩
 ·refine YaZ (T.done Y rfl rfl rfl yc i pins s4 F H4 (λ_ _=>False) J4 (y fr4) t4 va) (λr s5 ⟨hr,J5⟩=>?_) λ_ _ f=>f;subst hr;exact⟨rfl,F,Z,H4,J5,q⟩
 ·refine YaZ (T.item Y rfl rfl rfl yc i pins s4 F H4 (λ_ _=>False) J4 (y fr4) t4 go) (λr s5 ⟨u,hr,h5⟩=>?_) λ_ _ f=>f;subst hr;refine YaZ h5 (λ_ s6 ⟨x,H6,J6,r6,y6,t6,wa⟩=>?_) λ_ _ f=>f;have xb:=J6.pinned (y wa) (T.obj _ _ t6);have ag:=yg _ s6 F H6 x u _ xb r6 (step x H6 y6);rw[O]at ag;refine YaZ ag (λ_ s7 ⟨xa,H7,J7,q7⟩=>?_) λ_ _ f=>f;have ai:=yi _ s7 xa H7 _ J7 q7;rw[O]at ai;refine YaZ ai (λok s8 ⟨H8,J8,q8⟩=>?_) λ_ _ f=>f;have z:∀{I:St} {H9:Hp} {s9:Shared} {zs:List V},Inv Y (pins++jfh fp s6.heap) I H9 s9->(∃m',m'<n/\W (i+1) m' I zs H9)->∃m,m<n/\∃i F Z j,Inv Y pins F j s9/\tn i s9.heap/\(∀b∈fp,j b=none)/\W i m F Z j:=λ{I H9 s9 zs} J9 ⟨m',hm,w9⟩=>by
   refine⟨m',hm,i+1,I,zs,H9,J9.unpinned,T.keep _ _ _ t6 λb L o e=>(J9.pin (b,o) (YaS _ (YaS _ (jcf L e)))).1,λb L=>?_,w9⟩;obtain⟨o,e,d⟩:=T.obj _ _ t6 b L;exact(J9.pin (b,o) (YaS _ (YaS _ (jcf L e)))).2.1
  cases ok with
  |false=>exact z J8 q8
  |true=>
   have am:=ym _ s8 xa Z H8 _ J8 q8;rw[O]at am;exact YaZ am (λ_ s9 ⟨I,zs,H9,J9,q9⟩=>z J9 q9) λ_ _ f=>f
def jiW      (za:Y.xe=λ_ _=>False)(he:PE Y elt te):PEm Y (do let _ <- call (.builtin "list.append") [.ref D,<- eval elt Y.env]) (emA te D):=by
 intro O s j Z H Q J q;have ae:=he _ s j H _ J q;refine Yab (YaZ ae (λv s9 ⟨z,H9,J9,r9,y,L,q9⟩=>?_) λ_ _ f=>f);have aa:=jfq (X:=Y) _ s9 j H9 (.ref D) [z] (.ref D) [v] (λx H'=>H'=upd H9 D (.lst (Z++[z]))) J9 rfl (.cons r9 .nil) ⟨_,Z,z,rfl,rfl,y,L,rfl⟩;refine Yab (YaZ aa (λ_ xa ⟨_,ja,I,_,F⟩=>?_) λ_ _ f=>f);subst F;exact Yam ⟨j,_,_,I,q9⟩
def jkZ            (yc:Y.calm=true)(z:Y.xe=λ_ _=>False)(hw:PI Y t2 j wi)(hg:PG Y t2 g)(hi:PIfs Y I tt)(he:PE Y elt te)
  (hs:∀x,Yaz j Y.env x=pure x) :
  PEm Y (do
   let x <- eval j Y.env
   standAt j.pos
   let x <- Yaz j Y.env x
   let _ <- runOwn (.compStart (.ListComp elt [g1,⟨t2,j,I,0⟩] scope pos) 1 (<- holding [x] (pyIter x)) (.ref D) Y.env) Y.env) (em2 wi g tt te D):=by
 intro y s τ ys H Q J q;refine Yab (thn (hw y s τ H _ J q) λv s1 h1=>Yab (Ybz (Yab (wpAny_of_eq (hs v) (Yab (YbH (thn h1 λxa s2 h2=>?_)))))));obtain⟨it,fp,tn,J2,H2,e,I2,T,st2,O,hW⟩:=h2;subst e;have Z:=jiB (s:=s2) (acc:=.ref D) (em:=do let _ <- call (.builtin "list.append") [.ref D,<- eval elt Y.env]) (gens:=[g1,⟨t2,j,I,0⟩]) (dp:=1) (ip:=j.pos) (pos:=pos) (scope:=scope) (elt:=elt) (ifs:=I) yc z rfl hg hi (jiW z he) I2 T st2 O hW
 refine Yab (wpAny_runOwn (YdF (jca Z (T.self _ 0 _ _ _ st2 Z)) λr s3 ⟨hr,F,L,H',I',q'⟩=>?_));subst hr;exact Yam ⟨F,L,H',I',q'⟩
def jg4 {tg I elt:Expr}{ifs:List Expr}{rest:List Ydt}{pos:Pos}{g:TG}{tt:TT}{za:Addr->TEm}{em:Addr->Env->Sem Unit}{J:It}{L:List Addr}{it:Addr}{tn:Nat->Heap->Prop}{cl:List (Str×Addr)}{Q:VK}{E:Value->Shared->Prop}{RR:Value->Addr->Result->Shared->Prop}
  (hc:X.calm=true) (S:CScope X N pick scope) (c1:∀x c,cl.lookup x=some c->X.env.cells.lookup x=some c) (c2:∀y∈scope.names,y.2=.free->∃c,cl.lookup y.1=some c)
  (hg:∀cl C s₀ H₀ L,PG (jae X N scope cl C s₀ H₀ L) tg g) (hi:∀cl C s₀ H₀ L,PIfs (jae X N scope cl C s₀ H₀ L) ifs tt) (he:∀D cl C s₀ H₀ L,PEm (jae X N scope cl C s₀ H₀ L) (em D (jae X N scope cl C s₀ H₀ L).env) (za D))
  (kb:∀(it:Value) (D:Addr) (env:Env),YdR (.ListComp elt (⟨tg,I,ifs,0⟩::rest) scope pos) 0 it (.ref D) env=jcw I.pos tg ifs it env (em D env) (.compLoop (.ListComp elt (⟨tg,I,ifs,0⟩::rest) scope pos) 0 it (.ref D) env))
  (I2:Inv X pins σ H s) (T:Turn X.prog X.w X.K tg J L it tn) (st:tn 0 s.heap) (hf:∀b∈L,FpOk X pins H b)
  (hW:∀D,H D=none->LcGG J g tt za D (pick.map λo=>o.bind λj=>(σ[j]?).join) Q H)
  (vb:∀D C H' s',Inv X pins σ H' s'->(∃m,s'.heap.Ns C m)->FpOk X pins H' C->Q (.ref D) H'->RR (.ref D) C (.ok .next) s') :
  wpAny (model X.prog X.w) X.A (newList []) (λacc zb=>wpAny (model X.prog X.w) X.A (Yfk scope X.env.globals cl [] X.env.qual none .none (some X.env)) (λxa ka=>
   codeAny (model X.prog X.w) X.A (.compStart (.ListComp elt (⟨tg,I,ifs,0⟩::rest) scope pos) 0 (.ref it) acc { xa with scope:=relabel scope X.env }) (RR acc xa.locals) ka) E zb) E s:=by
 have hD:H s.heap.objs.size=none:=I2.hok.fresh (Yac _);have ha:∀b∈L,b<s.heap.objs.size:=λb F=>let ⟨o,e,_⟩:=T.obj _ _ st b F;Yan e
 refine Ya2 (jcC ?_);have I3:Inv X pins σ (upd H s.heap.objs.size (.lst [])) { s with heap:=s.heap.push { cls:=.type "list",dict:=none,data:=.seq ([]:List Value).toArray } }:=
  I2.laid (t':=s.toks) (λb u e=>Yad _ e) (Yac _) ⟨YaF _,[],0,.nil,Yay _ rfl⟩
 generalize xb:({ s with heap:=s.heap.push { cls:=.type "list",dict:=none,data:=.seq ([]:List Value).toArray } }:Shared)=s3 at I3 ⊢
 have wc:s3.heap.objs.size=s.heap.objs.size+1:=by rw[<- xb];simp_all
 have ja:∀b∈L,FpOk X pins (upd H s.heap.objs.size (.lst [])) b:=λb F=>⟨by rw[jad (YaD (ha b F))];exact(hf b F).1,(hf b F).2⟩
 have wa:(s3.heap.push { cls:=.type "dict",data:=.dict #[] }).objs.size=s3.heap.objs.size+1:=YdB ..;have hk:∀b o,s3.heap.get? b=some o->(Ye5 (s3.heap.push { cls:=.type "dict",data:=.dict #[] }) scope.names).get? b=some o:=λb o e=>pushCells_keeps _ _ b o (Yad _ e);have Z:(Ye5 (s3.heap.push { cls:=.type "dict",data:=.dict #[] }) scope.names).Ns s3.heap.objs.size λ_=>none:=(Heap.Ns.new s3.heap (.type "dict")).keeps (pushCells_keeps _ _);have B:=jjj (cl:=cl) wa S.cells λx c e=>by
  obtain⟨v,z⟩:=I3.cell x c (c1 x c e);exact Yb6 z.lt
 generalize Ye5 (s3.heap.push { cls:=.type "dict",data:=.dict #[] }) scope.names=h₁ at hk Z B ⊢;generalize Ybk (s3.heap.objs.size+1) scope.names cl=cs at B ⊢;have jb:∀x c,cs.lookup x=some c->X.env.cells.lookup x=some c\/s3.heap.objs.size<c:=λx c e=>by
  rcases B.lk x c e with⟨_,z,_⟩|⟨_,z⟩
  ·lia
  simp_all
 have st1:tn 0 h₁:=T.keep _ _ _ st λb _ o e=>hk b o (by rw[<- xb];exact Yad _ e)
 have IY:Inv (jae X N scope cs s3.heap.objs.size s3 (upd H s.heap.objs.size (.lst [])) L) [] (pick.map λo=>o.bind λj=>(σ[j]?).join) (upd H s.heap.objs.size (.lst [])) { s3 with heap:=h₁ }:=
  jhI (tk:=s3.toks) S I3 ja (λb F=>Yar (ha b F) (by lia)) c1 c2 B Z hk
 generalize hY:jae X N scope cs s3.heap.objs.size s3 (upd H s.heap.objs.size (.lst [])) L=Y at IY;have yg:PG Y tg g:=hY ▸ hg _ _ _ _ _;have yi:PIfs Y ifs tt:=hY ▸ hi _ _ _ _ _;have ye:PEm Y (em s.heap.objs.size Y.env) (za s.heap.objs.size):=hY ▸ he _ _ _ _ _ _;have va:Y.prog=X.prog:=by rw[<- hY];rfl
 have yw:Y.w=X.w:=by rw[<- hY];rfl
 have yK:Y.K=X.K:=by rw[<- hY];rfl
 have yA:Y.A=X.A:=by rw[<- hY];rfl
 have yc:Y.calm=true:=by rw[<- hY];exact hc
 have O:Y.env=compEnvC scope cs s3.heap.objs.size X.env:=by rw[<- hY];rfl
 have wb:∀b,b∈Y.ex↔b∈L:=λb=>by rw[<- hY];rfl
 have qc:Y.xe=λ_ _=>False:=by rw[<- hY];rfl
 have jc:Y.pn=[]:=by rw[<- hY];rfl
 have yb:∀b,b∈Y.fs->b∈X.env.locals::X.fs:=λb F=>I3.stkSub b (by rw[<- hY]at F;exact F)
 have ya:∀{H':Hp},(∀b∈L,H' b=none)->∀b∈L,FpOk Y [] H' b:=λhn b F=>by
  refine⟨hn b F,?_,λhm=>?_,.inl ((wb b).mpr F),λx c e=>?_,λp hp=>?_⟩
  ·rw[O];show b≠s3.heap.objs.size
   grind
  ·rcases Yap.mp (yb b hm)with z|z
   ·exact(hf b F).2.1 z
   ·exact(hf b F).2.2.1 z
  ·rw[O]at e;rcases jb x c e with z|z
   ·exact(hf b F).2.2.2.2.1 x c z
   grind
  simp_all
 have vc:∀{τ:St} {H':Hp} {s':Shared},Inv Y [] τ H' s'->Q (.ref s.heap.objs.size) H'->RR (.ref s.heap.objs.size) s3.heap.objs.size (.ok .next) s':=λ{τ H' s'} J q=>by
  have fr:H' s3.heap.objs.size=none:=by have:=J.free;rw[O]at this;exact this
  obtain⟨m,hn,_⟩:=J.loc;rw[O]at hn;exact vb _ _ H' s' (jj8 I3 ja (hY ▸ J)) ⟨m,hn⟩ (I3.fpOk (Yac _) fr) q
 have hn:∀b∈L,upd H s.heap.objs.size (.lst []) b=none:=λb F=>(ja b F).1;have lp:=jiB (pins:=[]) (s:={ s3 with heap:=h₁ }) (acc:=.ref s.heap.objs.size) (ifs:=ifs) (em:=em s.heap.objs.size Y.env) yc qc (kb (.ref it) s.heap.objs.size Y.env) yg yi ye IY (by lia) st1 (ya hn) (hW _ hD)
 rw[va,yw,yA,O]at lp;have lp:=YdF lp (R':=RR (.ref s.heap.objs.size) s3.heap.objs.size) λr s' ⟨hr,xc,zc,H',I',q'⟩=>by grind
 show codeAny (model X.prog X.w) X.A (.compStart (.ListComp elt (⟨tg,I,ifs,0⟩::rest) scope pos) 0 (.ref it) (.ref s.heap.objs.size) (compEnvC scope cs s3.heap.objs.size X.env)) (RR (.ref s.heap.objs.size) s3.heap.objs.size) _;exact codeAny_compStart_list lp (T.self _ 0 _ _ _ st1 lp)

def jgH       it D env:YdR (.ListComp elt [⟨tg,iter,ifs,0⟩,⟨t2,j,y,0⟩] scope pos) 0 it (.ref D) env=jcw iter.pos tg ifs it env (eval j env >>= λx=>standAt j.pos >>= λ_=>Yaz j env x >>= λx=>holding [x] (pyIter x) >>= λi=>runOwn (.compStart (.ListComp elt [⟨tg,iter,ifs,0⟩,⟨t2,j,y,0⟩] scope pos) 1 i (.ref D) env) env >>= λ_=>pure ()) (.compLoop (.ListComp elt [⟨tg,iter,ifs,0⟩,⟨t2,j,y,0⟩] scope pos) 0 it (.ref D) env):=by
 unfold YdR jcw jeN;simp only[bind_assoc];rfl
section
variable {tg iter elt:Expr}{ifs:List Expr}
def jkD {pos:Pos}{wi:TI}{g:TG}{tt:TT}{rest:List Ydt}{O:Addr->TEm}{em:Addr->Env->Sem Unit}(hc:X.calm=true)(S:CScope X N pick scope)(hw:PI X tg iter wi)
  (hg:∀cl C s₀ H₀ F,PG (jae X N scope cl C s₀ H₀ F) tg g) (hi:∀cl C s₀ H₀ F,PIfs (jae X N scope cl C s₀ H₀ F) ifs tt) (he:∀D cl C s₀ H₀ F,PEm (jae X N scope cl C s₀ H₀ F) (em D (jae X N scope cl C s₀ H₀ F).env) (O D))
  (xa:∀(it:Value) (D:Addr) (env:Env),YdR (.ListComp elt (⟨tg,iter,ifs,0⟩::rest) scope pos) 0 it (.ref D) env=jcw iter.pos tg ifs it env (em D env) (.compLoop (.ListComp elt (⟨tg,iter,ifs,0⟩::rest) scope pos) 0 it (.ref D) env))
  (hs:∀x,Yaz iter X.env x=pure x:=by intro _;rfl):PE X (.ListComp elt (⟨tg,iter,ifs,0⟩::rest) scope pos) (tLcG pick wi g tt O):=by
 intro j s σ H Q I h;obtain⟨cl,z,c1,c2⟩:=jeD (scope:=scope) (env:=X.env) λy hy hf=>I.ok.has _ (S.fre y hy hf).2;rw[eval_ListComp];refine Yfv (use:=none) rfl hs z S.kind S.names (thn (hw j s σ H _ I h) λv s1 h1=>thn h1 λza s2 h2=>?_);obtain⟨it,F,tn,J,H2,e,I2,T,st2,f2,hW⟩:=h2;subst e;refine jg4 (RR:=λY C=>compPost (model X.prog X.w) X.A X.xe none (EP X j σ Q) Y C) hc S c1 c2 hg hi he xa I2 T st2 f2 hW λD C H' s' J' ⟨m,hn⟩ L q=>?_;refine⟨m,hn,λh' Z=>⟨.ref D,H',?_,rfl,q⟩⟩;exact J'.turned (t':=s'.toks) (it:=C) (λb o hb e=>Z.extBut b o hb e) L.1 L.2.1 L.2.2.2.1 L.2.2.2.2.1 L.2.2.2.2.2

def jkz {pos Z F:Pos}{wi:TI}{g:TG}{tt:TT}{rest:List Ydt}{xa:Addr->TEm}{em:Addr->Env->Sem Unit}{i:Nat}{y:Str}(hN:X.N.Nodup)(ja:X.N[i]?=some y)(hy:X.env.scope.names.lookup y=some .local)(hc:X.calm=true)(S:CScope X N pick scope)(hw:PI X tg iter wi)
  (hg:∀cl C s₀ H₀ O,PG (jae X N scope cl C s₀ H₀ O) tg g) (hi:∀cl C s₀ H₀ O,PIfs (jae X N scope cl C s₀ H₀ O) ifs tt) (he:∀D cl C s₀ H₀ O,PEm (jae X N scope cl C s₀ H₀ O) (em D (jae X N scope cl C s₀ H₀ O).env) (xa D))
  (zb:∀(it:Value) (D:Addr) (env:Env),YdR (.ListComp elt (⟨tg,iter,ifs,0⟩::rest) scope pos) 0 it (.ref D) env=jcw iter.pos tg ifs it env (em D env) (.compLoop (.ListComp elt (⟨tg,iter,ifs,0⟩::rest) scope pos) 0 it (.ref D) env))
  (za:YbY (.ListComp elt (⟨tg,iter,ifs,0⟩::rest) scope pos) (some (.Name y Z)) F.line X.env=pure true) (hs:∀x,Yaz iter X.env x=pure x:=by intro _;rfl) :
  PS X (.Assign [.Name y Z] (.ListComp elt (⟨tg,iter,ifs,0⟩::rest) scope pos) F) (tAsg (tLcG pick wi g tt xa) (jhF i)):=by
 intro j s σ H D0 I h;obtain⟨cl,L,c1,c2⟩:=jeD (scope:=scope) (env:=X.env) λy hy hf=>I.ok.has _ (S.fre y hy hf).2;rw[exec_Assign_Name_used _ _ _ _ za];refine Yab (Ybz (Yab ?_));show wpAny _ _ (do let _ <- comprehension (.ListComp elt (⟨tg,iter,ifs,0⟩::rest) scope pos) scope X.env _ (newList []) false (eval iter X.env) (some (assign (.Name y Z) X.env))) _ _ s
 refine Yab (thn (Yfv (use:=some (assign (.Name y Z) X.env)) (Q:=λ_ s'=>SP X j D0 .next s') rfl hs L S.kind S.names
  (thn (hw j s σ H _ I h) λv s1 h1=>thn h1 λjb s2 h2=>?_)) λ_ s' hq=>Yam (Yam hq))
 obtain⟨it,O,tn,J,H2,e,I2,T,st2,f2,hW⟩:=h2;subst e;refine jg4 (Q:=λx H1=>jhF i x σ H1 D0.nx) (RR:=λva C=>compPost (model X.prog X.w) X.A X.xe (some (assign (.Name y Z) X.env)) (λ_ s'=>SP X j D0 .next s') va C) hc S c1 c2 hg hi he zb I2 T st2 f2 hW λD C H' s' J' ⟨m,hn⟩ Y q=>?_
 show wpAny _ _ (assign (.Name y Z) X.env (.ref D)) _ _ _;refine wpAny_assign_Name (jfd (v:=.ref D) J' hN ja (.inl hy) rfl (λka ya ⟨a,sb,ha⟩=>?_) (.inr hy));have xb:C≠a:=by
  rcases ha with z|z
  ·rw[z];exact Y.2.1
  ·exact λe=>Y.2.2.2.2.1 y a z e.symm
 refine⟨m,hn.sameBut sb xb,λh' wa=>?_⟩;refine⟨_,H',ya.turned (t':=ka.toks) (it:=C) (λb o hb e=>wa.extBut b o hb e) Y.1 Y.2.1 Y.2.2.2.1 Y.2.2.2.2.1 Y.2.2.2.2.2,q⟩
def jpB {pos:Pos}{z:TI}{g:TG}{I:TT}{F:TE}(L:X.calm=true)(S:CScope X N pick scope)(J:PI X tg iter z)
  (Y:∀cl C s₀ H₀ j,PG (jae X N scope cl C s₀ H₀ j) tg g) (hi:∀cl C s₀ H₀ j,PIfs (jae X N scope cl C s₀ H₀ j) ifs I) (O:∀cl C s₀ H₀ j,PE (jae X N scope cl C s₀ H₀ j) elt F)
  (hs:∀x,Yaz iter X.env x=pure x:=by intro _;rfl):PE X (.ListComp elt [⟨tg,iter,ifs,0⟩] scope pos) (tLc pick z g I F):=
 jkD (em:=λD y=>do let _ <- call (.builtin "list.append") [.ref D,<- eval elt y]) (rest:=[]) L S J Y hi (λD cl C s₀ H₀ j=>jiW rfl (O cl C s₀ H₀ j)) (λ_ _ _=>rfl) hs
def jnt {pos:Pos}{Z:TI}{g:TG}{tt:TT}{te:TE}{t2 y:Expr}{I:List Expr}{z:TI}{g2:TG}{F:TT}(hc:X.calm=true)(S:CScope X N pick scope)(hw:PI X tg iter Z)
  (hg:∀cl C s₀ H₀ j,PG (jae X N scope cl C s₀ H₀ j) tg g) (hi:∀cl C s₀ H₀ j,PIfs (jae X N scope cl C s₀ H₀ j) ifs tt) (he:∀cl C s₀ H₀ j,PE (jae X N scope cl C s₀ H₀ j) elt te)
  (Y:∀cl C s₀ H₀ j,PI (jae X N scope cl C s₀ H₀ j) t2 y z) (O:∀cl C s₀ H₀ j,PG (jae X N scope cl C s₀ H₀ j) t2 g2) (L:∀cl C s₀ H₀ j,PIfs (jae X N scope cl C s₀ H₀ j) I F) (J:∀(env:Env) x,Yaz y env x=pure x)
  (hs:∀x,Yaz iter X.env x=pure x:=by intro _;rfl):PE X (.ListComp elt [⟨tg,iter,ifs,0⟩,⟨t2,y,I,0⟩] scope pos) (tLc2 pick Z g tt z g2 F te):=
 jkD (em:=(λD env=>do
   let x <- eval y env
   standAt y.pos
   let x <- Yaz y env x
   let _ <- runOwn (.compStart (.ListComp elt [⟨tg,iter,ifs,0⟩,⟨t2,y,I,0⟩] scope pos) 1 (<- holding [x] (pyIter x)) (.ref D) env) env)) (rest:=[⟨t2,y,I,0⟩]) hc S hw hg hi (λD cl C s₀ H₀ j=>jkZ hc rfl (Y cl C s₀ H₀ j) (O cl C s₀ H₀ j) (L cl C s₀ H₀ j) (he cl C s₀ H₀ j) (J _)) jgH hs
def jpt {pos:Pos}{L:TI}{g:TG}{Z:TT}{Y:TE}{O j:Pos}{i:Nat}{y:Str}(hN:X.N.Nodup)(J:X.N[i]?=some y)(hy:X.env.scope.names.lookup y=some .local)(hc:X.calm=true)(S:CScope X N pick scope)(hw:PI X tg iter L)
  (hg:∀cl C s₀ H₀ z,PG (jae X N scope cl C s₀ H₀ z) tg g) (hi:∀cl C s₀ H₀ z,PIfs (jae X N scope cl C s₀ H₀ z) ifs Z) (he:∀cl C s₀ H₀ z,PE (jae X N scope cl C s₀ H₀ z) elt Y)
  (F:YbY (.ListComp elt [⟨tg,iter,ifs,0⟩] scope pos) (some (.Name y O)) j.line X.env=pure true) (hs:∀x,Yaz iter X.env x=pure x:=by intro _;rfl):PS X (.Assign [.Name y O] (.ListComp elt [⟨tg,iter,ifs,0⟩] scope pos) j) (tAsg (tLc pick L g Z Y) (jhF i)):=
 jkz (em:=λD I=>do let _ <- call (.builtin "list.append") [.ref D,<- eval elt I]) (rest:=[]) hN J hy hc S hw hg hi (λD cl C s₀ H₀ z=>jiW rfl (he cl C s₀ H₀ z)) (λ_ _ _=>rfl) F hs
def jnj {pos:Pos}{wi:TI}{g:TG}{tt:TT}{te:TE}{t2 z:Expr}{J:List Expr}{I:TI}{g2:TG}{L:TT}{py F:Pos}{i:Nat}{y:Str}(hN:X.N.Nodup)(Y:X.N[i]?=some y)(hy:X.env.scope.names.lookup y=some .local)(hc:X.calm=true)(S:CScope X N pick scope)(hw:PI X tg iter wi)
  (hg:∀cl C s₀ H₀ j,PG (jae X N scope cl C s₀ H₀ j) tg g) (hi:∀cl C s₀ H₀ j,PIfs (jae X N scope cl C s₀ H₀ j) ifs tt) (he:∀cl C s₀ H₀ j,PE (jae X N scope cl C s₀ H₀ j) elt te)
  (ja:∀cl C s₀ H₀ j,PI (jae X N scope cl C s₀ H₀ j) t2 z I) (Z:∀cl C s₀ H₀ j,PG (jae X N scope cl C s₀ H₀ j) t2 g2) (za:∀cl C s₀ H₀ j,PIfs (jae X N scope cl C s₀ H₀ j) J L) (xa:∀(env:Env) x,Yaz z env x=pure x)
  (O:YbY (.ListComp elt [⟨tg,iter,ifs,0⟩,⟨t2,z,J,0⟩] scope pos) (some (.Name y py)) F.line X.env=pure true) (hs:∀x,Yaz iter X.env x=pure x:=by intro _;rfl):PS X (.Assign [.Name y py] (.ListComp elt [⟨tg,iter,ifs,0⟩,⟨t2,z,J,0⟩] scope pos) F) (tAsg (tLc2 pick wi g tt I g2 L te) (jhF i)):=
 jkz (em:=(λD env=>do
   let x <- eval z env
   standAt z.pos
   let x <- Yaz z env x
   let _ <- runOwn (.compStart (.ListComp elt [⟨tg,iter,ifs,0⟩,⟨t2,z,J,0⟩] scope pos) 1 (<- holding [x] (pyIter x)) (.ref D) env) env)) (rest:=[⟨t2,z,J,0⟩]) hN Y hy hc S hw hg hi (λD cl C s₀ H₀ j=>jkZ hc rfl (ja cl C s₀ H₀ j) (Z cl C s₀ H₀ j) (za cl C s₀ H₀ j) (he cl C s₀ H₀ j) (xa _)) jgH O hs
end
end

mutual
inductive DV (K:Yae)(H:Hp):V->PyData->Prop
 |non:DV K H .non .none
 |bl (b:Bool):DV K H (.bl b) (.bool b)
 |int (i:Int):DV K H (.int i) (.int i)
 |str (x:Str):DV K H (.str x) (.str x)
 |tup {a:Addr} {xs:List V} {ds:List PyData}:SqT K H a xs->DVs K H xs ds->DV K H (.ref a) (.tuple ds)
 |lst {a:Addr} {xs:List V} {ds:List PyData}:Rd H a (.lst xs)->DVs K H xs ds->DV K H (.ref a) (.list ds)
 |dic {a:Addr}:H a=some (.dK [])->DV K H (.ref a) (.dict [])
inductive DVs (K:Yae)(H:Hp):List V->List PyData->Prop
 |nil:DVs K H [] []
 |cons {x:V} {d:PyData} {xs:List V} {ds:List PyData}:DV K H x d->DVs K H xs ds->DVs K H (x::xs) (d::ds)
end

mutual
noncomputable def noL:PyData->Bool
 |.list _=>false
 |.tuple j=>noLs j
 |.dict _=>false
 |.none|.bool _|.int _|.str _=>true
noncomputable def noLs:List PyData->Bool
 |[]=>true
 |x::r=>noL x&&noLs r
end


def Inv.noSys    {j:St}(I:Inv X pins j H s)(h:s.heap.get? a=some o)(c:o.cls=.type "list"):Ya6≠a:=λe=>by
 obtain⟨z,l,y⟩:=I.mod.sys;have:=I.kIn _ _ l
 lia
mutual
theorem DV.reads2 {X:Cx}{pins:List (Addr×Obj)}{σ:St}{H:Hp}{s:Shared}(I:Inv X pins σ H s):∀{x:V} {d:PyData} {u:Value},DV X.K H x d->RelV x u->∃as,Reads s.heap u d as/\Ya6∉as
 |_,_,_,.non,r=>by cases r;exact⟨_,.none,by simp⟩
 |_,_,_,.bl b,r=>by cases r;exact⟨_,.bool b,by simp⟩
 |_,_,_,.int i,r=>by obtain⟨t,rfl⟩:=r;exact⟨_,.int i t,by simp⟩
 |_,_,_,.str x,r=>by obtain⟨t,rfl⟩:=r;exact⟨_,.str x t,by simp⟩
 |_,_,_,.tup e h,r=>by
  cases r
  obtain⟨Y,O,⟨o,j,F,n,hd⟩,_⟩:=I.tuple e
  obtain⟨as,q,z⟩:=DVs.reads2 I h O
  exact⟨_,.tuple j F hd q,z⟩
 |_,_,_,@DV.lst _ _ a _ _ e h,r=>by
  cases r
  obtain⟨Y,O,⟨o,n,j,F,_,hd⟩,_⟩:=I.list (.inl e)
  obtain⟨as,q,z⟩:=DVs.reads2 I h O
  refine⟨_,.list j F hd q,λy=>?_⟩
  rcases Yap.mp y with y|y
  ·exact I.noSys j F y
  lia
 |_,_,_,@DV.dic _ _ a e,r=>by
  cases r
  obtain⟨_,hS,J,kv,o,Z,ep,j,hx,hd,_,L,_⟩:([]:List (Key×V)).length<=Yai/\(a==Ya6)=false/\∃J,KV [] J/\s.heap.DictOf (jam X.prog X.w) a J:=I.hok a _ e
  have e0:Z.toList=[]:=by
   cases kv
   revert L
   cases Z.toList with
   |nil=>lia
   |cons x r=>exact λL=>(nomatch L)
  refine⟨_,.dict (kvs:=[]) (as:=[]) (bs:=[]) j hx.1 hd (by rw[e0];exact .nil) (by rw[e0];exact .nil),λy=>?_⟩
  simp_all
theorem DVs.reads2 {X:Cx}{pins:List (Addr×Obj)}{y:St}{H:Hp}{s:Shared}(I:Inv X pins y H s):∀{xs:List V} {ds:List PyData} {us:List Value},DVs X.K H xs ds->Vals xs us->∃as,ReadsAll s.heap us ds as/\Ya6∉as
 |_,_,_,.nil,r=>by cases r;exact⟨_,.nil,by simp⟩
 |_,_,_,.cons a b,r=>by
  cases r with
  |cons r rr=>
   obtain⟨as,q,z⟩:=DV.reads2 I a r
   obtain⟨bs,j,F⟩:=DVs.reads2 I b rr
   exact⟨_,.cons q j,by simp_all⟩
end
def DV.reads {X:Cx}{pins:List (Addr×Obj)}{j:St}{H:Hp}{s:Shared}(I:Inv X pins j H s){x:V}{d:PyData}{u:Value}(h:DV X.K H x d)(r:RelV x u):∃as,Reads s.heap u d as:=let ⟨as,q,_⟩:=DV.reads2 I h r;⟨as,q⟩
def DVs.reads    {j:St}(I:Inv X pins j H s)(h:DVs X.K H xs ds)(r:Vals xs us):∃as,ReadsAll s.heap us ds as:=let ⟨as,q,_⟩:=DVs.reads2 I h r;⟨as,q⟩

structure Fits (n k:Nat)(d:PyData):Prop where
 sh:d.showable=true
 ln:d.shown.length<=n
 dp:d.depth<=k
def Fits.mono    (h:Fits n k d)(z:n<=j)(y:k<=k'):Fits j k' d:=⟨h.sh,Yaf h.ln z,Yaf h.dp y⟩
def Fits.non  : Fits 4 0 .none:=⟨rfl,by decide +kernel,Yac _⟩
def Fits.bl   b:Fits 5 0 (.bool b):=⟨rfl,by cases b<;>decide +kernel,Yac _⟩
def Fits.str    (h:x.length<=m)(j:∀c∈x.cps.toList,c<16 ^ 8):Fits (10*m+2) 0 (.str x):=by
 refine⟨rfl,?_,Yac _⟩;simp only[YbX];exact Yaf (StrLaws.reprText_len x j) (by lia)
def jgX    (h:∀t∈ts,t.length<=n):piled ts<=ts.length*(n+2):=by
 induction ts with
 |nil=>simp[piled]
 |cons t r j=>
  have z:=h t Yav;have F:=j λq y=>h q (Yaj _ y);rw[piled_cons,YaU,YfS]
  lia
theorem jbZ  : ∀{ds } {t },t∈Ybc ds->∃d∈ds,t=d.shown
 |[],_,h=>by simp[Ybc]at h
 |d::r,t,h=>by
  simp only[Ybc,Yap]at h;rcases h with h|h
  ·simp_all
  ·obtain⟨e,j,q⟩:=jbZ h
   grind
theorem jbb  : ∀ds ,(Ybc ds).length=ds.length
 |[]=>rfl
 |_::r=>by simp[Ybc,jbb r]
def jiI   ts:(Ycc ", " ts).length<=piled ts:=by
 rcases Classical.em (ts=[])with rfl|hz
 ·exact YaF _
 ·exact Nat.le_of_add_right_le (Yec (join_length_add ts hz))
def jfb    (h:∀t∈ts,t.length<=n):(tupleText ts).length<=ts.length*(n+2)+3:=by
 have j:=Yaf (jiI ts) (jgX h);have two:∀b:Bool,((((if b=true then ",)" else ")"):String):Str)).length<=2:=by decide
 have z:=two (ts.length==1);have one:(("(" : String):Str).length=1:=rfl
 simp only[tupleText,Yef]at z ⊢
 lia
theorem jdC  : ∀ts k (acc:Str),(textFrom k acc ts).length<=acc.length+piled ts
 |[],_,_=>Yac _
 |t::r,k,acc=>by
  have two:(((if k>0 then ", " else "" : String):Str)).length<=2:=by split<;>decide
  have j:=jdC r (k+1) (acc++(if k>0 then ", " else "" : String)++t)
  simp only[Yef]at j;rw[piled_cons];exact Yaf j (by lia)
def jge    (h:∀t∈ts,t.length<=n):(listText ts).length<=ts.length*(n+2)+3:=by
 have j:=Yaf (jdC ts 0 "[") (YdK (jgX h) _)
 have one:(("[" : String):Str).length=1/\(("]" : String):Str).length=1:=⟨rfl,rfl⟩;simp only[listText,Yef]
 lia
theorem jbr  : ∀{ds },(∀d∈ds,d.showable=true)->YcQ ds=true
 |[],_=>rfl
 |d::r,h=>by simp[YcQ,h d Yav,jbr λq j=>h q (Yaj _ j)]
theorem jcA  : ∀{ds } {k },(∀d∈ds,d.depth<=k)->YaE ds<=k
 |[],_,_=>YaF _
 |d::r,k,h=>by
  simp only[YaE];exact Nat.max_le.mpr ⟨h d Yav,jcA λq j=>h q (Yaj _ j)⟩
def Fits.tup    (h:∀d∈ds,Fits n k d):Fits (ds.length*(n+2)+3) (k+1) (.tuple ds):=by
 refine⟨?_,?_,?_⟩
 ·simp only[YcI];exact jbr λd hd=>(h d hd).sh
 ·simp only[YbX];have:=jfb (ts:=Ybc ds) (n:=n) λt j=>by obtain⟨d,hd,e⟩:=jbZ j;rw[e];exact(h d hd).ln
  rw[jbb]at this
  lia
 ·simp only[PyData.depth];exact YbC (jcA λd hd=>(h d hd).dp)
def Fits.lst    (h:∀d∈ds,Fits n k d):Fits (ds.length*(n+2)+3) (k+1) (.list ds):=by
 refine⟨?_,?_,?_⟩
 ·simp only[YcI];exact jbr λd hd=>(h d hd).sh
 ·simp only[YbX];have:=jge (ts:=Ybc ds) (n:=n) λt j=>by obtain⟨d,hd,e⟩:=jbZ j;rw[e];exact(h d hd).ln
  rw[jbb]at this
  lia
 ·simp only[PyData.depth];exact YbC (jcA λd hd=>(h d hd).dp)
def Fits.tupLe    (y:ds.length<=m)(h:∀d∈ds,Fits n k d)(j:m*(n+2)+3<=N):Fits N (k+1) (.tuple ds):=
 (Fits.tup h).mono (Yaf (YfB (YcJ _ y) _) j) (Yac _)
def Fits.lstLe    (y:ds.length<=m)(h:∀d∈ds,Fits n k d)(j:m*(n+2)+3<=N):Fits N (k+1) (.list ds):=
 (Fits.lst h).mono (Yaf (YfB (YcJ _ y) _) j) (Yac _)

def jpp  (K:Yae):List V->Hp->VK->Prop:=λj H Q=>∃x d,j=[x]/\DV K H x d/\Fits 16000000 60 d/\Q (.str d.shown) H
def jhJ    (hr:Room k X.A):jaW X (.builtin "repr") (jpp X.K):=by
 intro O s σ H Z us Q I r h;obtain⟨x,d,rfl,dv,L,q⟩:=h;obtain⟨u,rfl,z⟩:=jcV r;have hu:=hr.un;have j:∀(F:Heap) (J:Tok) (tk:Nat),(∀b o,s.heap.get? b=some o->F.get? b=some o)->EP X O σ Q (.str d.shown J) { s with heap:=F,toks:=tk }:=λF J tk hk=>
  ⟨.str d.shown,H,I.kept (t':=tk) hk,⟨J,rfl⟩,q⟩
 have Y:d.shown.length<=Yai:=Yaf L.ln (by decide)
 cases dv with
 |non=>cases z;exact P.repr_of_none (j _ _ _ λ_ _ e=>e)
 |bl b=>cases z;exact P.repr_of_bool (by have:=j s.heap s.toks (s.toks+1) λ_ _ e=>e;simp only[YbX]at this;lia)
 |int i=>
  obtain⟨t,rfl⟩:=z;refine P.repr_of_int (by simpa[YcI]using L.sh) ?_
  have:=j s.heap s.toks (s.toks+1) λ_ _ e=>e;simp only[YbX]at this
  lia
 |str x=>
  obtain⟨t,rfl⟩:=z;simp only[YbX]at Y;refine P.repr_of_str ?_ Y;have:=j s.heap s.toks (s.toks+1) λ_ _ e=>e;simp only[YbX]at this
  lia
 |@tup a Z ds e hd=>
  obtain⟨as,rd,y⟩:=DV.reads2 I (DV.tup e hd) z;cases z;exact Yfj rd L.sh (λ_=>y) hr.gd (by have:=L.dp;lia) (λ_ _ e=>e) (λF J tk hk=>j F J tk hk) Y
 |@lst a Z ds e hd=>
  obtain⟨as,rd,y⟩:=DV.reads2 I (DV.lst e hd) z;cases z;exact Yfj rd L.sh (λ_=>y) hr.gd (by have:=L.dp;lia) (λ_ _ e=>e) (λF J tk hk=>j F J tk hk) Y
 |@dic a e=>
  obtain⟨as,rd,y⟩:=DV.reads2 I (DV.dic e) z;cases z;exact Yfj rd L.sh (λ_=>y) hr.gd (by have:=L.dp;lia) (λ_ _ e=>e) (λF J tk hk=>j F J tk hk) Y

def Sm  (f:Addr)(H j:Hp):Prop:=∀b o,b≠f->H b=some o->j b=some o






theorem fm_rev  (xs:List Value):∀n,n<=xs.length->(YaA n).filterMap (λk=>xs[xs.length-1-k]?)=(xs.drop (xs.length-n)).reverse
 |0,_=>by simp
 |n+1,h=>by
  rw[Yby,List.filterMap_append,fm_rev xs n (by lia)]
  have hk:xs.length-1-n<xs.length:=by lia
  have:xs.drop (xs.length-(n+1))=xs[xs.length-1-n]::xs.drop (xs.length-n):=by
   rw[show xs.length-(n+1)=xs.length-1-n by lia,Ybi hk,show xs.length-1-n+1=xs.length-n by lia]
  simp_all
def jjx  (xs:List Value):Yeg xs.toArray none none (some (-1))=xs.reverse.toArray:=by
 have e:sliceRange ((xs.length:Int)-1) (-1) (-1)=(YaA xs.length).map λk=>xs.length-1-k:=by
  unfold sliceRange;have j:(if (-1:Int)>0 then (if (xs.length:Int)-1 < -1 then (-1-((xs.length:Int)-1) + -1-1) / -1 else 0) else (if (xs.length:Int)-1 > -1 then ((xs.length:Int)-1 - -1 - -1-1)/(- -1) else 0)).toNat=xs.length:=by
   rw[if_neg (by lia),show(- -1:Int)=1 from rfl,Yfu]
   split<;>lia
  simp only[j];refine YfC λk hk=>?_;have:=List.mem_range.mp hk
  lia
 have b:Ycv none none (some (-1)) xs.toArray.size=((xs.length:Int)-1,-1,-1):=by
  simp[Ycv]
 unfold Yeg;rw[b];simp only;rw[e,YfW];have:=fm_rev xs xs.length (Yac _);rw[Nat.sub_self,YeF]at this;rw[<- this];congr 1;refine congrArg (λf=>List.filterMap f (YaA xs.length)) (funext λk=>?_);simp
def jkf  (xs:List Value):Yeg xs.toArray none none (some 1)=xs.toArray:=by
 have:=slicePick_all xs.toArray;unfold Yeg at this ⊢;exact this
def Vals.rev    (r:Vals xs us):Vals xs.reverse us.reverse:=by
 induction r with
 |nil=>exact .nil
 |cons h r j=>rw[Yc3,Yc3];exact j.append (.cons h .nil)

end L2
namespace HT
open PySem PySem.Spec PyProof.Rows

def getItem_tuple_all     {lo hi:Option Int}(y:IsTup s.heap t items)(hs:s.heap.IsSliceOf J L Z .none)(pl:IsPart L lo)(O:IsPart Z hi)
  (hw:sIx items.size 0 lo=0/\sIx items.size items.size hi=items.size) (h:Q (.ref t) s):wpAny (model prog w) A (getItem (.ref t) (.ref J)) Q E s:=by
 obtain⟨Y,F,z,xa⟩:=id hs;have I:s.TypeIs (.ref J) "slice" := ⟨Y,F,z⟩;unfold getItem
 try with_reducible refine YbH ?_
 first|refine Yab (Yam ?_)|skip
 refine Yab (Yes y.typeIs (by decide) ?_)
 refine Yab (YcA (name:=Yb5 "__getitem__") y.typeIs Ya4
  (Ydv Ya4 y.typeIs Yd4 ?_ (Yel _ _)))
 show wpAny _ _ (YcB (.ref t) >>= _) _ _ s;refine Yab (YfK y ?_);refine Yab (YcK I ?_);rw[if_pos (by decide)]
 refine Yab (jbX hs pl O ?_);have j:((((sIx items.size 0 lo:Nat):Int)==0&&(1:Int)==1&&(sIx items.size items.size hi-sIx items.size 0 lo)==items.size)=true):=by
  simp_all
 show wpAny _ _ (if (((sIx items.size 0 lo:Nat):Int)==0&&(1:Int)==1&&(sIx items.size items.size hi-sIx items.size 0 lo)==items.size)=true then _ else _) _ _ s
 rw[if_pos j];refine Yab (m:=YdD (.ref t)) ?_;unfold YdD;refine Yab (YcK y.typeIs (Yam ?_));rw[if_pos (by decide)]
 exact Yab (YdP (Yam ⟨_,rfl,Yam h⟩))
end HT
namespace L2
open PySem PySem.Spec PyProof.Rows

def rSlW  (K:Yae):V->Option Int->Option Int->Hp->VK->Prop:=λx y z H Q=>∃a j,x=.ref a/\SqT K H a j/\
 (HT.sIx j.length 0 y=0/\HT.sIx j.length j.length z=j.length)/\Q (.ref a) H
def jlk  : SlR X (rSlW X.K):=by
 intro y s σ H x v vl vu lo hi sl Q I Z hs O Y h;obtain⟨a,L,rfl,J,hw,q⟩:=h;cases Z;obtain⟨j,r,F,hz⟩:=I.tuple J;have z:j.toArray.size=L.length:=by rw[Yao];exact r.length.symm
 refine⟨"tuple",_,Ya4.lookup,F.typeIs,?_⟩;exact HT.getItem_tuple_all F hs O Y (by lia) ⟨.ref a,H,I,rfl,q⟩
def jll  : SlR X (λx lo hi H Q=>rSlT X.K x lo hi H Q\/rSlW X.K x lo hi H Q):=SlR.or jmV jlk
theorem jdy  : ∀(xs:List V) (us:List Value),xs.length=us.length->(∀(i:Nat) x u ,xs[i]?=some x->us[i]?=some u->RelV x u)->Vals xs us
 |[],[],_,_=>.nil
 |x::xs,u::us,h,g=>.cons (g 0 x u rfl rfl) (jdy xs us (by simpa using h) λi y z F j=>g (i+1) y z (by simp_all) (by simp_all))
 |[],_::_,h,_=>by simp at h
 |_::_,[],h,_=>by simp at h
def jjp  (z:TA):TE:=λF H Q=>z F H λy H1=>∃j:Int,y=[.int j]/\0<=j/\j<=1000000/\∀l,H1 l=none->Q (.ref l) (upd H1 l (.lst ((YaA j.toNat).map λk:Nat=>V.int (k:Int))))
section
variable {X:Cx}
def jfi {a:Expr}{ta:TA}{p Z pos y:Pos}(hc:X.calm=true)(xa:Gl X "list")(Y:X.mg "list" = none)(ja:Gl X "range")(va:X.mg "range" = none)(ha:PA X [a] ta)(hs:YaC [a] X.env=[(false,eval a X.env)]:=by rfl)
  (L:YaC [.Call (.Name "range" Z) [a] [] y] X.env=[(false,eval (.Call (.Name "range" Z) [a] [] y) X.env)]:=by rfl):PE X (.Call (.Name "list" p) [.Call (.Name "range" Z) [a] [] y] [] pos) (jjp ta):=by
 intro z s σ H Q I h;refine Yb8 (jdU I xa Y boot_list ?_ (by decide) (by decide))
 refine Ybq ?_ L rfl;rw[L];refine YfG (rest:=[]) ?_;refine Call_ (jdU I ja va boot_range (Ybq (thn (ha y z s σ H _ I h) λus s1 ⟨vs,H1,I1,r1,q1⟩=>?_) hs rfl));obtain⟨j,e,h0,h1,q⟩:=q1;subst e;cases r1 with
 |cons r rr=>
  cases rr;obtain⟨t,rfl⟩:=r;refine call_range_1 ?_;refine Yam ?_;have I2:Inv X z σ H1 { s1 with heap:=s1.heap.push { cls:=.type "range",data:=.fields #[.int 0 s1.toks,.int j t,.int 1 (s1.toks+1)] },toks:=s1.toks+1+1 }:=I1.kept λb o e=>Yad _ e
  have hn:Yd0 0 j 1=(j.toNat:Nat):=by rw[rangeSize_one];lia
  refine call_list_range (I2.ok.hd hc) (IsRange.new ..) (small_one (by lia) (by lia) (by lia) (by lia)) hn (by lia) λh' tk J c' hk O F=>?_
  have hv:Vals ((YaA j.toNat).map λk:Nat=>V.int (k:Int)) J.toList:=jdy _ _ (by simp[F.1]) λi x u hx hu=>by
   have hi:i<j.toNat:=by
    grind
   rw[Yau,YdC hi]at hx;obtain⟨za,e⟩:=F.2 i u (by simp_all)
   cases hx;exact⟨za,by lia⟩
  have hz:((YaA j.toNat).map λk:Nat=>V.int (k:Int)).length<=Yai:=by
   rw[Yaa,List.length_range];exact Yaf (show j.toNat<=1000000 by lia) (by decide)
  refine⟨.ref _,_,I2.laid (t':=tk) (o:=.lst ((YaA j.toNat).map λk:Nat=>V.int (k:Int))) hk (Yac _) ?_,rfl,q _ (I2.hok.fresh (Yac _))⟩;exact⟨hz,_,c',hv,O⟩
end
end L2
namespace HT
open PySem PySem.Spec PyProof.Rows

def jdl    {n:Nat}(hs:s.heap.IsSliceOf I .none .none (.int (-1) t))(h:Q ((n:Int)-1,-1,n) s):wpAny (model prog w) A (YbQ (.ref I) (pure (n:Int))) Q E s:=by
 obtain⟨L,j,J,y⟩:=id hs;unfold YbQ YdN;refine Yab (Yab (YbU j y (x:=.none) rfl (Yab (YbU j y (x:=.none) rfl (Yab (YbU j y (x:=.int (-1) t) rfl (Yam ?_)))))));refine Yab (jbB (.int (-1) t) ?_);show wpAny _ _ (if ((-1:Int)==0)=true then _ else _) _ _ s
 rw[if_neg (by decide)]
 refine Yab (jbB .none (Yab (jbB .none (Yab (Yam ?_)))));have z:Ybw none none (-1) (n:Int)=((n:Int)-1,-1):=rfl;have F:YaY ((n:Int)-1) (-1) (-1)=n:=by
  unfold YaY;rw[if_neg (by lia),show(- -1:Int)=1 from rfl,Yfu]
  split<;>lia
 show wpAny _ _ (match Ybw none none (-1) (n:Int)with|(lo,hi)=>pure (lo,(-1:Int),YaY lo hi (-1))) _ _ s
 rw[z];show wpAny _ _ (pure ((n:Int)-1,(-1:Int),YaY ((n:Int)-1) (-1) (-1))) _ _ s;rw[F];exact Yam h
def jjH  (xs:List Value):((YaA xs.length).filterMap λ(k:Nat)=>xs.toArray[((xs.length:Int)-1+(k:Int)*(-1)).toNat]?).toArray=xs.reverse.toArray:=by
 have:=L2.fm_rev xs xs.length (Yac _);rw[Nat.sub_self,YeF]at this;rw[<- this];congr 1;refine congrArg (λf=>List.filterMap f (YaA xs.length)) (funext λk=>?_);rw[show((xs.length:Int)-1+(k:Int)*(-1)).toNat=xs.length-1-k by lia]
 simp
def getItem_tuple_rev   {j:List Value}(z:IsTup s.heap t j.toArray)(hs:s.heap.IsSliceOf O .none .none (.int (-1) tk))
  (h:Q (.ref s.heap.objs.size) { s with heap:=s.heap.push { cls:=.type "tuple",data:=.seq j.reverse.toArray } }) (hsz:j.length<=Yai):wpAny (model prog w) A (getItem (.ref t) (.ref O)) Q E s:=by
 have y:sizeOk (.seq j.reverse.toArray):=by
  show j.reverse.toArray.size<=Yai
  simp_all
 obtain⟨Y,J,F,Z⟩:=id hs;have L:s.TypeIs (.ref O) "slice" := ⟨Y,J,F⟩;unfold getItem
 try with_reducible refine YbH ?_
 first|refine Yab (Yam ?_)|skip
 refine Yab (Yes z.typeIs (by decide) ?_)
 refine Yab (YcA (name:=Yb5 "__getitem__") z.typeIs Ya4
  (Ydv Ya4 z.typeIs Yd4 ?_ (Yel _ _)))
 show wpAny _ _ (YcB (.ref t) >>= _) _ _ s;refine Yab (YfK z ?_);refine Yab (YcK L ?_);rw[if_pos (by decide)]
 refine Yab (jdl (n:=j.length) hs ?_);have I:¬((((j.length:Int)-1)==0&&(-1:Int)==1&&j.length==j.toArray.size)=true):=by simp
 show wpAny _ _ (if (((j.length:Int)-1)==0&&(-1:Int)==1&&j.length==j.toArray.size)=true then _ else _) _ _ s
 rw[if_neg I,jjH]
 first
  |exact Yab (m:=Ya0 _) (Ya2 (Yam ⟨_,rfl,Yam h⟩) y)
  |exact Yab (m:=Ya0 _) (Ya2 (Yab (Yam (Yam ⟨_,rfl,Yam h⟩))) y)
  |exact Yab (Yab (m:=Ya0 _) (Ya2 (Yam (Yam ⟨_,rfl,Yam h⟩)) y))
  |exact Yab (Yab (m:=Ya0 _) (Ya2 (Yam ⟨_,rfl,Yam h⟩) y))
end HT
namespace L2
open PySem PySem.Spec PyProof.Rows


end L2

namespace L2
open PySem PySem.Spec PyProof.Rows
section
variable {X:Cx}{pos:Pos}
def jpa  (i j l:Nat)(I:TA):TS:=λD y H=>I y H λF H1=>∃v w z,F=[v,w,z]/\D.nx (((y.set l (some z)).set j (some w)).set i (some v)) H1
def jlz {i j l:Nat}{x y z:Str}{a b c:Expr}{ta:TA}{px py pz pt:Pos}{kt k2 L}(hc:X.calm=true)(hN:X.N.Nodup)(hi:X.N[i]?=some x)(hj:X.N[j]?=some y)(hl:X.N[l]?=some z)
  (hx:X.env.scope.names.lookup x=some .local) (hy:X.env.scope.names.lookup y=some .local) (hz:X.env.scope.names.lookup z=some .local) (ha:PA X [a,b,c] ta)
  (hw:Ya9 [.Tuple [.Name x px,.Name y py,.Name z pz] kt pt] (.Tuple [a,b,c] k2 L) X.env=pure (some [x,y,z]))
  (hs:Ybo [.Tuple [.Name x px,.Name y py,.Name z pz] kt pt] (.Tuple [a,b,c] k2 L) pos.line X.env=pure false:=by rfl) :
  PS X (.Assign [.Tuple [.Name x px,.Name y py,.Name z pz] kt pt] (.Tuple [a,b,c] k2 L) pos) (jpa i j l ta):=by
 intro J s σ H D I h;rw[exec_Assign_arm];refine Yab (Ybz ?_);rw[hs];refine Yab (Yam ?_);rw[if_neg (by decide)]
 refine Yab (Tuple_ (thn (ha _ J s σ H _ I h) λus s1 ⟨vs,H1,I1,r1,q1⟩=>?_));obtain⟨v,w,o,e1,q1⟩:=q1;subst e1;obtain⟨O,Y,Z,rfl,rv,xa,ro⟩:∃O Y Z,us=[O,Y,Z]/\RelV v O/\RelV w Y/\RelV o Z:=by
  cases r1 with
  |cons p q=>
   cases q with
   |cons p' q'=>
    cases q' with
    |cons p2 q2=>
     cases q2
     lia
 refine Ya2 ?_ (by show 3<=Yai;decide)
 have I2:Inv X J σ H1 { s1 with heap:=s1.heap.push { cls:=.type "tuple",data:=.seq [O,Y,Z].toArray } }:=I1.kept (t':=s1.toks) λb o e=>Yad _ e
 rw[hw];refine Yab (Yam ?_);show wpAny (model X.prog X.w) X.A (do rule "assign.swapped-stores";let F <- unpackItems (.ref s1.heap.objs.size) 3 none;Ydo [λv=>YcH X.env z v,λv=>YcH X.env y v,λv=>YcH X.env x v] F.reverse;pure Yfh) _ _ _
 refine Yab (YdP (Yab (unpackItems_tuple (items:=#[O,Y,Z]) (I.ok.hd hc) (IsTup.new s1.heap _) λh' za=>?_)));have I3:=I2.kept (h':=h') (t':=s1.toks) λb o e=>za b o (YaD (Yan e)) e;show wpAny _ _ (Ydo [λv=>YcH X.env z v,λv=>YcH X.env y v,λv=>YcH X.env x v] [Z,Y,O] >>= λ_=>pure Yfh) _ _ _
 refine Yab (Yca (Ydb (jbj I3 hN hl (.inl hz) ro (λs2 I4=>?_) (.inr hz))));refine Yca (Ydb (jbj I4 hN hj (.inl hy) xa (λs3 I5=>?_) (.inr hy)));refine Yca (Ydb (jbj I5 hN hi (.inl hx) rv (λs4 I6=>Yet (Yam ?_)) (.inr hx)));exact⟨_,H1,I6,q1⟩
def jps  (K:Yae):R2:=λx y H Q=>∃a b j z,x=.ref a/\y=.ref b/\SqT K H a j/\SqT K H b z/\j.length+z.length<=Yai/\
 (j=[]->Q (.ref b) H)/\(j≠[]->z=[]->Q (.ref a) H)/\(j≠[]->z≠[]->∀p,H p=none->Q (.ref p) (upd H p (.tup (j++z))))
def jlT  : OpR X (Ybp .Add) (jps X.K):=by
 intro O s σ H x y v u Q I rx ry h;obtain⟨a,b,xs,ys,rfl,rfl,ha,hb,hz,q0,q1,q2⟩:=h;by_cases J:xs=[]
 ·cases rx;cases ry;obtain⟨za,r1,p1,_⟩:=I.tuple ha;obtain⟨F,r2,p2,_⟩:=I.tuple hb;have hv:za=[]:=r1.nil_iff.mpr J;subst hv;obtain⟨⟨va,dd,data,sl⟩,ho,hc,n,hd⟩:=id p1;obtain⟨⟨ja,Y,Z,xa⟩,j,L,n2,z⟩:=id p2;simp only at hc hd L z;subst hc hd L z;exact Ygj ⟨_,ho,rfl⟩ ⟨_,j,rfl⟩ YeI YfL Yc8 Yc0 (YcS _ _)
   (tuple_addW0 a b _ F.toArray n n2 dd Y sl xa rfl) ⟨ho,j,⟨.ref b,H,I,rfl,q0 J⟩⟩
 ·exact jlS O s σ H _ _ _ _ Q I rx ry ⟨a,b,xs,ys,rfl,rfl,ha,hb,J,hz,q1 J,q2 J⟩
def jhu   (hr:Room k X.A):OpR X (YaX .Eq) (λx y H Q=>∃a b xs,x=.ref a/\y=.ref b/\SqT X.K H a xs/\SqT X.K H b []/\Q (.bl xs.isEmpty) H):=by
 intro L s σ H x y v u Q I Y ry h;obtain⟨a,b,xs,rfl,rfl,ha,hb,q⟩:=h;cases Y;cases ry;obtain⟨z,Z,O,_⟩:=I.tuple ha;obtain⟨J,F,pb,_⟩:=I.tuple hb;cases F;have hu:X.A.units<cLine:=hr.units0;have e:((YaA (min z.toArray.size ([]:List Value).toArray.size)).all (λ_=>true)&&z.toArray.size==([]:List Value).toArray.size)=xs.isEmpty:=by
  cases Z<;>simp
 refine EqBoolInt.of_rc (SeqAt.RcAt.tuples (e:=λ_=>true) (show s.heap.IsTuple a z.toArray from O) (show s.heap.IsTuple b ([]:List Value).toArray from pb) hu λj _ h2=>?_) ?_
 ·simp at h2
 ·rw[e];exact⟨.bl xs.isEmpty,H,I,rfl,q⟩
end

theorem jdx  : ∀{ys } {us },Vals (ys.map V.str) us->StrsAre us ys
 |[],_,.nil=>.nil
 |y::r,_,.cons ⟨t,e⟩ q=>by subst e;exact .cons y t (jdx q)

def jpq  (K:Yae):V->List V->Hp->VK->Prop:=λx j H Q=>∃(z:Str) (p:Addr) (ys:List Str),x=.str z/\j=[.ref p]/\(SqL K H p (ys.map V.str)\/SqT K H p (ys.map V.str))/\z.length<=16/\(ys.map (·.length)).sum+ys.length<=1048576/\Q (.str (Ycc z ys)) H
def mt_join  : MtR X "str.join" (jpq X.K):=by
 intro O s σ H x vs v us Q I rx rv h;obtain⟨z,p,Y,rfl,rfl,j,h1,Z,q⟩:=h;obtain⟨t,rfl⟩:=rx;obtain⟨u,rfl,ru⟩:=Vals.one rv;cases ru;rcases j with j|j
 ·obtain⟨L,J,F,hz⟩:=I.list j;exact join_listW F.isList (by simpa using jdx J) h1 Z λy k=>⟨.str (Ycc z Y),H,I.tok k,⟨y,by rw[<- YeK];rfl⟩,q⟩
 ·obtain⟨L,J,F,hz⟩:=I.tuple j;exact join_tupleW F (by simpa using jdx J) h1 Z λy k=>⟨.str (Ycc z Y),H,I.tok k,⟨y,by rw[<- YeK];rfl⟩,q⟩

def jed  : ∀ts c ,c∈(Ycc "" ts).cps.toList↔∃t∈ts,c∈t.cps.toList:=λts c=>by
 rw[mem_join];constructor
 ·rintro(h|⟨_,h⟩)
  ·exact h
  ·exact absurd h (by show ¬c∈(([]:List Nat));simp)
 ·exact .inl
theorem jcp  : ∀(ts:List Str),(∀t∈ts,t.length=1)->(Ycc "" ts).length=ts.length
 |[],_=>rfl
 |[x],h=>h x (by simp)
 |x::y::r,h=>by
  have z:=jcp (y::r) λt j=>h t (Yaj _ j);have F:=h x (by simp)
  show(x ++ "" ++ Ycc "" (y::r)).length=_;have e:(x ++ "" ++ Ycc "" (y::r)).length=x.length+(Ycc "" (y::r)).length:=by
   show(x.cps++("" : Str).cps++(Ycc "" (y::r)).cps).size=_;rw[Yf1,Yf1];show x.cps.size+0+_=_;rfl
  grind

def jnc  (K:Yae)(j:Bool):R2:=λx y H Q=>∃d e,DV K H x d/\DV K H y e/\d.canLay0=true/\e.canLay0=true/\d.depth<=100/\Q (.bl (if j then !PyData.eqv d e else YaK d e)) H
def jnI   (hr:Room k X.A):OpR X (YaX .NotEq) (jnc X.K true):=by
 intro j s Z H x y v u Q I O J h;obtain⟨d,e,hd,z,c1,c2,hk,q⟩:=h;obtain⟨Y,F⟩:=hd.reads I O;obtain⟨bs,L⟩:=z.reads I J;exact SeqAt.compareNe_reads F L c1 c2 (by have:=hr.un;lia) ⟨.bl _,H,I,rfl,q⟩
def jnM   (hr:Room k X.A):OpR X (YaX .Eq) (jnc X.K false):=by
 intro j s Z H x y v u Q I O J h;obtain⟨d,e,hd,z,c1,c2,hk,q⟩:=h;obtain⟨Y,F⟩:=hd.reads I O;obtain⟨bs,L⟩:=z.reads I J;exact SeqAt.compareEq_reads F L c1 c2 (by have:=hr.un;lia) ⟨.bl _,H,I,rfl,q⟩

mutual
noncomputable def noB:PyData->Bool
 |.none=>true
 |.bool _=>false
 |.int _=>true
 |.str _=>true
 |.list j=>noBs j
 |.tuple j=>noBs j
 |.dict _=>false
noncomputable def noBs:List PyData->Bool
 |[]=>true
 |d::r=>noB d&&noBs r
end
mutual
theorem jkW:∀{d e:PyData},noB d=true->noB e=true->YaK d e=true->d=e
 |.none,.none,_,_,_=>rfl
 |.int i,.int j,_,_,h=>by rw[YaK]at h;rw[eq_of_beq h]
 |.str i,.str j,_,_,h=>by rw[YaK]at h;rw[eq_of_beq h]
 |.list xs,.list ys,h1,h2,h=>by rw[YaK]at h;rw[noB]at h1 h2;rw[jgp h1 h2 h]
 |.tuple xs,.tuple ys,h1,h2,h=>by rw[YaK]at h;rw[noB]at h1 h2;rw[jgp h1 h2 h]
 |.bool _,_,h,_,_=>by rw[noB]at h;cases h
 |.dict _,_,h,_,_=>by rw[noB]at h;cases h
 |.none,.bool _,_,h,_|.int _,.bool _,_,h,_|.str _,.bool _,_,h,_|.list _,.bool _,_,h,_|.tuple _,.bool _,_,h,_=>by rw[noB]at h;cases h
 |.none,.dict _,_,h,_|.int _,.dict _,_,h,_|.str _,.dict _,_,h,_|.list _,.dict _,_,h,_|.tuple _,.dict _,_,h,_=>by rw[noB]at h;cases h
 |.none,.int _,_,_,h|.none,.str _,_,_,h|.none,.list _,_,_,h|.none,.tuple _,_,_,h=>by rw[YaK]at h;cases h
 |.int _,.none,_,_,h|.int _,.str _,_,_,h|.int _,.list _,_,_,h|.int _,.tuple _,_,_,h=>by rw[YaK]at h;cases h
 |.str _,.none,_,_,h|.str _,.int _,_,_,h|.str _,.list _,_,_,h|.str _,.tuple _,_,_,h=>by rw[YaK]at h;cases h
 |.list _,.none,_,_,h|.list _,.int _,_,_,h|.list _,.str _,_,_,h|.list _,.tuple _,_,_,h=>by rw[YaK]at h;cases h
 |.tuple _,.none,_,_,h|.tuple _,.int _,_,_,h|.tuple _,.str _,_,_,h|.tuple _,.list _,_,_,h=>by rw[YaK]at h;cases h
theorem jgp:∀{ds j:List PyData},noBs ds=true->noBs j=true->YbM ds j=true->ds=j
 |[],[],_,_,_=>rfl
 |d::r,e::q,h1,h2,h=>by
  rw[noBs,Yaq]at h1 h2
  rw[YbM,Yaq]at h
  rw[jkW h1.1 h2.1 h.1,jgp h1.2 h2.2 h.2]
 |[],_::_,_,_,h=>by rw[YbM]at h;cases h
 |_::_,[],_,_,h=>by rw[YbM]at h;cases h
end


def jc3  (ds:List PyData):YbM ds []=ds.isEmpty:=by
 cases ds<;>rfl

theorem jef  : ∀{bs:List Bool} {us } {i:Nat} {v },Vals (bs.map V.bl) us->us[i]?=some v->∃b,bs[i]?=some b/\v=.bool b
 |b::r,_,0,v,.cons e q,h=>by
  cases e;exact⟨b,rfl,(Yaw h).symm⟩
 |b::r,_,i+1,v,.cons e q,h=>jef (bs:=r) (i:=i) q (by simpa using h)
 |[],_,i,v,.nil,h=>by simp at h
def jhL    {σ:St}{bs:List Bool}(J:X.calm=true)(I:Inv X pins σ H s)(L:SqL X.K H p (bs.map V.bl)) d :
  ∃j Y wr P S,s.heap.IsList p j/\Walks X.prog X.w X.A.in1 s.heap.objs.size Y wr bs.length P S/\S 0 (s.heap.push ⟨.type "list_iterator",none,.fields #[.ref p,.int 0 0],#[]⟩)/\TruthOf X.prog X.w X.A.in1 P (λi=>(bs[i]?).getD d)/\
   ∀h':Heap,(∀b o,b∉wr->(s.heap.push ⟨.type "list_iterator",none,.fields #[.ref p,.int 0 0],#[]⟩).get? b=some o->h'.get? b=some o)->∀b o,s.heap.get? b=some o->h'.get? b=some o:=by
 obtain⟨j,z,y,-⟩:=I.list L;have n:j.toArray.size=bs.length:=by simpa using z.length.symm
 obtain⟨o,O,-⟩:=id y.isList;have W:=Walks.list (prog:=X.prog) (w:=X.w) (A:=X.A.in1) (I.ok.hd J) s.heap.objs.size p (YaD (Yan O)) j.toArray;rw[n]at W;refine⟨j.toArray,_,_,_,_,y.isList,W,⟨⟨_,Yay _ rfl,rfl,rfl⟩,y.isList.push _⟩,λi v t Q E Z F=>?_,λh' hk b o e=>hk b o (λm=>?_) (Yad _ e)⟩
 ·obtain⟨b,e,rfl⟩:=jef (i:=i) (v:=v) z (by simpa using Z)
  exact Ybd (by simpa only[e,Option.getD]using F)
 ·exact absurd (Yan e) (by rw[List.mem_singleton.mp m];exact Ybl _)

end L2

namespace L2
open PySem PySem.Spec PyProof.Rows
open Sem (wp)
open AutoSeq1 (wpAny_loadPart')

def jgI      (hh:A.handled=none)(j:s.heap.IsTupleIter it t i)(ht:s.heap.IsTuple t items)
  (y:∀x h',items[i]?=some x->h'.IsTupleIter it t (i+1)->YcT it s.heap h'->Q x { s with heap:=h' })
  (z:items[i]?=none->∀h' e,Heap.ExtBut it s.heap h'->(∃o,h'.get? e=some o/\o.cls=.type "StopIteration")->E (.ref e) { s with heap:=h' }) :
  wpAny (model prog w) A (Yge (.ref it)) Q E s:=by
 have O:=j.typeIs;rcases j with⟨⟨c,dc,dt,sl⟩,I,e1,L⟩;rcases ht with⟨⟨c',ja,za,xa⟩,hl,-,n,Z⟩;dsimp only at e1 L Z;subst e1 L Z;have up:∀f:Array Value->Array Value,YcT it s.heap (s.heap.update it (YbP f)):=λf=>YcT.update ..;have J:∀f:Array Value->Array Value,(s.heap.update it (YbP f)).get? it=some ⟨.type "tuple_iterator",dc,.fields (f #[.ref t,.int i 0]),sl⟩:=λf=>Yb4 _ I rfl;refine Yab (YcA (name:=Yb5 "__next__") O Ye0 (Ydv Ye0 O F.entry_tuple_iterator_next ?_ (F.args_tuple_iterator_next_1 _)))
 wp_walk using Yep I,Yep hl
 rw[Ybg];cases Y:items[i]? with
 |some x=>exact Yab (Yda I rfl (Nat.lt_succ_self 1) (Yam ⟨x,rfl,Yam (y x _ Y ⟨_,J _,rfl,rfl⟩ (up _))⟩))
 |none=>
  refine Yab (YdP (Yab (Yda I rfl (Nat.zero_lt_succ 1) ?_)));unfold Ygd
  wp_walk
  exact wpAny_raiseNew_none hh (z Y _ _ (((up _).extBut.push _).push _) ⟨_,Yay _ rfl,rfl⟩)
def jfE     (J:A.handled=none) it t (F:t≠it)(items:Array Value) :
  Draws prog w A it [it,t] items.size (λi v=>items[i]?=some v) (λi h=>h.IsTupleIter it t i/\h.IsTuple t items):=by
 refine⟨λi h st=>?_,λi h j st hk=>?_,λi s Q E Z st O=>?_,λs Q E st Y=>?_⟩
 ·rcases st.1 with⟨o,y,-⟩;exact⟨o,y⟩
 ·rcases st with⟨⟨o,y,r⟩,⟨u,hu,q⟩⟩;exact⟨⟨o,hk it (by simp) o y,r⟩,⟨u,hk t (by simp) u hu,q⟩⟩
 ·refine jgI J st.1 st.2 (λx j e I L=>O x j s.toks e ⟨I,st.2.extBut L.extBut F⟩ L) λz=>?_;exact absurd (Array.getElem?_eq_none_iff.mp z) (by lia)
 ·refine jgI J st.1 st.2 (λx j e=>?_) λ_=>Y;exact absurd (Array.getElem?_eq_some_iff.mp e).1 (Ybl _)
def jjB    {x:α}(h:∀y,Q y s):wpAny M A (pure x) Q E s:=Yam (h x)
def jcM   v ob :
  Meets (Builtin.«enumerate.__new__» ⟨[.type "enumerate",v],[]⟩) (λ_ R s=>(∀prog w A Q E ,Q (.ref s.heap.objs.size) { s with heap:=s.heap.push ob }->wpAny (model prog w) A (pyIter v) Q E s)/\
   R (.ok (.ret (.ref (s.heap.push ob).objs.size))) { s with heap:=(s.heap.push ob).push ⟨.type "enumerate",none,.fields #[.none,.bool false,.ref s.heap.objs.size,rawInt 0,.none,.none],#[]⟩ }):=
 .of_wp λprog w A R s h=>by
  rcases s with⟨z,g,d,tk,F⟩;rcases h with⟨y,h⟩;have j:=sub_enumerate
  wp_walk
  refine wpAny_stack_any λst=>jjB λb=>?_;cases b<;>(wp_walk using y prog w;exact⟨_,rfl,h⟩)
def je5  {s: Shared}(I:s.heap.IsTuple l items)
  (h:∀h',IsEnum h' (s.heap.objs.size+1) s.heap.objs.size 0 .none->h'.IsTupleIter s.heap.objs.size l 0->(∀b o,s.heap.get? b=some o->h'.get? b=some o)->Q (.ref (s.heap.objs.size+1)) { s with heap:=h' }) :
  wpAny (model prog w) A (call (.type "enumerate") [.ref l]) Q E s:=by
 have j:∀(p:Heap) (n:Nat) (o:Obj),p.objs.size=n->o.isFreed=false->(p.push o).get? n=some o:=λp n o e f=>by
  subst e;exact Yay p f
 have sz:=λo=>YdB s.heap o;refine Ygl F.called_enumerate (by decide) (YfF _) (YfX _) (λy=>YdM y _) YfY (jcM (.ref l) _) ⟨λ_ _ _ _ _ q=>wpAny_pyIter_tuple I q,?_⟩
 rw[sz];have z:=j _ _ ⟨.type "enumerate",none,.fields #[.none,.bool false,.ref s.heap.objs.size,rawInt 0,.none,.none],#[]⟩ (sz ⟨.type "tuple_iterator",none,.fields #[.ref l,.int 0 0],#[]⟩) rfl;exact⟨⟨_,z,rfl⟩,h _ z ⟨_,Yad _ (j _ _ _ rfl rfl),rfl,rfl⟩ λb o x=>Yad _ (Yad _ x)⟩

def jhS  {F: St}(I:Inv X pins F H s)(k:∀b o,b≠e->b≠it->s.heap.get? b=some o->h'.get? b=some o)(fe:FpOk X pins H e)(fi:FpOk X pins H it):Inv X pins F H { s with heap:=h',toks:=t' }:=by
 obtain⟨e0,Y,_,e3,e4,e5⟩:=fe;obtain⟨i0,L,_,i3,i4,i5⟩:=fi;have Z:∀b u,H b=some u->b≠e:=λb u q z=>by rw[z,e0]at q;cases q
 have O:∀b u,H b=some u->b≠it:=λb u q z=>by rw[z,i0]at q;cases q
 have kk:∀b o,b∉[e,it]->s.heap.get? b=some o->h'.get? b=some o:=λb o j q=>k b o (λz=>j (by simp[z])) (λz=>j (by simp[z])) q
 refine I.step (g':=s.gens) (d':=s.drawn) (ch:=[e,it]) (λb J=>?_) (λb o _ _ j q _=>kk b o j q) (λb o _ _ j q _=>⟨o.slots,kk b o j q⟩) (λ_ _ _ _ n=>n)
  (λb o j q=>⟨o,kk b o j q⟩) (λ_ _ q=>q) (λ_ _ _ q=>q) (λb ps q=>⟨#[],by rw[q];simp⟩) (λm hm=>?_) (λb u q=>?_) I.bare
 ·simp only[Yap,Yak,or_false]at J;rcases J with rfl|rfl
  ·exact⟨e3,Y,e4,e5⟩
  ·exact⟨i3,L,i4,i5⟩
 ·obtain⟨o,es,ep,ho,r⟩:=hm;exact⟨o,es,ep,k _ o (Ne.symm Y) (Ne.symm L) ho,r⟩
 ·refine(I.hok b u q).stay (λc v j y=>k c v ?_ ?_ y) (λ_ y=>y) λ_ _ y=>y
  ·rcases j with z|z
   ·rw[z];exact Z b u q
   ·exact Z c _ z
  ·rcases j with z|z
   ·rw[z];exact O b u q
   ·exact O c _ z
def Ite  (F:Yae)(a:Addr):It:=
 ⟨λi H=>∃j x,H a=some (.tup j)/\j[i]?=some x,λi H y z=>∃j x p,H a=some (.tup j)/\j[i]?=some x/\y=.ref p/\H p=none/\z=upd H p (.tup [.int (i:Int),x]),λi H=>∃j,H a=some (.tup j)/\j.length=i⟩
def jhU    {K:Yae} a e it (xa:e≠it)(xb:a≠e)(ja:a≠it) :
  Turn P w K (.Tuple jb x1 pos) (Ite K a) [e,it] e (λi h=>(∃F,IsEnum h e it (i:Int) F)/\h.IsTupleIter it a i) where
 mem:=by simp
 obj:=λi h st b L=>by
  obtain⟨⟨F,O⟩,o,ho,c,d⟩:=st;simp only[Yap,Yak,or_false]at L;rcases L with rfl|rfl
  ·exact⟨_,O,λv z=>nomatch z⟩
  ·exact⟨o,ho,λv z=>by rw[d]at z;cases z⟩
 keep:=λi h h' st k=>by
  obtain⟨⟨F,O⟩,o,ho,r⟩:=st;exact⟨⟨F,k e (by simp) _ O⟩,o,k it (by simp) _ ho,r⟩
 item:=by
  intro X hP hw hK hc i j s σ H E I hf st hg;subst hP hw hK;obtain⟨xs,x,hq,hx⟩:=hg;obtain⟨J,rv,p,hz⟩:=I.tuple (SqT.of hq);obtain⟨u,hu,ru⟩:=rv.get hx;obtain⟨⟨F,O⟩,Y⟩:=st;have ha:i<J.toArray.size:=by
   have:=(List.getElem?_eq_some_iff.mp hu).1;simpa using this
  refine YfI (jfE (A:=X.A.in1) (I.ok.hd hc) it a ja J.toArray) O ⟨Y,p⟩ ha xa (by simp;exact⟨xa,Ne.symm xb⟩) λx' h' tk hP ho wa hT vb hk=>?_
  refine⟨_,rfl,Yfd ho λh2 ka va=>?_⟩;have ex:x'=u:=by
   have:J.toArray[i]?=some u:=by simpa using hu
   exact Yaw (hP.symm.trans this)
  subst ex;have zb:H s.heap.objs.size=none:=I.hok.fresh (Yac _);have za:e≠s.heap.objs.size:=YaD (Yan O);have ya:it≠s.heap.objs.size:=by obtain⟨o,Z,_⟩:=Y;exact YaD (Yan Z)
  have I1:Inv X j σ (upd H s.heap.objs.size (.tup [.int (i:Int),x])) { s with heap:=s.heap.push { cls:=.type "tuple",data:=.seq #[.int i tk,x'] },toks:=tk+1 }:=by
   refine I.laid (λb o y=>Yad _ y) (Yac _) ⟨by show 2<=Yai;decide,[.int i tk,x'],.cons ⟨tk,rfl⟩ (.cons ru .nil),TupD.new _ _⟩
  have fpU:∀b,b≠s.heap.objs.size->FpOk X j H b->FpOk X j (upd H s.heap.objs.size (.tup [.int (i:Int),x])) b:=λb L f=>⟨by rw[jad L];exact f.1,f.2⟩
  have kk:∀b o,b≠e->b≠it->(s.heap.push { cls:=.type "tuple",data:=.seq #[.int i tk,x'] }).get? b=some o->h2.get? b=some o:=λb o be bi y=>by
   have step:h'.get? b=some o:=by
    by_cases L:b=s.heap.objs.size
    ·subst L;rw[hT];exact(Yay s.heap (o:={ cls:=.type "tuple",data:=.seq #[.int i tk,x'] }) rfl).symm.trans y
    ·rw[Ygb _ _ _ L]at y;exact hk b o be bi y
   exact(va.2 b be).trans step
  have I2:Inv X j σ (upd H s.heap.objs.size (.tup [.int (i:Int),x])) { s with heap:=h2,toks:=tk+1 }:=
   jhS (s:={ s with heap:=s.heap.push { cls:=.type "tuple",data:=.seq #[.int i tk,x'] },toks:=tk+1 }) (h':=h2) (t':=tk+1) (e:=e) (it:=it) I1 kk (fpU e za (hf e (by simp))) (fpU it ya (hf it (by simp)))
  refine⟨.ref s.heap.objs.size,_,I2,rfl,⟨xs,x,_,hq,hx,rfl,zb,rfl⟩,⟨⟨_,by simpa using ka⟩,?_⟩,λb L=>?_⟩
  ·obtain⟨o,Z,r⟩:=wa.1;exact⟨o,(va.2 it (Ne.symm xa)).trans Z,r⟩
  ·simp only[Yap,Yak,or_false]at L;rcases L with rfl|rfl
   ·rw[jad za];exact(hf _ (by simp)).1
   ·rw[jad ya];exact(hf _ (by simp)).1
 done:=by
  intro X hP hw hK hc i j s σ H E I hf st hg;subst hP hw hK;obtain⟨xs,hq,hx⟩:=hg;obtain⟨J,rv,p,hz⟩:=I.tuple (SqT.of hq);obtain⟨⟨F,O⟩,Y⟩:=st;have hl:J.toArray.size=i:=by rw[Yao,<- rv.length];exact hx
  refine Yf3 (jfE (A:=X.A.in1) (I.ok.hd hc) it a ja J.toArray) O ⟨by rw[hl];exact Y,p⟩ λh' eb=>⟨rfl,?_⟩
  obtain⟨f0,f1,f2,f3,f4,f5⟩:=hf it (by simp)
  exact I.turned (t':=s.toks) (λb o L y=>eb b o L y) f0 f1 f3 f4 f5
 self:=λA i s Q E st h=>by
  obtain⟨⟨F,O⟩,_⟩:=st;exact Ydf O h

end L2

namespace L2
open PySem PySem.Spec PyProof.Rows

def jgv  : jaW X (.builtin "isinstance") (λxs H Q=>∃(x:V) (c:String) (t:Value) (b:Bool),xs=[x,.ty c]/\TyOf X.K H x t/\Ydl X.K t (.type c)=some b/\Q (.bl b) H):=by
 intro j s L H xs J Q I r h;obtain⟨x,c,t,b,rfl,y,e,q⟩:=h;obtain⟨u,v,rfl,F,z⟩:=Vals.two r;cases z;exact jiL I F y e λtk=>⟨.bl b,H,I.tok tk,rfl,q⟩




end L2

namespace L2
open PySem PySem.Spec PyProof.Rows PySem.W
section
variable {n:Nat}{lt:Nat->Nat->Bool}{cmp:Nat->Nat->(Bool->Shared->Prop)->Shared->Prop}{s:Shared}
noncomputable def gD  (p:Array Nat)(k:Nat):Nat:=p.getD k 0
structure Arr (n:Nat)(p:Array Nat):Prop where
 z:p.size=n
 b:∀i,i<n->gD p i<n
 inj:∀i j,i<n->j<n->gD p i=gD p j->i=j
 pm:p.toList.Perm (YaA n)
end
end L2

namespace L2
open PySem PySem.Spec PyProof.Rows PySem.W
open PySem.AutoSeq1 (wpAny_loadPart')
open PySem.MeetsSeq PySem.MeetsSeq2 PySem.MeetsSeq3
end L2

namespace L2
open PySem PySem.Spec PyProof.Rows PySem.W




abbrev T2:=Option (Array Keyed)×Array Keyed×Nat×Nat×Nat×Nat×Nat
abbrev T1:=Option (Array Keyed)×Array Keyed×Nat×Nat×Nat×Nat
structure Fr (st st':SortSt):Prop where
 k:kindOf st'=kindOf st
 a:arrOf st'=arrOf st
 p:pendingOf st'=pendingOf st
 f:failedOf st'=failedOf st


abbrev H2:=Option (Array Keyed)×Nat×Nat×Array Keyed×Nat×Nat×Nat
abbrev H1:=Option (Array Keyed)×Nat×Nat×Array Keyed×Nat×Nat






noncomputable def kk  (j:Keyed->Int)(xs:Array Keyed)(i:Nat):Int:=match xs[i]? with
 |some x=>j x
 |none=>0







section
variable {X:Cx}
def rInD  (X:Cx)(j:Bool):R2:=λx y H Q=>∃(p:Addr) (vs:List V) (d:PyData) (ds:List PyData),y=.ref p/\(SqL X.K H p vs\/SqT X.K H p vs)/\DV X.K H x d/\DVs X.K H vs ds/\d.canLay0=true/\d.depth<=100/\(∀e∈ds,e.canLay0=true)/\Q (.bl (if j then !(ds.any λe=>YaK e d) else ds.any λe=>YaK e d)) H
open Classical in
noncomputable def eD (h:Heap)(d:PyData)(w:Value):Bool:=decide (∃e j,e.canLay0=true/\Reads h w e j/\YaK e d=true)
open Classical in
def joy {h:Heap}{d e:PyData}{w:Value}{as:List Addr}(r:Reads h w e as)(c:e.canLay0=true):eD h d w=YaK e d:=by
 unfold eD;cases q:YaK e d with
 |true=>grind
 |false=>
  refine decide_eq_false λ⟨z,j,I,F,y⟩=>?_;rw[SeqAt.Reads.unique z e w j as I F r,q]at y;cases y
theorem jiO {h:Heap}{d:PyData}:∀{us:List Value} {ds:List PyData} {as:List Addr},ReadsAll h us ds as->(∀e∈ds,e.canLay0=true)->us.any (eD h d)=(ds.any λe=>YaK e d)/\∀w∈us,∃e as,e.canLay0=true/\Reads h w e as
 |_,_,_,.nil,_=>⟨rfl,λw j=>by simp at j⟩
 |_,_,_,.cons r rs,c=>by
  obtain⟨y,F⟩:=jiO (d:=d) rs λe z=>c e (Yaj _ z);refine⟨by rw[YbO,YbO,y,joy r (c _ Yav)],λw j=>?_⟩
  rcases Yap.mp j with rfl|j
  ·exact⟨_,_,c _ Yav,r⟩
  ·exact F w j
def jhc   {σ:St}(hu:A.units+100<cLine)(I:Inv X pins σ H s)(J:RelV x u)(hd:DV X.K H x d)(c:d.canLay0=true)(O:d.depth<=100)(r:Vals vs j)(Y:DVs X.K H vs ds)(cs:∀e∈ds,e.canLay0=true) :
  (∀w,w∈j->YfO A s w u (eD s.heap d w))/\j.any (eD s.heap d)=ds.any λe=>YaK e d:=by
 obtain⟨as,Z⟩:=DVs.reads I Y r;obtain⟨bs,rb⟩:=DV.reads I hd J;obtain⟨h1,h2⟩:=jiO (d:=d) Z cs;refine⟨λw F=>?_,h1⟩;obtain⟨e,L,z,y⟩:=h2 w F;rw[joy y z];exact SeqAt.eqAt_reads _ _ A s _ _ _ _ y rb z c (YaW (YdK (Yaf (Nat.min_le_right _ _) O) _) hu)
def jnL   (hr:Room k X.A):OpR X (YaX .In) (rInD X false):=by
 intro O s σ H x y v u Q I Y ry h;obtain⟨p,vs,d,ds,rfl,z,hd,hv,c,Z,cs,q⟩:=h;cases ry;rcases z with z|z
 ·obtain⟨j,r,F,hz⟩:=I.list z;obtain⟨L,J⟩:=jhc (A:=X.A.in1) (by have:=hr.un;lia) I Y hd c Z r hv cs
  refine Ygm (eD s.heap d) F.isList (λw hw=>L w (by simp_all)) ⟨.bl _,H,I,rfl,?_⟩
  rw[show j.toArray.any (eD s.heap d)=j.any (eD s.heap d) by simp,J]
  exact q
 ·obtain⟨j,r,F,hz⟩:=I.tuple z;obtain⟨L,J⟩:=jhc (A:=X.A.in1) (by have:=hr.un;lia) I Y hd c Z r hv cs
  refine Yf5 (eD s.heap d) F (λw hw=>L w (by simp_all)) ⟨.bl _,H,I,rfl,?_⟩
  rw[show j.toArray.any (eD s.heap d)=j.any (eD s.heap d) by simp,J]
  exact q
def jil   (hr:Room k X.A):OpR X (YaX .NotIn) (rInD X true):=by
 intro O s σ H x y v u Q I Y ry h;obtain⟨p,vs,d,ds,rfl,z,hd,hv,c,Z,cs,q⟩:=h;cases ry;rcases z with z|z
 ·obtain⟨j,r,F,hz⟩:=I.list z;obtain⟨L,J⟩:=jhc (A:=X.A.in1) (by have:=hr.un;lia) I Y hd c Z r hv cs
  refine Yfx (eD s.heap d) F.isList (λw hw=>L w (by simp_all)) ⟨.bl _,H,I,rfl,?_⟩
  rw[show j.toArray.any (eD s.heap d)=j.any (eD s.heap d) by simp,J]
  exact q
 ·obtain⟨j,r,F,hz⟩:=I.tuple z;obtain⟨L,J⟩:=jhc (A:=X.A.in1) (by have:=hr.un;lia) I Y hd c Z r hv cs
  refine Yfm (eD s.heap d) F (λw hw=>L w (by simp_all)) ⟨.bl _,H,I,rfl,?_⟩
  rw[show j.toArray.any (eD s.heap d)=j.any (eD s.heap d) by simp,J]
  exact q
end

end L2

namespace L2
open PySem PySem.Spec PyProof.Rows




end L2

namespace L2
open PySem PySem.Spec PyProof.Rows PySem.SeqAt PySem.MeetsSeq
def jch   l es (n:Nat) dd sl b u :
  Meets (Builtin.«dict.__eq__» ⟨[.ref l,.str b u],[]⟩) (λ_ R s=>s.heap.get? l=some { cls:=.type "dict",dict:=dd,data:=.dict es n,slots:=sl }/\R (.ok (.ret .notImplemented)) s):=
 .of_wp λj w A R s h=>by obtain⟨z,g,d,tk,J⟩:=s;obtain⟨y,h⟩:=h;have I:=F.sub_str_dict;wp_walk using wpAny_loadPart' y;exact⟨_,rfl,h⟩
def jcg   b u l es (n:Nat) dd sl :
  Meets (Builtin.«str.__eq__» ⟨[.str b u,.ref l],[]⟩) (λ_ R s=>s.heap.get? l=some { cls:=.type "dict",dict:=dd,data:=.dict es n,slots:=sl }/\R (.ok (.ret .notImplemented)) s):=
 .of_wp λy w A R s h=>by obtain⟨z,g,d,tk,F⟩:=s;obtain⟨j,h⟩:=h;wp_walk using wpAny_loadPart' j,wpAny_load j;exact⟨_,rfl,h⟩

def jf4         b u (y:s.heap.get? l=some o)(L:o.cls=.type "dict")(hd:o.data=.dict es n)(hu:A.units<cLine):RcAt A s (.ref l) (.str b u) false:=λz w E Q h=>by
 obtain⟨O,J,data,I⟩:=o;simp only at L hd;subst L hd;exact rc_eq_decline_or (k:=false) ⟨_,y,rfl⟩ (YdQ s b u) (by decide) F.sub_str_dict F.slot_dict_eq F.slot_str_eq_refl
  (λ_ j=>YcF F.slot_dict_eq ⟨_,y,rfl⟩ F.entry_dict_eq (F.args_dict_eq_2 _ _) (jch l es n J I b u) ⟨y,j⟩)
  (λ_ j=>YcF F.slot_str_eq_refl (YdQ s b u) F.entry_str_eq (F.args_str_eq_2 _ _) (jcg b u l es n J I) ⟨y,j⟩)
  (λ_ j=>wpAny_of_eq (rfl:isSame (.ref l) (.str b u)=pure false) j) (.inr hu) h
def jjA  : R2:=λx y H Q=>∃a z j,x=.ref a/\y=.str z/\H a=some (.dK j)/\Q (.bl false) H
def jeP   (hr:Room k X.A):OpR X (YaX .Eq) jjA:=by
 intro J s σ H x y v u Q I Z Y h;obtain⟨a,z,j,rfl,rfl,ha,q⟩:=h;cases Z;obtain⟨t,rfl⟩:=Y;obtain⟨_,_,F,_,o,es,ep,O,L,hd,_⟩:j.length<=Yai/\(a==Ya6)=false/\∃F,KV j F/\s.heap.DictOf (jam X.prog X.w) a F:=I.hok a _ ha;exact jf4 z t O L.1 hd (by have:=hr.un;lia) X.prog X.w X.xe _ ⟨.bl false,H,I,rfl,q⟩
def rSlS  : V->Option Int->Option Int->Hp->VK->Prop:=λx y j H Q=>∃z,x=.str z/\z.length<=Yai/\Q (.str (Yfl z y j)) H

def jmW  : SlR X rSlS:=by
 intro J s σ H x v vl vu lo hi sl Q I rx hs pl pu h;obtain⟨z,rfl,L,q⟩:=h;obtain⟨t,rfl⟩:=rx;refine⟨"str",_,F.slot_str_getitem.lookup,YdQ _ _ _,?_⟩;obtain⟨o,O,Y,hd⟩:=hs;have y:∀t' k,EP X J σ Q (.str (Yfl z lo hi) t') { s with toks:=k }:=λt' k=>⟨.str _,H,I.tok _,⟨_,rfl⟩,q⟩
 cases pl with
 |none=>
  cases pu with
  |none=>exact Ycz (l:=none) (u:=none) (st:=none) ⟨o,O,Y,hd⟩ rfl (YdE ⟨Yaf (Yeb z _ _) L,y⟩)
  |int j Z=>exact Ycz (l:=none) (u:=some (j,Z)) (st:=none) ⟨o,O,Y,hd⟩ rfl (YdE ⟨Yaf (Yeb z _ _) L,y⟩)
 |int i ui=>
  cases pu with
  |none=>exact Ycz (l:=some (i,ui)) (u:=none) (st:=none) ⟨o,O,Y,hd⟩ rfl (YdE ⟨Yaf (Yeb z _ _) L,y⟩)
  |int j Z=>exact Ycz (l:=some (i,ui)) (u:=some (j,Z)) (st:=none) ⟨o,O,Y,hd⟩ rfl (YdE ⟨Yaf (Yeb z _ _) L,y⟩)
def jlU  : OpR X (Ybp .Add) (λx y H Q=>∃b j,x=.bl b/\y=.int j/\Q (.int ((if b=true then (1:Int) else 0)+j)) H):=by
 intro z s L H x y v u Q I F J h;obtain⟨b,j,rfl,rfl,q⟩:=h;cases F;obtain⟨t,rfl⟩:=J;exact PySem.IntBool.add_bool_int ⟨.int _,H,I.tok _,⟨_,rfl⟩,q⟩
def jlQ  : OpR X (Ybp .Sub) (λx y H Q=>(∃b j,x=.bl b/\y=.int j/\Q (.int ((if b=true then (1:Int) else 0)-j)) H)\/∃i b,x=.int i/\y=.bl b/\Q (.int (i-if b=true then (1:Int) else 0)) H):=by
 intro F s L H x y v u Q I z J h;rcases h with⟨b,j,rfl,rfl,q⟩|⟨i,b,rfl,rfl,q⟩
 ·cases z;obtain⟨t,rfl⟩:=J;exact PySem.IntBool.sub_bool_int ⟨.int _,H,I.tok _,⟨_,rfl⟩,q⟩
 ·cases J;obtain⟨t,rfl⟩:=z;exact PySem.IntBool.sub_int_bool ⟨.int _,H,I.tok _,⟨_,rfl⟩,q⟩
def jf1         (h:Q (.str (if b then "True" else "False") s.toks) { s with toks:=s.toks+1 }):wpAny (model prog w) A (call (.type "str") [.bool b]) Q E s:=
 Ygl F.called_str (by decide) (F.typeCall_str_1 _) (F.newCall_str_1 _) (λj=>YdM j _) F.entry_str_new
  (meets_str_new (S:=λ_ R s=>R (.ok (.ret (.str (if b then "True" else "False") s.toks))) { s with toks:=s.toks+1 }) λ_ _ _ _ s y=>
   wpAny_strOf_gives rfl (PySem.typeIs_bool s b) F.slot_bool_str F.slot_bool_repr F.entry_bool_repr (F.args_bool_repr_1 _) (gives_bool_repr b) y (hsz:=by cases b<;>decide)) ⟨YdQ _ _ _,h⟩
def jjb  : jaW X (.type "str") (λxs H Q=>∃b,xs=[.bl b]/\Q (.str (if b=true then "True" else "False")) H):=by
 intro j s z H xs y Q I r h;obtain⟨b,rfl,q⟩:=h;obtain⟨u,rfl,r1⟩:=jcV r;cases r1;exact jf1 ⟨.str _,H,I.tok _,⟨_,rfl⟩,q⟩
def jlu  (K:Yae):R2:=λx y H Q=>∃a z j,x=.ref a/\y=.str z/\(SqT K H a j\/SqL K H a j)/\Q (.bl false) H
def jfl   (hr:Room k X.A):OpR X (YaX .Eq) (jlu X.K):=by
 intro L s σ H x y v u Q I Z Y h;obtain⟨a,z,xs,rfl,rfl,F,q⟩:=h;cases Z;obtain⟨t,rfl⟩:=Y;have hu:X.A.units<cLine:=hr.units0;rcases F with F|F
 ·obtain⟨j,O,J,_⟩:=I.tuple F;exact SeqAt.RcAt.tuple_str z t (show s.heap.IsTuple a j.toArray from J) hu X.prog X.w X.xe _ ⟨.bl false,H,I,rfl,q⟩
 ·obtain⟨j,O,J,_⟩:=I.list F;exact SeqAt.RcAt.list_str z t J.isList hu X.prog X.w X.xe _ ⟨.bl false,H,I,rfl,q⟩
end L2

namespace L2
open PySem PySem.Spec PyProof.Rows
open AutoSeq1 (wpAny_loadPart')


end L2

namespace L2
open PySem PySem.Spec PyProof.Rows PySem.W
structure Lies (lo:Nat)(pn:List (Addr×Obj))(H:Hp)(h:Heap)(e:Addr)(cls:Value)(dx:Option Addr):Prop where
 ob:∃oe vs,h.get? e=some oe/\oe.cls=cls/\oe.dict=dx/\oe.data=.fields vs/\
  (vs[1]?=some .none\/∃T oT ts,vs[1]?=some (.ref T)/\T≠e/\h.get? T=some oT/\oT.data=.fields ts/\ts[3]?=some .none/\H T=none/\lo<=T/\∀p∈pn,p.1≠T)
 hn:H e=none
 le:lo<=e
 pn:∀p∈pn,p.1≠e

def jcH  {h:Heap} i x (y:h.get? a=some o)(hd:o.data=.fields vs) :
  (∃j,(h.update a (YbP (·.setIfInBounds i x))).get? a=some j/\j.cls=o.cls/\j.dict=o.dict/\j.data=.fields (vs.setIfInBounds i x))/\∀b,b≠a->(h.update a (YbP (·.setIfInBounds i x))).get? b=h.get? b:=by
 have z:=Yf8 hd (·.setIfInBounds i x);refine⟨⟨_,Yb4 _ y (Ydp z),Obj.cls_mapFields _ _,?_,z⟩,λb F=>Ydd _ _ (Ne.symm F)⟩;unfold YbP
 lia
def jhf  {s: Shared} 
  (za:A.frames=some (env::outer)) (hl:s.heap.FunFrames base (env::outer)) (hf:env.frame=some L) (he:s.heap.get? e=some oe) (hd:oe.data=.fields vs) (hsz:1<vs.size)
  (h:∀(h':Heap) (T:Addr) (y oT:Obj) vs' ts ,(∀b o,b∉frs (env::outer)->b≠e->s.heap.get? b=some o->h'.get? b=some o)->(∀b o,b∈frs (env::outer)->b≠e->s.heap.get? b=some o->∃sl,h'.get? b=some { o with slots:=sl })->
   s.heap.objs.size<=T->h'.get? e=some y->y.cls=oe.cls->y.dict=oe.dict->y.data=.fields vs'->vs'[1]?=some (.ref T)->h'.get? T=some oT->oT.data=.fields ts->ts[3]?=some .none->Q () { s with heap:=h' }) :
  wpAny M A (do let a <- frameOf env;let pl <- entryPlaceOf L ja;let b <- EntryCells.newEntry j a .none (rawInt L) .none pl;setField (.ref e) 1 b) (λ_ s'=>wpAny M A (Yeh (.ref e) none) Q E s') E s:=by
 have O:e∉frs (env::outer):=λm=>by
  rcases hl.mem m with⟨-,o,ho,no⟩
  simp_all
 refine Yab (wpAny_frameOf_fun za hl hf λF fs=>Yab (wpAny_entryPlaceOf λpl xa=>Yab (Ya2 ?_ (xa.sizeOk5 _ _ _ _ _))));have n3:3<([j,.ref L,.none,rawInt L,.none]++(if pl.isEmpty then Yag 6 YbI else pl)).toArray.size:=by
  simp_all
 generalize va:(⟨.type "traceback",none,.fields ([j,.ref L,.none,rawInt L,.none]++(if pl.isEmpty then Yag 6 YbI else pl)).toArray,#[]⟩:Obj)=ot
 have dt:ot.data=.fields ([j,.ref L,.none,rawInt L,.none]++(if pl.isEmpty then Yag 6 YbI else pl)).toArray:=by lia
 have Y:F.get? e=some oe:=by rw[fs.2.1 e O,he]
 have new:=Yay F (Ydp dt);have ne:F.objs.size≠e:=λz=>Ybl _ (z ▸ Yan Y);obtain⟨⟨o2,g2,c2,d2,v2⟩,r2⟩:=jcH 1 (.ref F.objs.size) (Yad ot Y) hd;have I:=(r2 _ ne).trans new;obtain⟨⟨o3,g3,c3,d3,v3⟩,r3⟩:=jcH 3 .none I dt;refine Yda (Yad ot Y) hd hsz (Yab (YbU g2 v2 (Yb1 hsz) ?_));rw[if_pos (by rfl)]
 refine Yda I dt n3 ?_;have keep:∀b o,b≠e->F.get? b=some o->_:=λb o Z g=>(r3 b (YaD (Yan g))).trans ((r2 b Z).trans (Yad ot g));refine h _ F.objs.size o2 o3 _ _ (λb o Z J g=>keep b o J (by rw[fs.2.1 b Z,g])) (λb o _ J g=>?_) (Yec fs.1.symm) ((r3 e (Ne.symm ne)).trans g2) c2 d2 v2 (Yb1 hsz) g3 v3 (Yb1 n3)
 rcases fs.2.2 b o g with⟨sl,q⟩
 simp_all

def Inv.left  {L: St}{ch:List Addr}(I:Inv X pins L H s)(hH:∀b∈ch,H b=none)(J:∀b∈ch,X.s₀.heap.objs.size<=b)(hd:∀b∈ch,∃o vs,s.heap.get? b=some o/\o.data=.fields vs)(O:∀b∈ch,∀p∈X.pn++pins,p.1≠b)
  (k:∀b o,b∉frs X.stack->b∉ch->s.heap.get? b=some o->h'.get? b=some o) (Z:∀b o,b∈frs X.stack->b∉ch->s.heap.get? b=some o->∃t,h'.get? b=some { o with slots:=t }):Inv X pins L H { s with heap:=h' }:=by
 have u:Un (frs X.stack) ch H H s.heap h':=by
  refine⟨λb o e _ j y=>k b o j y e,λb o e _ j y=>Z b o j y e,λ_ _ _ n _=>n,λb o e y=>?_,λ_ _ e=>e,λ_ _ _ e=>e,λb ps e=>⟨#[],by rw[e];simp⟩⟩
  grind
 have tr:∀b u,H b=some u->b∉frs X.stack/\b∉ch:=λb u e=>⟨λz=>(by rw[I.stkFree b z]at e;cases e),λz=>(by simp_all)⟩
 have F:HOk X.prog X.w H h':=λa o e=>(I.hok a o e).stay (λb v j q=>by
  grind) (λ_ q=>q) λ_ _ q=>q
 refine I.call (g':=s.gens) (d':=s.drawn) (t':=s.toks) u F I.bare λb j=>⟨.inr (J b j),λz=>?_,λx c e z=>?_,O b j⟩
 ·obtain⟨o,vs,g,d⟩:=hd b j;obtain⟨m,⟨o',_,_,Y,r⟩,_⟩:=I.loc
  lia
 ·obtain⟨o,vs,g,d⟩:=hd b j;obtain⟨v,o',Y,y⟩:=I.cell x c e
  lia
def jkM  {σ: St}(I:Inv X [] σ H s)(L:X.stack=X.env::X.outer)(hf:X.env.frame=some X.env.locals)
  (l:Lies X.s₀.heap.objs.size X.pn H s.heap ea cls dx) (q:∀h',Inv X [] σ H { s with heap:=h' }->Lies X.s₀.heap.objs.size X.pn H h' ea cls dx->Q () { s with heap:=h' }):wpAny M X.A (Ygh (.ref ea) X.env) (λ_ s'=>wpAny M X.A (Yeh (.ref ea) none) Q E s') E s:=by
 obtain⟨oe,vs,he,F,ja,hd,ht⟩:=l.ob;have ya:X.A.frames=some (X.env::X.outer):=by rw[<- L];exact I.ok.frames
 have hl:s.heap.FunFrames X.base (X.env::X.outer):=by rw[<- L];exact I.stack
 have pe:∀p∈X.pn++[],p.1≠ea:=λp hp=>l.pn p (by simp_all)
 unfold Ygh;simp only[hf];rcases ht with h1|⟨T,oT,ts,h1,hTe,hT,hdT,h3,nT,lT,pT⟩
 ·refine Yab (YbU he hd h1 ?_);rw[if_neg (by decide)]
  refine jhf ya hl hf he hd (Array.getElem?_eq_some_iff.mp h1).1 λh' T' xa Z za Y k sl O g1 c1 c2 c3 c4 g2 c5 c6=>?_;rw[<- L]at k sl;have J:Inv X [] σ H { s with heap:=h' }:=I.left (ch:=[ea]) (λb j=>by rw[List.mem_singleton.mp j];exact l.hn) (λb j=>by rw[List.mem_singleton.mp j];exact l.le) (λb j=>by simp_all) (λb j=>by grind)
   (λb o j F e=>k b o j (λz=>F (by simp[z])) e) λb o j F e=>sl b o j (λz=>F (by simp[z])) e
  refine q h' J ⟨⟨xa,za,g1,c1.trans F,c2.trans ja,c3,.inr ⟨T',Z,Y,c4,?_,g2,c5,c6,I.hok.fresh O,Yaf I.sz O,λp hp z=>?_⟩⟩,l.hn,l.le,l.pn⟩
  ·exact λz=>absurd (Yan he) (Nat.not_lt.mpr (z ▸ O))
  ·exact absurd (Yan (I.pin p (by simp_all)).1) (Nat.not_lt.mpr (z ▸ O))
 ·have wa:(YbI==rawInt X.env.locals)=false:=rfl;refine Yab (YbU he hd h1 ?_);rw[if_pos (by rfl)]
  refine Yab (YbU hT hdT h3 ?_);rw[wa,if_neg Yal];refine Yab (Yda hT hdT (Array.getElem?_eq_some_iff.mp h3).1 ?_);have y:=(jcH 3 .none hT hdT).2;have I1:Inv X [] σ H { s with heap:=s.heap.update T (YbP (·.setIfInBounds 3 YbI)) }:=I.left (ch:=[T]) (λb j=>by simp_all) (λb j=>by simp_all) (λb j=>by simp_all) (λb j p hp=>by grind)
   (λb o _ F e=>(y b (by simp_all)).trans e) λb o _ F e=>⟨o.slots,(y b (by simp_all)).trans e⟩
  have va:=(y ea (Ne.symm hTe)).trans he;have ka:(s.heap.update T (YbP (·.setIfInBounds 3 YbI))).FunFrames X.base (X.env::X.outer):=by rw[<- L];exact I1.stack
  refine jhf (s:={ s with heap:=s.heap.update T (YbP (·.setIfInBounds 3 YbI)) }) ya ka hf va hd (Array.getElem?_eq_some_iff.mp h1).1 λh' T' xa Z za Y k sl O g1 c1 c2 c3 c4 g2 c5 c6=>?_
  rw[<- L]at k sl;have J:Inv X [] σ H { s with heap:=h' }:=Inv.left (s:={ s with heap:=s.heap.update T (YbP (·.setIfInBounds 3 YbI)) }) (ch:=[ea]) I1 (λb j=>by rw[List.mem_singleton.mp j];exact l.hn) (λb j=>by rw[List.mem_singleton.mp j];exact l.le) (λb j=>by simp_all) (λb j=>by grind)
   (λb o j F e=>k b o j (λz=>F (by simp[z])) e) λb o j F e=>sl b o j (λz=>F (by simp[z])) e
  refine q h' J ⟨⟨xa,za,g1,c1.trans F,c2.trans ja,c3,.inr ⟨T',Z,Y,c4,?_,g2,c5,c6,I1.hok.fresh O,Yaf I1.sz O,λp hp z=>?_⟩⟩,l.hn,l.le,l.pn⟩
  ·exact λz=>absurd (Yan va) (Nat.not_lt.mpr (z ▸ O))
  ·exact absurd (Yan (I1.pin p (by simp_all)).1) (Nat.not_lt.mpr (z ▸ O))
def CX1  (P:Program)(w:World):CXT:=λj H s E e y=>∃(z:Addr) (H':Hp) (cls:Value) (dx:Option Addr),e=.ref z/\y.os=s.os/\AllBare y.gens/\Un (frs j) [] H H' s.heap y.heap/\HOk P w H' y.heap/\Lies s.heap.objs.size [] H' y.heap z cls dx/\E cls dx H'

def CX1.back  {Y: St}(I:Inv X pins Y H s)(h:CX1 X.prog X.w X.stack H s E e O):∃(j:Addr) (y:Hp) (cls:Value) (F:Option Addr),e=.ref j/\Inv X pins Y y O/\Lies X.s₀.heap.objs.size X.pn y O.heap j cls F/\E cls F y:=by
 obtain⟨j,y,cls,F,rfl,os,bare,un,L,l,q⟩:=h;have Z:∀b,s.heap.objs.size<=b->∀p∈X.pn,p.1≠b:=λb hb p hp z=>absurd (Yan (I.pin p (YbK _ hp)).1) (Nat.not_lt.mpr (z ▸ hb));refine⟨j,y,cls,F,rfl,I.call' (ch:=[]) os un L bare (λb z=>absurd z (by simp)),⟨?_,l.hn,Yaf I.sz l.le,Z j l.le⟩,q⟩
 obtain⟨oe,vs,he,hc,J,hd,ht⟩:=l.ob;refine⟨oe,vs,he,hc,J,hd,ht.imp id ?_⟩;rintro⟨T,oT,ts,h1,h2,h3,h4,h5,h6,h7,_⟩;exact⟨T,oT,ts,h1,h2,h3,h4,h5,h6,Yaf I.sz h7,Z T h7⟩
end L2

namespace L2
open PySem PySem.Spec PyProof.Rows PySem.W
open Builtin Builtin.ObjectAttr
section
variable {M:Model}{A:Around}{E:Value->Shared->Prop}{h:Heap}{g:Array GenState}{d:Drawn}{t:Nat}{os:OsState}
variable {nm q:Str}{C N D:Addr}{bs bmB:List Value}{hdct:Bool}{sn:List Str}{sub:List Value}{ab:Bool}{col:Option Bool}{dd:Option Addr}{k0 k1 k2 k3 k5:Option Value}{B newId:String}{mN mD:Str->Option Value}{name:Str}
structure Two (h:Heap)(C N D:Addr)(mN mD:Str->Option Value)(bmB:List Value)(newId:String):Prop where
 cls:∃nm q bs sn sub ab col dd k0 k1 k2 k3 k5,h.get? C=some (YcX nm q C N bs (.ref D::bmB) true sn sub ab col dd k0 k1 k2 k3 k5 newId)
 ns:h.Ns N mN
 low:∃c0 dd cd sl,h.get? D=some { cls:=c0,dict:=dd,data:=.cls cd,slots:=sl }/\h.Ns cd.ns mD
def Two.keeps  {h':Heap}(T:Two h C N D mN mD bmB newId)(k:∀b o,h.get? b=some o->h'.get? b=some o):Two h' C N D mN mD bmB newId:=by
 obtain⟨⟨nm,q,bs,I,z,ab,y,dd,J,k1,F,k3,Y,e⟩,n,c0,j,O,Z,L,n2⟩:=T;exact⟨⟨nm,q,bs,I,z,ab,y,dd,J,k1,F,k3,Y,k _ _ e⟩,n.keeps k,c0,j,O,Z,k _ _ L,n2.keeps k⟩
def Two.look    (T:Two h C N D mN mD bmB newId)(hB:Ya3 (.type B) name=pure y)(J:mroOf (.type B)=pure bmB)(I:mN name=none)(F:mD name=none)(z:Q y ⟨h,g,d,t,os⟩) :
  wpAny M A (Ya3 (.ref C) name) Q E ⟨h,g,d,t,os⟩:=by
 obtain⟨⟨nm,q,bs,sn,O,ab,xa,dd,k0,k1,k2,k3,k5,e⟩,n,c0,Z,cd,sl,j,L⟩:=T;have Y:lookupAlong bmB name=pure y:=by rw[YfJ,J]at hB;exact hB
 rw[YfJ];refine Yab (Ye4 e ?_);rw[YeJ];refine Yab (wpAny_classOwn_exc e n ?_);rw[I];show wpAny M A (lookupAlong (.ref D::bmB) name) Q E _;rw[YeJ];refine Yab (wpAny_classOwn_cls j L ?_);rw[F];show wpAny M A (lookupAlong bmB name) Q E _;rw[Y];exact Yam z
def Two.own    (T:Two h C N D mN mD bmB newId)(j:mN name=some v)(y:Q (some v) ⟨h,g,d,t,os⟩):wpAny M A (Ya3 (.ref C) name) Q E ⟨h,g,d,t,os⟩:=by
 obtain⟨⟨nm,q,bs,J,F,ab,z,Y,L,k1,I,Z,O,e⟩,n,_⟩:=T;rw[YfJ];refine Yab (Ye4 e ?_);rw[YeJ];refine Yab (wpAny_classOwn_exc e n ?_);rw[j];exact Yam y
end
section
variable {prog:Program}{w:World}{A:Around}{E:Value->Shared->Prop}{h:Heap}{g:Array GenState}{d:Drawn}{t:Nat}{os:OsState}
variable {C N D x:Addr}{bmB:List Value}{B newId sa owner:String}{mN mD mA:Str->Option Value}{name:Str}{v:Value}
def Two.check      (T:Two h C N D mN mD bmB newId)(F:Ydi B bmB sa owner)(O:h.get? x=some o)(L:o.cls=.ref C)(J:Q () ⟨h,g,d,t,os⟩) :
  wpAny M A (Ydw sa ⟨[.ref x,j,v],[]⟩) Q E ⟨h,g,d,t,os⟩:=by
 obtain⟨⟨nm,q,bs,sn,Z,ab,Y,dd,k0,k1,k2,k3,k5,e⟩,_⟩:=T;have hb:(Ya1 C::.ref D::bmB).contains (.type owner)=true:=by rw[YbD,YbD,F.hasOwner,YcD,YcD]
 have I:wpAny M A (match YeV sa with|some y=>Bind.checkArgs sa y ⟨[.ref x,j,v],[]⟩|_=>pure ()) Q E ⟨h,g,d,t,os⟩:=by
  have ok:=F.args (.ref x) j v;unfold argsOk at ok;generalize YeV sa=z at ok ⊢;cases z with
  |some y=>exact wpAny_of_eq ok J
  |none=>exact Yam J
 unfold Ydw;rw[F.kind,F.split];refine Yab (m:=Yfw _ _) ?_;unfold Yfw
 repeat (first|(with_reducible refine YaB O ?_;rw[L])|(with_reducible refine YbT e ?_;rw[hb])|wp_step)
 exact I
def Two.tail  (T:Two h C N D mN mD bmB newId)(F:mD "__init__" = none):OwnTail h bmB (.ref D::bmB):=by
 obtain⟨_,_,c0,j,I,J,y,z⟩:=T;exact .own y z F .base
def Two.made   {rest:List Value}{Q:Fin->Shared->Prop}(T:Two h C N D mN mD bmB newId)(F:YeG B newId j bmB)(hD:mD "__init__" = none)(hi:mN "__init__" = some (.ref Z))(y:h.get? Z=some oI)(J:oI.cls=.type "function")(hr:rest.length<=Yai)
  (hq:∀h' e,Heap.MadeExcOf h h' e (.ref C) rest->h.objs.size<=e->wpAny (model prog w) A (call (.ref Z) (.ref e::rest)) (λr L=>r=.none/\Q (.done (.ret (.ref e))) L) E ⟨h',g,d,t,os⟩) :
  wpAny (model prog w) A (Builtin.«type.__call__» ⟨.ref C::rest,[]⟩) Q E ⟨h,g,d,t,os⟩:=by
 have Y:=T.tail hD;obtain⟨nm,q,bs,sn,xa,ab,za,dd,k0,k1,k2,k3,k5,e⟩:=T.cls
 repeat (first|with_reducible refine YaB e ?_|with_reducible refine wpAny_madeBy_exc e ?_|wp_step)
 refine codeAny_call_builtin_code (YfZ _ F.quiet) (wpAny_check_new_subT F Y e (codeAny_exc_new_subT F Y e ?_ hr));show wpAny _ _ _ _ _ _;generalize I:(h.push { cls:=.type "tuple",data:=.seq rest.toArray }).push { cls:=.ref C,data:=.fields #[.ref h.objs.size,.none,.none,.none,.bool false,.none] }=h1;have k:∀b o,h.get? b=some o->h1.get? b=some o:=λb o z=>by rw[<- I];exact Yad _ (Yad _ z)
 have T1:=T.keeps k;have O:h1.get? (h.objs.size+1)=some { cls:=.ref C,data:=.fields #[.ref h.objs.size,.none,.none,.none,.bool false,.none] }:=by rw[<- I];heap_get
 have g2:h1.get? h.objs.size=some { cls:=.type "tuple",data:=.seq rest.toArray }:=by rw[<- I];exact Yad _ (Ygc rfl rfl)
 have hc:(Ya1 C::.ref D::bmB).contains (.ref C)=true:=by simp
 have e1:=k _ _ e;unfold Yfw
 repeat (first|with_reducible refine YaB O ?_|(with_reducible refine YbT e1 ?_;rw[hc])|wp_step)
 show wpAny _ _ (Ya3 (.ref C) _) _ _ _;refine T1.own hi ?_;refine YbH (Yab ?_);unfold bindSpecial;refine Yab (YcK (T := "function") ⟨_,k _ _ y,J⟩ ?_);rw[if_pos (by decide)]
 refine Yam (Yab (YaZ (hq _ (h.objs.size+1) ⟨k,Ydz (YdJ _),h.objs.size,O,Ydz (Yac _),g2⟩ (YdJ _)) (λr L z=>?_) λ_ _ z=>z));obtain⟨rfl,z⟩:=z
 wp_walk
 exact z
def Two.make   {rest:List Value}{Q:Value->Shared->Prop}(T:Two h C N D mN mD bmB newId)(F:YeG B newId j bmB)(O:mD "__init__" = none)(hi:mN "__init__" = some (.ref I))(y:h.get? I=some Z)(z:Z.cls=.type "function")(hr:rest.length<=Yai)
  (L:∀h' e,Heap.MadeExcOf h h' e (.ref C) rest->h.objs.size<=e->wpAny (model prog w) (A.under (.builtin "type.__call__" ⟨.ref C::rest,[]⟩)) (call (.ref I) (.ref e::rest)) (λr Y=>r=.none/\Q (.ref e) Y) E ⟨h',g,d,t,os⟩) :
  wpAny (model prog w) A (call (.ref C) rest) Q E ⟨h,g,d,t,os⟩:=by
 obtain⟨nm,q,bs,sn,xa,ab,za,dd,k0,k1,k2,k3,k5,e⟩:=T.cls;have f1:=tc_lookup;have f2:=tc_bind (.ref C);have ty:(⟨h,g,d,t,os⟩:Shared).TypeIs (.ref C) "type" := ⟨_,e,rfl⟩;refine wpAny_call (codeAny_of_tree ?_);show wpAny _ _ (callAny (.ref C) _) _ _ _
 repeat (any_goals (first|assumption|with_reducible refine YaB e ?_|wp_step))
 refine⟨rfl,codeAny_call_builtin_at (YfZ _ (by decide +kernel)) entry_typeCall (wpAny_check_type_call_sub e (T.made (hr:=hr) F O hi y z λh' J hm hz=>?_))⟩
 exact L h' J hm hz
structure Reads (B:String)(bmB:List Value):Prop where
 ga:Slot B "__getattribute__" "BaseException.__getattribute__"
 mro:mroOf (.type B)=pure bmB
 no:Ya3 (.type B) "__getattr__" = pure none
 has:bmB.contains (.type "BaseException")=true
def Two.gaCheck      (T:Two h C N D mN mD bmB newId)(R:Reads B bmB)(y:h.get? x=some o)(O:o.cls=.ref C)(z:Q () ⟨h,g,d,t,os⟩) :
  wpAny M A (Ydw "BaseException.__getattribute__" ⟨[.ref x,j],[]⟩) Q E ⟨h,g,d,t,os⟩:=by
 obtain⟨nm,q,bs,Z,J,ab,I,dd,k0,k1,Y,k3,k5,e⟩:=T.cls;have c1:builtinKind "BaseException.__getattribute__" = some .slot:=by decide +kernel
 have c2:splitId "BaseException.__getattribute__" = some ("BaseException", "__getattribute__"):=by decide +kernel
 have L:(Ya1 C::.ref D::bmB).contains (.type "BaseException")=true:=by rw[YbD,YbD,R.has,YcD,YcD]
 have ha:=F.args_bexc_ga (.ref x) j;simp only[Ydw,c1,c2];refine Yab ?_;unfold Yfw
 repeat (first|(with_reducible refine YaB y ?_;rw[O])|(with_reducible refine YbT e ?_;rw[L])|wp_step)
 exact z
def Two.gaEntry      (T:Two h C N D mN mD bmB newId)(R:Reads B bmB)(F:h.get? x=some o)(I:o.cls=.ref C)(y:∀c,o.data≠.cls c)(hd:o.dict=some dx)(j:h.Ns dx mA)(L:mA name=some v)
  (hB:Ya3 (.type B) name=pure none) (J:mN name=none) (Z:mD name=none) (O:Q (.done (.ret v)) ⟨h,g,d,t,os⟩) :
  wpAny (model prog w) A (Builtin.«object.__getattribute__» ⟨[.ref x,.str name tk],[]⟩) Q E ⟨h,g,d,t,os⟩:=by
 obtain⟨nm,q,bs,sn,xa,ab,Y,dd,k0,k1,k2,k3,k5,e⟩:=T.cls;unfold Builtin.«object.__getattribute__»
 repeat (first|(with_reducible refine YaB F ?_;rw[I])|(with_reducible refine T.look hB R.mro J Z ?_)|wp_step)
 split
 ·rename_i c z;exact absurd z (y c)
 unfold instanceDict
 repeat (first|(with_reducible refine YaB F ?_;rw[I])|with_reducible refine YaB e ?_|wp_step)
 rw[hd]
 repeat (first|(with_reducible refine wpAny_nsGet j ?_;rw[L])|wp_step)
 exact O
def Two.get      (T:Two h C N D mN mD bmB newId)(R:Reads B bmB)(z:h.get? x=some o)(J:o.cls=.ref C)(I:∀c,o.data≠.cls c)(hd:o.dict=some dx)(y:h.Ns dx mA)(hv:mA name=some v)(O:handedOut v=pure v)
  (hB:Ya3 (.type B) name=pure none) (g1:mN "__getattribute__" = none) (Z:mD "__getattribute__" = none) (a1:mN "__getattr__" = none) (a2:mD "__getattr__" = none) (Y:mN name=none) (n2:mD name=none) (L:Q v ⟨h,g,d,t+1,os⟩) :
  wpAny (model prog w) A (getAttr (.ref x) name j) Q E ⟨h,g,d,t,os⟩:=by
 have f3:=R.ga.bind (.ref x);have c0:(j&&onTheHeap (Yc6 "BaseException.__getattribute__"))=false:=by cases j<;>rfl
 have c2:(Yc6 "BaseException.__getattribute__" == Yc6 "object.__getattribute__")=false:=by decide +kernel
 have c1:(onTheHeap (Ya1 C)&&Yc6 "BaseException.__getattribute__" == Yc6 "object.__getattribute__")=false:=by rw[c2];rfl
 unfold getAttr
 repeat (any_goals (first|assumption|(with_reducible refine YaB z ?_;rw[J])|(with_reducible refine T.look R.ga.lookup R.mro g1 Z ?_)|(with_reducible refine T.look R.no R.mro a1 a2 ?_)|wp_step))
 refine YdX R.ga.plain F.entry_bexc_ga (T.gaCheck R z J (T.gaEntry R z J I hd y hv hB Y n2 ?_))
 repeat (any_goals (first|assumption|wp_step))
 all_goals first|exact L|(rw[O];exact Yam L)|skip
def jfz {M:Model}{s:Shared}{z:Addr}{tk:Tok}{I:Str->Option Value}{ns:List Str}{Q:Fin->Shared->Prop}(O:s.heap.Ns1 z I)(L:Within I ns)(hl:ns.length<Yai)
  (Y:∀h' F,h'.Ns1 z (λy=>if y=name then some v else I y)->YcT z s.heap h'->Q (.done (.ret .none)) { s with heap:=h',toks:=F }) :
  wpAny M A (storeInDict z (.str name tk) name v) Q E s:=by
 refine Yab (m:=newKeyGuard _ _ _) (Yam (Yab (wpAny_nsSet1 O λh' J sb=>?_)));rcases J.count (Within.cons name v L)with⟨o,es,ep,Z,hd,le⟩;have j:es.size<=Yai:=Yaf le (by rw[YaU];exact hl)
 refine Yab (wpAny_lookBehind Z (hd ▸ pastItsLine_dict (Nat.le_succ_of_le j)) ?_);exact Yam (Y h' _ J sb)
def Two.put     {ns:List Str}(T:Two h C N D mN mD bmB newId)(SF:Ydi B bmB sa owner)(n1:mN name=none)(n2:mD name=none)(hB:Ya3 (.type B) name=pure none)(J:h.get? x=some o)(hc:o.cls=.ref C)(xa:∀c,o.data≠.cls c)
  (hd:(o.dict=none/\∀n,mA n=none)\/∃j,o.dict=some j/\j≠x/\h.Ns1 j mA) (hw:Within mA ns) (hl:ns.length<Yai)
  (hq:∀h' F j,(o.dict=some j\/(o.dict=none/\j=h.objs.size))->j≠x->h'.get? x=some { o with dict:=some j }->h'.Ns1 j (λy=>if y=name then some v else mA y)->(∀b u,b≠x->b≠j->h.get? b=some u->h'.get? b=some u)->Q (.done (.ret .none)) ⟨h',g,d,F,os⟩) :
  wpAny (model prog w) A (Builtin.«object.__setattr__» ⟨[.ref x,.str name tk,v],[]⟩) Q E ⟨h,g,d,t,os⟩:=by
 obtain⟨nm,q,bs,sn,za,ab,ja,dd,k0,k1,Y,k3,k5,e⟩:=T.cls;have ps:=SF.passes (.ref x);unfold Builtin.«object.__setattr__»
 repeat (first|rw[refuse_eq]|(rw[refuseLoop_ref,refuseLoop_ref,ps])|(with_reducible refine YaB J ?_;rw[hc])|with_reducible refine Ye4 e ?_|(with_reducible refine T.look hB SF.mro n1 n2 ?_)|with_reducible refine YaB e ?_|wp_step)
 rcases hd with⟨dn,ma⟩|⟨j,de,dne,dns⟩
 ·rw[dn,if_neg (by simp[typeHasDict])]
  split
  ·rename_i z;cases z
  split
  ·rename_i c z;exact absurd z (xa c)
  ·have Z:x≠h.objs.size:=YaD (Yan J);have x1:=Yad { cls:=.type "dict",data:=.dict #[] } J;refine Yab (wpAny_alloc' (Yab (wpAny_update' x1 (Yam ?_))));have fr:({ cls:=o.cls,dict:=some h.objs.size,data:=o.data,slots:=o.slots }:Obj).isFreed=false:=by
    have:=(Heap.get?_some_iff.mp J).2;obtain⟨c1,c2,c3,c4⟩:=o;cases c3<;>first|rfl|exact this
   have x2:=Yb4 (λo=>({ cls:=o.cls,dict:=some h.objs.size,data:=o.data,slots:=o.slots }:Obj)) x1 fr;have d2:((h.push { cls:=.type "dict",data:=.dict #[] }).update x λo=>{ cls:=o.cls,dict:=some h.objs.size,data:=o.data,slots:=o.slots }).get? h.objs.size=some { cls:=.type "dict",data:=.dict #[] }:=(YfE _ _ _ _ Z.symm).trans (Ygc rfl rfl);have Y:∀b u,b≠x->h.get? b=some u->((h.push { cls:=.type "dict",data:=.dict #[] }).update x λo=>{ cls:=o.cls,dict:=some h.objs.size,data:=o.data,slots:=o.slots }).get? b=some u:=λb u z e=>(YfE _ _ _ _ z).trans (Yad _ e);generalize ((h.push { cls:=.type "dict",data:=.dict #[] }).update x λo=>{ cls:=o.cls,dict:=some h.objs.size,data:=o.data,slots:=o.slots })=h2 at x2 d2 Y ⊢;have nd:h2.Ns h.objs.size (λ_=>none):=⟨_,#[],_,d2,rfl,λe he=>absurd he (by simp),λ_=>rfl⟩
   refine jfz (Heap.Ns1.of_empty nd) Within.nil (Nat.zero_lt_of_lt hl) λh' F I L=>?_;refine hq h' F h.objs.size (.inr ⟨dn,rfl⟩) Z.symm ((L.2 x Z).trans x2) ?_ λb u z1 O z=>(L.2 b O).trans (Y b u z1 z);obtain⟨o',es,ep,e1,e2,e3,eu,e4⟩:=I;exact⟨o',es,ep,e1,e2,e3,eu,λy=>by rw[e4 y];by_cases hy:y=name<;>simp[hy,ma]⟩
 ·rw[de];refine Yam (jfz dns hw hl λh' F I L=>?_);refine hq h' F j (.inl de) dne ?_ I λb u z1 O z=>(L.2 b O).trans z;rw[L.2 x dne.symm,J,<- de]
def Two.set    {ns:List Str}(T:Two h C N D mN mD bmB newId)(z:Ydi B bmB sa owner)(s1:mN "__setattr__" = none)(s2:mD "__setattr__" = none)(Y:mN name=none)(n2:mD name=none)(hB:Ya3 (.type B) name=pure none)(I:h.get? x=some o)(L:o.cls=.ref C)(J:∀c,o.data≠.cls c)
  (hd:(o.dict=none/\∀n,mA n=none)\/∃j,o.dict=some j/\j≠x/\h.Ns1 j mA) (O:Within mA ns) (hl:ns.length<Yai)
  (Z:∀h' F j,(o.dict=some j\/(o.dict=none/\j=h.objs.size))->j≠x->h'.get? x=some { o with dict:=some j }->h'.Ns1 j (λy=>if y=name then some v else mA y)->(∀b u,b≠x->b≠j->h.get? b=some u->h'.get? b=some u)->Q () ⟨h',g,d,F,os⟩) :
  wpAny (model prog w) A (setAttr (.ref x) name v) Q E ⟨h,g,d,t,os⟩:=by
 have f3:=z.slot.bind (.ref x);unfold setAttr callSpecial? specialOf
 repeat (any_goals (first|assumption|(with_reducible refine YaB I ?_;rw[L])|(with_reducible refine T.look z.slot.lookup z.mro s1 s2 ?_)|wp_step))
 refine YdX z.slot.plain z.entry (T.check z I L (T.put z Y n2 hB I L J hd O hl λh' F j z1 z2 z3 z4 z5=>?_))
 repeat (any_goals (first|assumption|wp_step))
 exact Z h' F j z1 z2 z3 z4 z5
end
def jbY  : Reads "ValueError" [.type "ValueError",.type "Exception",.type "BaseException",.type "object"] where
 ga:=.of (owner := "BaseException") (n := "__getattribute__") (by rw[Ycn,Ybu];kernel_rfl) (by decide +kernel) (by decide +kernel) (by decide +kernel)
  (by first|exact .inl (by decide +kernel)|exact .inr (by decide +kernel)) (by rw[isSubtype_type];kernel_rfl)
 mro:=by kernel_rfl
 no:=by rw[Ycn,Ybu];kernel_rfl
 has:=by decide

def Inv.sooner  {z: St}(I:Inv X pins z H s)(k:∀b o,sb.heap.get? b=some o->X.s₀.heap.get? b=some o)(J:sb.os=X.s₀.os)(y:sb.heap.objs.size<=X.s₀.heap.objs.size)(L:∀b o,X.base.get? b=some o->sb.heap.get? b=some o/\X.H₀ b=none)(j:X.base.objs.size<=sb.heap.objs.size)(F:sb.heap.FunFrames X.base X.outer) :
  Inv { X with s₀:=sb } pins z H s:=by
 refine⟨⟨I.ok.mod,I.ok.kind,I.ok.glob,I.ok.blt,Yaf y I.ok.above,I.ok.inj,I.ok.has,λx c h e=>Yaf y (I.ok.cab x c h e),I.ok.hd,I.ok.frames,I.ok.stk,I.ok.exf,L,j,I.ok.noex,I.ok.exfs,F,I.ok.frf⟩,I.os.trans J.symm,I.bare,(Un.kept k).trans I.base,I.loc,I.cell,I.free,I.freeC,I.pin,I.hok,I.len⟩
def Inv.xput  {σ: St}{e j:Addr}(I:Inv X pins σ H s)(hH:H e=none)(za:X.s₀.heap.objs.size<=e)(ge:s.heap.get? e=some oe)(gd:oe.data=.fields vs)(hp:∀p∈X.pn++pins,p.1≠e)
  (L:s.heap.objs.size<=j\/∃y,H j=some (.xd y)) (k:∀b u,b≠e->b≠j->s.heap.get? b=some u->h'.get? b=some u) (new:jaE X.prog X.w (upd H j (.xd fs)) h' j (.xd fs)):Inv X pins σ (upd H j (.xd fs)) { s with heap:=h',toks:=t' }:=by
 have Z:∀b o,s.heap.get? b=some o->H b=none->b≠j:=λb o g n z=>by
  rcases L with q|⟨y,q⟩
  ·rw[z]at g;exact absurd (Yan g) (Nat.not_lt.mpr q)
  ·rw[z,q]at n;cases n
 have ne:∀b u,H b=some u->b≠e:=λb u g z=>by rw[z,hH]at g;cases g
 have J:∀b u,H b=some u->(∀f0,u≠.xd f0)->b≠j:=λb u g hu z=>by
  rcases L with q|⟨y,q⟩
  ·rw[z,I.hok.fresh q]at g;cases g
  ·rw[z,q]at g;cases g;exact hu y rfl
 obtain⟨od,xa⟩:∃o,h'.get? j=some o:=by obtain⟨_,⟨o,_,_,z,_⟩,_⟩:=new;exact⟨o,z⟩
 obtain⟨m0,⟨oL,va,ja,gL,rL⟩,ya⟩:=id I.loc;have Y:X.env.locals≠e:=λz=>by
  rw[z,ge]at gL;cases gL;have:=rL.1;rw[gd]at this;cases this
 refine I.step (g':=s.gens) (d':=s.drawn) (ch:=[e]) (λb hb=>?_) (λb o _ _ F g n=>k b o (λz=>F (by simp[z])) (Z b o g n) g) (λb o _ _ F g n=>⟨o.slots,k b o (λz=>F (by simp[z])) (Z b o g n) g⟩) (λb o _ g n=>by rw[jad (Z b o g n)];exact n)
  (λb o F g=>?_) (λb ys g=>by rw[jad (J b _ g λ_ z=>nomatch z)];exact g) (λb o u g=>by rw[jad (J b _ g λ_ z=>nomatch z)];exact g) (λb ps g=>⟨#[],by rw[jad (J b _ g λ_ z=>nomatch z),g];simp⟩) (λm hm=>?_) (λa o g=>?_) I.bare
 ·have z:b=e:=by simpa using hb
  subst z;refine⟨.inr za,Ne.symm Y,λx c q z=>?_,hp⟩;obtain⟨v,o',O,F⟩:=I.cell x c q;rw[z,ge]at O;cases O;rw[gd]at F;cases F
 ·by_cases z:b=j
  ·exact⟨od,z ▸ xa⟩
  ·exact⟨o,k b o (λz=>F (by simp[z])) z g⟩
 ·obtain⟨o,es,ep,O,r⟩:=hm;exact⟨o,es,ep,k _ o Y (Z _ o O I.free) O,r⟩
 ·by_cases z:a=j
  ·subst z;rw[jaj]at g;cases g;exact new
  ·rw[jad z]at g;refine(I.hok a o g).stay (λb v hb q=>?_) (λb q=>by rw[jad (J b _ q λ_ z=>nomatch z)];exact q) λb ys q=>by rw[jad (J b _ q λ_ z=>nomatch z)];exact q
   rcases hb with z'|z'
   ·subst z';exact k b v (ne b _ g) z q
   ·exact k b v (ne b _ z') (J b _ z' λ_ z=>nomatch z) q
theorem jfs   : ∀{fs:List (Str×V)},g∉fs.map (·.1)->fs.lookup g=none
 |[],_=>rfl
 |(a,v)::r,h=>by
  rw[Ybs];have:(g==a)=false:=by
   rw[beq_eq_false_iff_ne];exact λz=>h (by rw[z];simp)
  rw[this];exact jfs λz=>h (by simp at z ⊢;exact .inr z)
def xset  {σ: St}(I:Inv X pins σ H s)(T:Two s.heap C N D mN mD bmB newId)(SF:Ydi B bmB sa owner)
  (s1:mN "__setattr__" = none) (s2:mD "__setattr__" = none) (n1:mN f=none) (n2:mD f=none) (hB:Ya3 (.type B) f=pure none) (hH:H e=none) (va:X.s₀.heap.objs.size<=e) (ge:s.heap.get? e=some oe) (hc:oe.cls=.ref C) (gd:oe.data=.fields vs) (hp:∀p∈X.pn++pins,p.1≠e)
  (hd:(oe.dict=none/\fs=[])\/∃j,oe.dict=some j/\H j=some (.xd fs)) (hl:fs.length<1000) (ru:RelV v u)
  (q:∀s' j,Inv X pins σ (upd H j (.xd (putF f v fs))) s'->s'.heap.get? e=some { oe with dict:=some j }->(∀b u,b≠e->b≠j->s.heap.get? b=some u->s'.heap.get? b=some u)->(oe.dict=some j\/(oe.dict=none/\H j=none))->Q () s') :
  wpAny (model X.prog X.w) A (setAttr (.ref e) f u) Q E s:=by
 have nc:∀c,oe.data≠.cls c:=λc z=>by rw[gd]at z;cases z
 have xa:∀(L:Str->Option Value) (J:Heap) (tk:Nat) (j:Addr),(∀g,RelO (fs.lookup g) (L g))->(s.heap.objs.size<=j\/∃za,H j=some (.xd za))->(oe.dict=some j\/(oe.dict=none/\H j=none))->J.get? e=some { oe with dict:=some j }->J.Ns1 j (λy=>if y=f then some u else L y)->(∀b u,b≠e->b≠j->s.heap.get? b=some u->J.get? b=some u)->Q () { s with heap:=J,toks:=tk }:=λL J tk j r z0 F z2 z3 Y=>by
  refine q _ j (I.xput hH va ge gd hp z0 Y ⟨_,z3,λg=>?_⟩) z2 Y F;rw[jdR];by_cases Z:g=f
  ·rw[if_pos Z,if_pos Z];exact ru
  ·rw[if_neg Z,if_neg Z];exact r g
 obtain⟨hh,gg,dr,tk,os⟩:=s;rcases hd with⟨dn,rfl⟩|⟨j,de,hx⟩
 ·refine T.set (mA:=λ_=>none) (ns:=[]) SF s1 s2 n1 n2 hB ge hc nc (.inl ⟨dn,λ_=>rfl⟩) Within.nil (by rw[YbV];decide) λJ O j F z2 z3 Y z5=>?_
  rcases F with F|⟨_,rfl⟩
  ·rw[dn]at F;cases F
  ·exact xa (λ_=>none) J O _ (λg=>YbR) (.inl (Yac _)) (.inr ⟨dn,I.hok.fresh (Yac _)⟩) z3 Y z5
 ·obtain⟨L,n,r⟩:=(show jaE X.prog X.w H hh j (.xd fs)from I.hok j _ hx);refine T.set (mA:=L) (ns:=fs.map (·.1)) SF s1 s2 n1 n2 hB ge hc nc (.inr ⟨j,de,λz=>(by rw[z,hH]at hx;cases hx),n⟩) (λg Z=>?_) (by rw[Yaa,YbV];lia) λJ O ja F z2 z3 Y z5=>?_
  ·refine Yea λz=>Z ?_;have:=r g;rw[jfs z]at this;exact RelO.none_of this
  ·rcases F with F|⟨F,_⟩
   ·have z:ja=j:=by rw[de]at F;exact(Yaw F).symm
    subst z;exact xa _ J O _ r (.inr ⟨fs,hx⟩) (.inl de) z3 Y z5
   ·rw[de]at F;cases F
def xstep  {O: St}{C N D e:Addr}{f self a:Str}{v:V}{vs:Array Value}{i j:Nat}(I:Inv X [(e,oe)] O H s)(za:X.pn=[])(T:Two X.base C N D mN mD bmB newId)(SF:Ydi B bmB sa owner)
  (s1:mN "__setattr__" = none) (s2:mD "__setattr__" = none) (n1:mN f=none) (n2:mD f=none) (hB:Ya3 (.type B) f=pure none) (wa:X.s₀.heap.objs.size<=e) (hc:oe.cls=.ref C) (gd:oe.data=.fields vs) (hd:(oe.dict=none/\fs=[])\/∃F,oe.dict=some F/\H F=some (.xd fs)) (hl:fs.length<1000)
  (hs:PE X (.Name self p1) (tVar i)) (ha:PE X (.Name a p3) (tVar j)) (hi:O[i]?=some (some (.ref e))) (hj:O[j]?=some (some v)) (Z:YbY (.Name a p3) (some (.Attribute (.Name self p1) f p2)) pos.line X.env=pure false)
  (q:∀s' F,Inv X [(e,{ oe with dict:=some F })] O (upd H F (.xd (putF f v fs))) s'->(oe.dict=some F\/(oe.dict=none/\H F=none))->Q .next s') :
  wpAny (model X.prog X.w) X.A (exec (.Assign [.Attribute (.Name self p1) f p2] (.Name a p3) pos) X.env) Q X.xe s:=by
 refine plainObj_wpAny_Assign_Attribute (thn (ha _ s O H (λy H1=>y=v/\H1=H) I ⟨v,hj,rfl,rfl⟩) λu s3 ⟨y,H1,I1,ry,hy,ja⟩=>?_) Z;subst hy;subst ja;refine thn (hs _ s3 O H1 (λz H2=>z=.ref e/\H2=H1) I1 ⟨_,hi,rfl,rfl⟩) λov s4 ⟨z,H2,I2,rz,hz,va⟩=>?_;subst hz;subst va;obtain rfl:ov=Ya1 e:=rz;obtain⟨ge,hH,hL,xa,ya⟩:=I2.pin (e,oe) (by simp)
 have J:Inv X [] O H2 s4:=I2.pins_of λp Y=>absurd Y (by simp)
 refine xset J (T.keeps I2.bk) SF s1 s2 n1 n2 hB hH wa ge hc gd (λp Y=>by rw[za]at Y;simp at Y) hd hl ry λs5 F J5 g5 k5 L=>?_
 refine q s5 F (J5.pins_of λp Y=>?_) L;obtain rfl:p=(e,{ oe with dict:=some F }):=by simpa using Y
 refine⟨g5,?_,hL,xa,λv z=>ya v z⟩;show upd H2 F _ e=none;rw[jad,hH];rintro rfl;rcases L with L|L
 ·rcases hd with⟨w0,_⟩|⟨dx',w1,w2⟩
  ·rw[w0]at L;cases L
  ·rw[w1]at L;cases L;rw[hH]at w2;cases w2
 ·have:=J5.free;obtain⟨_,_,_⟩:=J5.hok e _ jaj;rename_i mA n r;obtain⟨o',es,ep,g',d',_⟩:=n;rw[g5]at g';cases g';rw[show({ oe with dict:=some e }:Obj).data=oe.data from rfl,gd]at d';cases d'
def jjV {CX:CXT}{P:Program}{w:World}{K:Yae}{mg:Str->Option Value}{base:Heap}{k:Nat}{f:Addr}{name j:Str}{params:Ygs}{body:List Stmt}{scope:Scope}{dV kV O pm F ct oc:Value}{an od:Option Addr}{xa:Array (Option Value)}{N ps:List Str}
  {A:Around} {outer:List Env} {s sb:Shared} {H:Hp} {E:XK} {args:Args} {us:List Value} {vs:List V} {e:Addr} {oe:Obj} {R:Result->Shared->Prop}
  (lk:K.lookup f=some ⟨oc,od,.func (Ya8 name j params body scope dV kV O pm an F ct),xa⟩) (Z:YbB K F j=true) (S:FnScope N ps scope) (hr:Room (k+1) A) (e0:Env0 P w K mg base A outer s H)
  (hb:BindsTo s (Ya8 name j params body scope dV kV O pm an F ct) args (ps.zip us)) (r:Vals vs us) (hl:vs.length=ps.length) (ge:s.heap.get? e=some oe) (hH:H e=none) (ka:∀v,oe.data≠.cell v) (wa:e∉frs outer)
  (kb:∀b o,sb.heap.get? b=some o->s.heap.get? b=some o) (Y:sb.os=s.os) (hz:sb.heap.objs.size<=s.heap.objs.size) (va:∀b o,base.get? b=some o->sb.heap.get? b=some o/\H b=none) (ya:base.objs.size<=sb.heap.objs.size) (ja:sb.heap.FunFrames base outer)
  (J:∀s1,Inv { cxOf CX P w K mg base N j scope f F A outer s H E with s₀:=sb } [(e,oe)] (start N vs) H s1->wpAny (model P w) (A.deeper (envOfC j scope s.heap.objs.size f F)) (execs body (envOfC j scope s.heap.objs.size f F)) (λfl s'=>fl=.next/\R (.ok (.ret .none)) s') (λ_ _=>False) s1) :
  codeAny (model P w) A (.call (.ref f) args) R s:=by
 have KX:K.In s.heap:=e0.mod.kin.keeps λb o z=>(e0.bs b o z).1;have za:s.heap.NoLimit:=e0.mod.nolimit.keeps λb o z=>(e0.bs b o z).1;have L:∀y∈ps.zip us,scope.names.lookup y.1=some .local\/(scope.names.lookup y.1=some .cell/\((Ybk (s.heap.objs.size+1) scope.names []).lookup y.1).isSome=true):=λ⟨n,v⟩ hy=>by
  rcases S.par n (YcM hy).1 with q|q
  ·exact .inl q
  ·exact .inr ⟨q,Yc7 _ _ _ (.inl q)⟩
 refine Ygk hr.depth (KX _ _ lk) rfl S.co S.gen rfl (Yfe KX Z) (hb _ _ _ _ ?_);refine Yfc S.kind L λha he s1 x=>?_;subst he;refine⟨za.keeps x.toInCall.keep,codeAny_func ?_⟩;have I:Inv (cxOf CX P w K mg base N j scope f F A outer s H E) [] (start N vs) H s1:=jfy S hr.hd e0 hl r x;have I1:Inv { cxOf CX P w K mg base N j scope f F A outer s H E with s₀:=sb } [] (start N vs) H s1:=I.sooner kb Y hz va ya ja
 have I2:Inv { cxOf CX P w K mg base N j scope f F A outer s H E with s₀:=sb } [(e,oe)] (start N vs) H s1:=I1.pins_of λp hp=>by
  obtain rfl:p=(e,oe):=by simpa using hp
  exact⟨x.toInCall.keep _ _ ge,hH,YaD (Yan ge),wa,ka⟩
 refine YaZ (J s1 I2) (λfl s' ⟨z,h⟩=>?_) λ_ _ z=>z.elim;subst z;exact h

def jfU  (X:Cx)(C:Addr)(s:Shared)(H:Hp)(Nm:List Str)(j:Str)(scope:Scope)(z:Addr)(y:Value)(body:List Stmt)(vs:List V)(fs:List (Str×V)):Prop:=
 ∀(F:Around) (sM s1:Shared) (e t:Addr),Inv { cxOf (CX1 X.prog X.w) X.prog X.w X.K X.mg X.base Nm j scope z y F X.stack sM H (λ_ _ _=>False)with s₀:=s } [(e,{ cls:=.ref C,data:=.fields #[.ref t,.none,.none,.none,.bool false,.none] })] (start Nm (.ref e::vs)) H s1->s.heap.objs.size<=e->
  wpAny (model X.prog X.w) (F.deeper (envOfC j scope sM.heap.objs.size z y)) (execs body (envOfC j scope sM.heap.objs.size z y)) (λfl J=>fl=.next/\∃I,H I=none/\Inv { cxOf (CX1 X.prog X.w) X.prog X.w X.K X.mg X.base Nm j scope z y F X.stack sM H (λ_ _ _=>False)with s₀:=s } [(e,{ cls:=.ref C,dict:=some I,data:=.fields #[.ref t,.none,.none,.none,.bool false,.none] })] (start Nm (.ref e::vs)) (upd H I (.xd fs)) J) (λ_ _=>False) s1
def xmake  {σ: St}{dV kV xa pm y ct:Value} 
  (I:Inv X pins σ H s) (T:Two X.base C N D mN mD bmB newId) (F:YeG B newId za bmB) (hD:mD "__init__" = none) (hi:mN "__init__" = some (.ref fI)) (lk:X.K.lookup fI=some ⟨.type "function",od,.func (Ya8 name j params body scope dV kV xa pm an y ct),ya⟩) (va:YbB X.K y j=true) (S:FnScope Nm ps scope) (hr:Room (k+2) X.A)
  (hb:Binds X.K (Ya8 name j params body scope dV kV xa pm an y ct) ps []) (r:Vals vs us) (hl:vs.length+1=ps.length) (hz:us.length<=Yai) (Z:jfU X C s H Nm j scope fI y body vs fs)
  (q:∀e L O,H L=none->Inv X pins σ (upd H L (.xd fs)) O->Lies X.s₀.heap.objs.size X.pn (upd H L (.xd fs)) O.heap e (.ref C) (some L)->(∃t,O.heap.get? e=some { cls:=.ref C,dict:=some L,data:=.fields #[.ref t,.none,.none,.none,.bool false,.none] })->Q (.ref e) O):wpAny (model X.prog X.w) X.A (call (.ref C) us) Q X.xe s:=by
 obtain⟨hh,gg,dr,tk,os⟩:=s;have I0:=I;refine(T.keeps I.bk).make F hD hi (I.kIn _ _ lk) rfl hz λh' e hm Y=>?_;obtain⟨t,ge,_,_⟩:=hm.there;have e0:=I.env0.make C us [];have e1:Env0 X.prog X.w X.K X.mg X.base (X.A.under (.builtin "type.__call__" ⟨.ref C::us,[]⟩)) X.stack ⟨h',gg,dr,tk,os⟩ H:=⟨e0.frames,e0.mod,λb o z=>⟨hm.keeps _ _ (e0.bs b o z).1,(e0.bs b o z).2⟩,Yaf e0.bsz (Yb6 (YaW Y (Yan ge))),e0.funs.of_keeps λb o z _=>⟨o,hm.keeps _ _ z,rfl⟩,e0.frf,e0.hok.kept hm.keeps,e0.bare⟩;have hH:H e=none:=I.hok.fresh Y;refine wpAny_call ?_;refine jjV (k:=k) (CX:=CX1 X.prog X.w) (E:=λ_ _ _=>False) (sb:=⟨hh,gg,dr,tk,os⟩) (us:=.ref e::us) (vs:=.ref e::vs) lk va S (hr.make C us []) e1 ?_ (.cons rfl r) (by simpa using hl) ge hH (λv z=>by cases z) (λz=>?_) hm.keeps rfl (Yb6 (YaW Y (Yan ge))) e0.bs e0.bsz e0.funs λs1 J=>?_
 ·have:=hb ⟨h',gg,dr,tk,os⟩ (.ref e::us) (e1.mod.kin.keeps λb o z=>(e1.bs b o z).1) (by simp;have:=r.length;lia)
  simpa using this
 ·obtain⟨_,o,ho,_⟩:=e0.funs.mem z;exact absurd (Yan ho) (Nat.not_lt.mpr Y)
 ·refine YaZ (Z _ _ s1 e t J Y) (λfl O ⟨z,L,ja,J'⟩=>⟨z,rfl,?_⟩) λ_ _ z=>z;have Ix:Inv X pins σ (upd H L (.xd fs)) O:=I.call' (ch:=[]) J'.os J'.base J'.hok J'.bare λb z=>absurd z (by simp)
  obtain⟨g1,g2,_⟩:=J'.pin _ (YaS _ (List.mem_singleton.mpr rfl));refine q e L O ja Ix ⟨⟨_,_,g1,rfl,rfl,rfl,.inl rfl⟩,g2,Yaf I.sz Y,λp hp z=>?_⟩ ⟨t,g1⟩;exact absurd (Yan (I.pin p (YbK _ hp)).1) (Nat.not_lt.mpr (z ▸ Y))

def jpO  {pos: Pos}{v: V}(T:Two X.base C N D mN mD bmB newId)(SF:Ydi B bmB sa owner)(s1:mN "__setattr__" = none)(s2:mD "__setattr__" = none)(n1:mN f=none)(n2:mD f=none)(hB:Ya3 (.type B) f=pure none)
  (h0:Vis scope self) (F:Vis scope a) (d0:(self==("__debug__" : Str))=false) (d1:(a==("__debug__" : Str))=false) (c0:(self==("__classdict__" : Str))=false) (c1:(a==("__classdict__" : Str))=false)
  (sw:∀env,YbY (.Name a p3) (some (.Attribute (.Name self I) f Y)) pos.line env=pure false) :
  jfU X C s H [self,a] y scope fI za [.Assign [.Attribute (.Name self I) f Y] (.Name a p3) pos] [v] [(f,v)]:=by
 intro A' sM xa e t J O;have Z:=J.wish λ_ _=>False;refine YcP (xstep (X:=Cx.wish _ λ_ _=>False) (i:=0) (j:=1) (fs:=[]) Z rfl T SF s1 s2 n1 n2 hB O rfl rfl (.inl ⟨rfl,rfl⟩) (by decide) (jcI rfl h0 d0 c0) (jcI rfl F d1 c1) rfl rfl (sw _) λs' L K z=>?_)
 refine Yam ⟨rfl,L,?_,K.unwish⟩;rcases z with z|z
 ·cases z
 ·exact z.2
def jpN  {L: Str}{scope: Scope}{ja: Value}{p1: Pos}{p2: Pos}{p3: Pos}{pos: Pos}{q1: Pos}{q2: Pos}{q3: Pos}{O: Pos}{v: V}{I: V}(T:Two X.base C N D mN mD bmB newId)(SF:Ydi B bmB sa owner)(s1:mN "__setattr__" = none)(s2:mD "__setattr__" = none)(n1:mN f=none)(n2:mD f=none)(hB:Ya3 (.type B) f=pure none)(m1:mN F=none)(m2:mD F=none)(xa:Ya3 (.type B) F=pure none)(za:f≠F)
  (h0:Vis scope self) (h1:Vis scope a) (h2:Vis scope L) (d0:(self==("__debug__" : Str))=false) (d1:(a==("__debug__" : Str))=false) (d2:(L==("__debug__" : Str))=false) (c0:(self==("__classdict__" : Str))=false) (c1:(a==("__classdict__" : Str))=false) (c2:(L==("__classdict__" : Str))=false)
  (sw:∀env,YbY (.Name a p3) (some (.Attribute (.Name self p1) f p2)) pos.line env=pure false) (sw2:∀env,YbY (.Name L q3) (some (.Attribute (.Name self q1) F q2)) O.line env=pure false) :
  jfU X C s H [self,a,L] va scope fI ja [.Assign [.Attribute (.Name self p1) f p2] (.Name a p3) pos,.Assign [.Attribute (.Name self q1) F q2] (.Name L q3) O] [v,I] [(f,v),(F,I)]:=by
 intro A' sM wa e t J he;have J':=J.wish λ_ _=>False;refine YcP (xstep (X:=Cx.wish _ λ_ _=>False) (i:=0) (j:=1) (fs:=[]) J' rfl T SF s1 s2 n1 n2 hB he rfl rfl (.inl ⟨rfl,rfl⟩) (by decide) (jcI rfl h0 d0 c0) (jcI rfl h1 d1 c1) rfl rfl (sw _) λs' dx K z=>?_)
 have hn:H dx=none:=by
  rcases z with z|z
  ·cases z
  ·exact z.2
 refine YcP (xstep (X:=Cx.wish _ λ_ _=>False) (i:=0) (j:=2) (fs:=[(f,v)]) K rfl T SF s1 s2 m1 m2 xa he rfl rfl (.inr ⟨dx,rfl,jaj⟩) (by simp) (jcI rfl h0 d0 c0) (jcI rfl h2 d2 c2) rfl rfl (sw2 _) λya y K2 Y=>?_)
 have e1:y=dx:=by
  rcases Y with Y|Y
  ·exact(Yaw Y).symm
  ·exact nomatch Y.1
 subst e1;have K3:=K2.unwish;have e2:putF F I [(f,v)]=[(f,v),(F,I)]:=by show(if f=F then _ else _)=_;rw[if_neg za];rfl
 have e3:upd (upd H y (.xd (putF f v []))) y (.xd (putF F I [(f,v)]))=upd H y (.xd [(f,v),(F,I)]):=by
  rw[e2];funext b;by_cases Z:b=y
  ·rw[Z,jaj,jaj]
  ·rw[jad Z,jad Z,jad Z]
 rw[e3]at K3;exact Yam ⟨rfl,y,hn,K3⟩
section
variable {M:Model}{A:Around}{E:Value->Shared->Prop}{env:Env}{C N D:Addr}{bmB:List Value}{newId:String}{mN mD:Str->Option Value}
def Two.raise     (j:bmB.contains (.type "BaseException")=true)(Y:A.handled=none)
  (h:wpAny M A x (λv s1=>∃e t F,v=.ref e/\Two s1.heap C N D mN mD bmB newId/\s1.heap.get? e=some { cls:=.ref C,dict:=some F,data:=.fields #[.ref t,.none,.none,.none,.bool false,.none] }/\E (.ref e) s1) E s):wpAny M A (raiseStmt env (some x) none) Q E s:=by
 have O:(Ya1 C::.ref D::bmB).contains (.type "BaseException")=true:=by rw[YbD,YbD,j,YcD,YcD]
 unfold raiseStmt;refine Yab (YaZ h (λv s1 h1=>?_) λ_ _ z=>z);obtain⟨e,t,F,rfl,T,I,J⟩:=h1;obtain⟨nm,q,bs,sn,L,ab,Z,dd,k0,k1,k2,k3,k5,y⟩:=T.cls;obtain⟨hp,g,d,tk,os⟩:=s1
 repeat (first|with_reducible refine YaB I ?_|with_reducible refine YaB y ?_|(with_reducible refine YbT y ?_;rw[O])|wp_step)
 exact wpAny_raiseNew_none Y J
end
def jks  (X:Cx)(C:Addr)(n:Nat)(mk:List V->List (Str×V))(t:TA):TS:=λ_ z H=>t z H λy H1=>y.length=n/\∀(j:List (Addr×Obj)) (e dx:Addr) (s':Shared),H1 dx=none->Inv X j z (upd H1 dx (.xd (mk y))) s'->Lies X.s₀.heap.objs.size X.pn (upd H1 dx (.xd (mk y))) s'.heap e (.ref C) (some dx)->X.xe (.ref e) s'
def jjF {X:Cx}{C N D fI:Addr}{Y:List Value}{B j xa:String}{mN mD:Str->Option Value}{k:Nat}{name y x:Str}{params:Ygs}{body:List Stmt}{scope:Scope}{dV kV va pm Z ct:Value}{an od:Option Addr}{wa:Array (Option Value)}{Nm ps:List Str}{mk:List V->List (Str×V)}{t:TA}{a0:Expr}{as:List Expr}{p L pos:Pos}{n:Nat}
  (T:Two X.base C N D mN mD Y j) (F:YeG B j xa Y) (hD:mD "__init__" = none) (hi:mN "__init__" = some (.ref fI)) (lk:X.K.lookup fI=some ⟨.type "function",od,.func (Ya8 name y params body scope dV kV va pm an Z ct),wa⟩) (ya:YbB X.K Z y=true) (S:FnScope Nm ps scope) (hr:Room (k+2) X.A)
  (hb:Binds X.K (Ya8 name y params body scope dV kV va pm an Z ct) ps []) (hn:n+1=ps.length) (zb:n<=8) (O:Y.contains (.type "BaseException")=true) (hg:Gl X x) (hm:X.mg x=some (.ref C)) (hk:Ybv X.K (.ref C)=true) (ha:PA X (a0::as) t) (ja:∀(vs:List V) (s:Shared) (H:Hp),vs.length=n->jfU X C s H Nm y scope fI Z body vs (mk vs))
  (ka:(x==("__debug__" : Str))=false:=by decide) (he:YaC (a0::as) X.env=(false,eval a0 X.env)::YaC as X.env:=by rfl) (xb:(backTo L (YaC as X.env)).any (·.1)=false:=by rfl) :
  PS X (.Raise (some (.Call (.Name x p) (a0::as) [] L)) none pos) (jks X C n mk t):=by
 intro za s σ H D0 I h;have go:wpAny (model X.prog X.w) X.A (eval (.Call (.Name x p) (a0::as) [] L) X.env) (λv s1=>∃e t dx,v=.ref e/\Two s1.heap C N D mN mD Y j/\s1.heap.get? e=some { cls:=.ref C,dict:=some dx,data:=.fields #[.ref t,.none,.none,.none,.bool false,.none] }/\X.xe (.ref e) s1) X.xe s:=by
  refine Yb8 (jdT I hg hm ?_ ka);refine Yff (h₀:=X.base) I.ok.mod.kin hk (thn (ha L za s σ H _ I h) λus s1 ⟨vs,H1,I1,r,hl,q⟩=>⟨I1.kIn,?_⟩) he xb;refine xmake (k:=k) I1 T F hD hi lk ya S hr hb r (by lia) (by have:=r.length;rw[YbV,Yb3];lia) (ja vs s1 H1 hl) λe dx s' z1 J l ⟨t',g⟩=>?_
  exact⟨e,t',dx,rfl,T.keeps J.bk,g,q za e dx s' z1 J l⟩
 rw[arm_exec_Raise]
 first
  |exact Yab (Ybz (Two.raise O hr.hd (Yab (YaZ go (λv s1 z=>Yab (Ybz (Yam z))) λ_ _ z=>z))))
  |(simp only[evalOpt,Yew];exact Yab (Ybz (Two.raise O hr.hd (Yab (YaZ go (λv s1 z=>Yab (Ybz (Yam z))) λ_ _ z=>z)))))
def jiw    {σ:St}(I:Inv X pins σ H s)(hN:X.N.Nodup)(hi:X.N[i]?=some x)(hk:X.env.scope.names.lookup x=some .local)
  (h:∀s',Inv X pins (σ.set i none) H s'->Q () s'):wpAny M A (do YcH X.env x .none;unbindBehindTheSuite X.env x pos) Q E s:=by
 obtain⟨m,hn,hl⟩:=id I.loc;have O:(X.env.scope.kind == .class||(X.env.scope.kind == .module&&X.env.locals != X.env.globals))=false:=by rw[I.ok.kind];rfl
 have Z:i<σ.length:=by rw[I.len];exact(List.getElem?_eq_some_iff.mp hi).1
 have cne:=I.cne;refine wpAny_nameGoes_keeps hk hn O λh' v xa J=>?_;have F:∀b o,X.s₀.heap.get? b=some o->b≠X.env.locals:=λb o e=>YaD (Yar (Yan e) I.ok.above);have tr:HOk X.prog X.w H h':=λb ob e=>by
  refine(I.hok b ob e).stay (λc w' hc q=>(J.2 c ?_).trans q) (λ_ q=>q) λ_ _ q=>q;rintro rfl;rcases hc with rfl|hc
  ·rw[I.free]at e;cases e
  ·rw[I.free]at hc;cases hc
 refine h _ ⟨I.ok,I.os,I.bare,⟨λb o e n hb Y=>(J.2 b (F b o e)).trans (I.base.keep b o e n hb Y),λb o e n hb Y=>?_,I.base.free,λb o e Y=>?_,I.base.tups,I.base.frzs,I.base.tbls⟩,⟨_,xa,λj y v' L e2 e3=>?_⟩,λy c e=>?_,I.free,I.freeC,λp hp=>?_,tr,by simpa using I.len⟩
 ·obtain⟨sl,L⟩:=I.base.slot b o e n hb Y;exact⟨sl,(J.2 b (F b o e)).trans L⟩
 ·obtain⟨o',L⟩:=I.base.there b o e Y;exact⟨o',(J.2 b (F b o e)).trans L⟩
 ·by_cases hj:j=i
  ·subst hj;rw[YbA Z]at e2;cases e2
  ·rw[Ya5 (Ne.symm hj)]at e2;have hy:y≠x:=λz=>hj (jeV hN L (z ▸ hi));obtain⟨u,r,l⟩:=hl j y v' L e2 e3;refine⟨u,r,l.imp (λz=>⟨z.1,by show(if y=x then v else m y)=some u;rw[if_neg hy];exact z.2⟩) λz=>⟨z.1,?_⟩⟩
   obtain⟨c,ec,o,ho,hd⟩:=z.2;exact⟨c,ec,o,(J.2 c (cne y c ec)).trans ho,hd⟩
 ·obtain⟨w',o,ho,hd⟩:=I.cell y c e;exact⟨w',o,(J.2 c (cne y c e)).trans ho,hd⟩
 ·obtain⟨p1,p2,p3,p4⟩:=I.pin p hp;exact⟨(J.2 p.1 p3).trans p1,p2,p3,p4⟩
end L2

namespace L2
open PySem PySem.Spec PyProof.Rows PySem.W

def jgo  {Z: OsState}{I: List Value}(hC:h.get? C=some (YcX nm q C N bs L hdct sn I ab col dd k0 k1 k2 k3 k5 newId))(O:h.get? D=some (YcX ja q' D ND wa y J za Y va xa ya l0 l1 l2 l3 l5 z))(he:h.get? e=some oe)(j:oe.cls=.ref C)(hb:y.contains (.type "BaseException")=true)
  (F:Q ((Ya1 C::L).contains (.ref D)) ⟨h,g,d,t,Z⟩):wpAny M A (excMatches (.ref e) (.ref D)) Q E ⟨h,g,d,t,Z⟩:=by
 have hB:(Ya1 D::y).contains (.type "BaseException")=true:=by rw[YbD,hb,YcD]
 have f:=tc_notTuple;obtain⟨b,eb⟩:∃b,b=(Ya1 C::L).contains (.ref D):=⟨_,rfl⟩;rw[<- eb]at F;unfold excMatches
 repeat (first|(with_reducible refine YaB he ?_;rw[j])|with_reducible refine YaB O ?_|(with_reducible refine YbT O ?_;rw[hB])|(with_reducible refine YbT hC ?_;rw[<- eb])|wp_step)
 cases b with
 |true=>wp_walk;exact F
 |false=>wp_walk;exact F

def jfD  {O: St}(I:Inv X [] O H s)(l:Lies X.s₀.heap.objs.size X.pn H s.heap ea cls dx)
  (q:∀h',Inv X [] O H { s with heap:=h' }->Lies X.s₀.heap.objs.size X.pn H h' ea cls dx->Q () { s with heap:=h' }):wpAny M A (Yeh (.ref ea) none) Q E s:=by
 obtain⟨oe,Y,y,J,z,hd,Z⟩:=l.ob;rcases Z with h1|⟨T,oT,ts,h1,hTe,hT,hdT,h3,nT,lT,pT⟩
 ·unfold Yeh;refine Yab (YbU y hd h1 ?_);rw[if_neg (by decide)]
  exact Yam (q s.heap I l)
 ·have sz:=(Array.getElem?_eq_some_iff.mp h3).1;refine wpAny_setFlight_none y hd h1 hT hdT sz ?_;have j:=(jcH 3 .none hT hdT).2;have L:=Yf8 hdT (·.setIfInBounds 3 YbI);refine q _ (I.left (ch:=[T]) (λb F=>by simp_all) (λb F=>by simp_all) (λb F=>by simp_all) (λb F p hp=>by grind)
   (λb o _ J e=>(j b (by simp_all)).trans e) λb o _ J e=>⟨o.slots,(j b (by simp_all)).trans e⟩) ⟨⟨oe,Y,(j ea (Ne.symm hTe)).trans y,J,z,hd,.inr ⟨T,_,_,h1,hTe,Yb4 _ hT (Ydp L),L,by simp[sz],nT,lT,pT⟩⟩,l.hn,l.le,l.pn⟩
noncomputable def Cx.tryC  (X:Cx)(pins:List (Addr×Obj))(xe:Value->Shared->Prop):Cx:={ X with pn:=X.pn++pins,xe:=xe }
def Inv.tryIn  {j: St}(I:Inv X pins j H s):Inv (X.tryC pins xe) [] j H s:=
 ⟨⟨I.ok.mod,I.ok.kind,I.ok.glob,I.ok.blt,I.ok.above,I.ok.inj,I.ok.has,I.ok.cab,I.ok.hd,I.ok.frames,I.ok.stk,I.ok.exf,I.ok.bs,I.ok.bsz,I.ok.noex,I.ok.exfs,I.ok.funs,I.ok.frf⟩,I.os,I.bare,I.base,I.loc,I.cell,I.free,I.freeC,λp y=>I.pin p (by simpa[Cx.tryC]using y),I.hok,I.len⟩
def Inv.tryOut  {y: St}(I:Inv (X.tryC pins xe) j y H s):Inv X pins y H s:=
 ⟨⟨I.ok.mod,I.ok.kind,I.ok.glob,I.ok.blt,I.ok.above,I.ok.inj,I.ok.has,I.ok.cab,I.ok.hd,I.ok.frames,I.ok.stk,I.ok.exf,I.ok.bs,I.ok.bsz,I.ok.noex,I.ok.exfs,I.ok.funs,I.ok.frf⟩,I.os,I.bare,I.base,I.loc,I.cell,I.free,I.freeC,λp z=>I.pin p (by simp only[Cx.tryC];grind),I.hok,I.len⟩
noncomputable def Cx.inH  (X:Cx)(e:Value)(p:List (Addr×Obj)):Cx:={ X with A:=X.A.mark (some e),calm:=false,pn:=X.pn++p,xe:=λ_ _=>False }
def Inv.hIn  {j: St}(I:Inv X [] j H s)(F:∀q∈p,s.heap.get? q.1=some q.2/\H q.1=none/\q.1≠X.env.locals/\q.1∉X.fs/\∀v,q.2.data≠.cell v):Inv (X.inH e p) [] j H s:=
 ⟨⟨I.ok.mod,I.ok.kind,I.ok.glob,I.ok.blt,I.ok.above,I.ok.inj,I.ok.has,I.ok.cab,(λz=>(nomatch z)),I.ok.frames,I.ok.stk,I.ok.exf,I.ok.bs,I.ok.bsz,I.ok.noex,I.ok.exfs,I.ok.funs,I.ok.frf⟩,I.os,I.bare,I.base,I.loc,I.cell,I.free,I.freeC,
  λq y=>by
   have:q∈X.pn++p:=by simpa[Cx.inH]using y
   rcases List.mem_append.mp this with z|z
   ·exact I.pin q (YbK _ z)
   ·exact F q z,I.hok,I.len⟩
def Inv.hOut  {y: St}(ok:X.Ok)(I:Inv (X.inH e p) j y H s):Inv X [] y H s:=
 ⟨ok,I.os,I.bare,I.base,I.loc,I.cell,I.free,I.freeC,λq z=>I.pin q (by simp only[Cx.inH];simp_all),I.hok,I.len⟩
def Lies.pinned  {Y: St}(I:Inv X [] Y H s)(l:Lies X.s₀.heap.objs.size X.pn H s.heap ea cls dx):∃oe,s.heap.get? ea=some oe/\oe.cls=cls/\oe.dict=dx/\(∃vs,oe.data=.fields vs)/\
  ∀q∈[(ea,oe)],s.heap.get? q.1=some q.2/\H q.1=none/\q.1≠X.env.locals/\q.1∉X.fs/\∀v,q.2.data≠.cell v:=by
 obtain⟨oe,vs,y,O,j,hd,_⟩:=l.ob;refine⟨oe,y,O,j,⟨vs,hd⟩,λq J=>?_⟩;rw[List.mem_singleton.mp J];refine⟨y,l.hn,λz=>?_,λz=>?_,λv z=>by lia⟩
 ·obtain⟨m,⟨o,Z,ep,F,L,_⟩,_⟩:=I.loc
  lia
 ·obtain⟨_,o,F,_⟩:=I.ok.funs.mem z;exact absurd (Yan F) (Nat.not_lt.mpr l.le)
def XL  (M:Model)(A:Around)(env:Env)(R:Value->Shared->Prop):Value->Shared->Prop:=λe y=>wpAny M A (Ygh e env) (λ_ j=>wpAny M A (Yeh e none) (λ_ z=>R e z) R j) R y
def jpv      : Ydj M A env (XL M A env R):=Ye9

abbrev cx1  (P:Program)(w:World)(K:Yae)(mg:Str->Option Value)(base:Heap)(N:List Str)(j:Str)(scope:Scope)(f:Addr)(y:Value)(A:Around)(outer:List Env)(s:Shared)(H:Hp)(E:XK):Cx:=
 (cxOf (CX1 P w) P w K mg base N j scope f y A outer s H E).wish (XL (model P w) (A.deeper (envOfC j scope s.heap.objs.size f y)) (envOfC j scope s.heap.objs.size f y) λe z=>CX1 P w outer H s E e z)
def Fun.okX  {K: Yae}{st:Stmt}(F:Fun K x y st f fd)(S:FnScope N ps (jag st))(len:∀vs H Q E,sp vs H Q E->vs.length=ps.length)
  (J:∀j (A:Around) outer (s:Shared) H (vs:List V) Q E ,Room k (A.deeper (envOfC y (jag st) s.heap.objs.size f j))->sp vs H Q E->
   ∃t,PSs (cx1 P w K mg base N y (jag st) f j A outer s H E) (jao st) t/\t { nx:=λ_ H'=>Q .non H',rt:=Q } (start N vs) H):FnOk P w K mg base (CX1 P w) (k+1) f fd ps sp:=by
 obtain⟨oc,od,kV,za,pm,an,j,ct,xa,rfl,lk,O⟩:=F.ex;refine jpX lk O S len λA outer s H vs Q E hr Y=>?_;obtain⟨t,h,q⟩:=J j A outer s H vs Q E hr Y;refine⟨t,λL s1 σ H1 D I hw=>?_,q⟩;refine YaZ (h L s1 σ H1 D (I.wish _) hw) (λ_ _ q=>q.unwish) λe Z z=>?_;show wpAny _ _ (leaving _ e) _ _ Z;unfold leaving;exact Yab z
def CX1.out1  {K: Yae}{F:St} 
  (I:Inv (cx1 P w K mg base N j scope f z A outer s H E) pins F H' y) (l:Lies s.heap.objs.size [] H' y.heap ea cls dx) (q:E cls dx H'):(cx1 P w K mg base N j scope f z A outer s H E).xe (.ref ea) y:=by
 have O:Inv (cxOf (CX1 P w) P w K mg base N j scope f z A outer s H E) [] F H' y:=I.unwish.pins_of λp L=>absurd L (by simp)
 refine jkM (X:=cxOf (CX1 P w) P w K mg base N j scope f z A outer s H E) (E:=λe y=>CX1 P w outer H s E e y) O rfl rfl l λZ J Y=>?_;exact⟨ea,H',cls,dx,rfl,J.os,J.bare,J.base,J.hok,Y,q⟩
end L2

namespace L2
open PySem PySem.Spec PyProof.Rows PySem.W
open Builtin Builtin.ObjectAttr
def jee  : Ya3 (.type "ValueError") "__class__" = pure (some (.builtin "object.__class__")):=by rw[Ycn,Ybu];kernel_rfl
def jop  : Ya3 (.type "getset_descriptor") "__get__" = pure (some (.builtin "getset_descriptor.__get__")):=by rw[Ycn,Ybu];kernel_rfl
def jon  : Ya3 (.type "getset_descriptor") "__set__" = pure (some (.builtin "getset_descriptor.__set__")):=by rw[Ycn,Ybu];kernel_rfl
def jiR  : builtinKind "object.__class__" = some .getset:=by decide +kernel
noncomputable abbrev bmV  : List Value:=[.type "ValueError",.type "Exception",.type "BaseException",.type "object"]

def Two.gaClass  {J: OsState}{K:Frag}(O:K.In h)(Y:mroIn K C (.type "object")=some true)(T:Two h C N D mN mD bmB newId)(R:Reads B bmB)(y:h.get? x=some o)(j:o.cls=.ref C)(I:notCls o=true)(z:o.dict=some dx)(F:h.get? dx=some od)
  (hB:Ya3 (.type B) "__class__" = pure (some (.builtin "object.__class__"))) (n1:mN "__class__" = none) (Z:mD "__class__" = none) (L:Q (.done (.ret (.ref C))) ⟨h,g,d,t,J⟩) :
  wpAny (model prog w) A (Builtin.«object.__getattribute__» ⟨[.ref x,.str "__class__" tk],[]⟩) Q E ⟨h,g,d,t,J⟩:=by
 obtain⟨nm,q,bs,sn,xa,ab,za,dd,k0,k1,k2,k3,k5,e⟩:=T.cls;unfold Builtin.«object.__getattribute__»
 repeat (first|(with_reducible refine YaB y ?_;rw[j])|(with_reducible refine T.look hB R.mro n1 Z ?_)|wp_step)
 rw[jiR];dsimp only;rw[jop]
 repeat (first|(with_reducible refine YaB y ?_;rw[j])|wp_step)
 rw[jiR];dsimp only;rw[jon]
 repeat (first|(with_reducible refine YaB y ?_;rw[j])|wp_step)
 refine PySem.W.class_get (K:=K) O (ox:=o) (od:=some od) ⟨y,j,I,by rw[z];exact F⟩ Y ?_
 exact Yam L
def Two.cattr  {L: OsState}{K:Frag}(hK:K.In h)(Z:mroIn K C (.type "object")=some true)(T:Two h C N D mN mD bmB newId)(R:Reads B bmB)(j:h.get? x=some o)(J:o.cls=.ref C)(z:notCls o=true)(y:o.dict=some dx)(I:h.get? dx=some od)
  (hB:Ya3 (.type B) "__class__" = pure (some (.builtin "object.__class__"))) (g1:mN "__getattribute__" = none) (Y:mD "__getattribute__" = none) (a1:mN "__getattr__" = none) (a2:mD "__getattr__" = none) (O:mN "__class__" = none) (n2:mD "__class__" = none) (hq:Q (some (.ref C)) ⟨h,g,d,t+1,L⟩) :
  wpAny (model prog w) A (getAttr? (.ref x) "__class__") Q E ⟨h,g,d,t,L⟩:=by
 have f3:=R.ga.bind (.ref x);unfold getAttr? getAttrBy? getAttrBy
 repeat (any_goals (first|assumption|(with_reducible refine YaB j ?_;rw[J])|(with_reducible refine T.look R.ga.lookup R.mro g1 Y ?_)|(with_reducible refine T.look R.no R.mro a1 a2 ?_)|wp_step))
 refine YdX R.ga.plain F.entry_bexc_ga (T.gaCheck R j J (T.gaClass hK Z R j J z y I hB O n2 ?_))
 repeat (any_goals (first|assumption|wp_step))
noncomputable def jg8  : List Yeo->Option (List Str)
 |[]=>some []
 |e::r=>match e.key,jg8 r with
  |.str x _,some l=>some (x::l)
  |_,_=>none
def jeq  (K:Frag)(N:Addr):Option (List Str):=match K.lookup N with
 |some ⟨_,_,.dict es _,_⟩=>jg8 es.toList
 |_=>none
theorem jep  : ∀{es } {F },jg8 es=some F->(∀e∈es,∃n t,e.key=.str n t)/\∀x,x∉F->es.find? (λe=>e.key.isStr x)=none
 |[],_,_=>⟨λ_ h=>absurd h (by simp),λ_ _=>rfl⟩
 |e::r,F,h=>by
  unfold jg8 at h;split at h
  ·rename_i x t l hk J;cases h;obtain⟨Z,Y⟩:=jep J;refine⟨λL j=>?_,λy I=>?_⟩
   ·rcases Yap.mp j with rfl|j
    ·exact⟨_,_,hk⟩
    ·exact Z L j
   ·have O:y≠x:=λz=>I (by simp[z])
    have:e.key.isStr y=false:=by rw[hk];simp[Value.isStr,Ne.symm O]
    rw[Ya7,this];exact Y y λz=>I (by simp[z])
  ·cases h
def jnQ  {K:Frag}(e:jeq K N=some O):∃m ,(∀h,K.In h->h.Ns N m)/\(∀x,x∉O->m x=none)/\∀x v,nsIn K N x=some (some v)->m x=some v:=by
 unfold jeq at e;split at e
 ·rename_i c dd z ep sl F;obtain⟨L,Z⟩:=jep e;refine⟨nsFind z,λh Y=>⟨_,z,ep,Y _ _ F,rfl,λe I=>L e (by simpa using I),λ_=>rfl⟩,λx J=>?_,λx v j=>?_⟩
  ·unfold nsFind findBy;rw[<- YdO,Z x J];rfl
  ·unfold nsIn at j;rw[F]at j;dsimp only at j;unfold nsFind findBy;rw[<- YdO];split at j
   ·rename_i e' y;rw[y];cases j;rfl
   ·split at j<;>cases j
 ·cases e
noncomputable def offN  : List Str:=["__setattr__", "__getattribute__", "__getattr__", "__class__", "word", "at", "row"]
structure XBase (K:Frag)(mg:Str->Option Value)(D:Addr)(mD:Str->Option Value):Prop where
 m:mg "PlanError" = some (.ref D)
 kp:keepIn K (.ref D)=true
 lk:∃q ND bs hd sn sub ab col dd k0 k1 k2 k3 k5 nid,K.lookup D=some (YcX "PlanError" q D ND bs bmV hd sn sub ab col dd k0 k1 k2 k3 k5 nid)/\∀h,K.In h->h.Ns ND mD
 no:∀y∈offN,mD y=none
 ni:mD "__init__" = none
structure XCls (K:Frag)(mg:Str->Option Value)(x:Str)(fs:List Str)(C:Addr):Prop where
 m:mg x=some (.ref C)
 kp:keepIn K (.ref C)=true
 ex:∃(D N fI:Addr) (mN mD:Str->Option Value),XBase K mg D mD/\(∃q bs sn sub ab col dd k0 k1 k2 k3 k5,K.lookup C=some (YcX x q C N bs (.ref D::bmV) true sn sub ab col dd k0 k1 k2 k3 k5 "ValueError.__new__"))/\(∀h,K.In h->h.Ns N mN)/\(∀y∈offN,mN y=none)/\
  mN "__init__" = some (.ref fI)/\∃(st:Stmt) (qual:Str) (fd:YeZ),L2.Fun K "__init__" qual st fI fd/\(∃od osl,K.lookup fI=some ⟨.type "function",od,.func fd,osl⟩)/\FnScope ("self" :: fs) ("self" :: fs) (jag st)/\Binds K fd ("self" :: fs) []/\(∀y∈(("self" : Str)::fs),(jag st).names.lookup y=some .local)/\
  ((∃f p1 p2 p3 pos,fs=[f]/\jao st=[.Assign [.Attribute (.Name "self" p1) f p2] (.Name f p3) pos])\/∃f f2 p1 p2 p3 pos q1 q2 q3 qos,fs=[f,f2]/\f≠f2/\jao st=[.Assign [.Attribute (.Name "self" p1) f p2] (.Name f p3) pos,.Assign [.Attribute (.Name "self" q1) f2 q2] (.Name f2 q3) qos])
def XBase.get  {K:Frag}(B:XBase K mg D mD)(z:K.In h):∃c0 y j I,h.get? D=some { cls:=c0,dict:=y,data:=.cls j,slots:=I }/\h.Ns j.ns mD:=by
 obtain⟨q,ND,bs,hd,Z,L,ab,F,y,k0,k1,Y,k3,k5,O,J,n⟩:=B.lk;exact⟨_,_,_,_,z _ _ J,n h z⟩

def XCls.name  {K: Frag}(c:XCls K mg x fs C):∃y,clsIn K C=some y/\y.name=x/\typeIn K (.ref C)=some (.type "type")/\∃D j,XBase K mg D j/\y.mro=.ref C::.ref D::bmV:=by
 obtain⟨D,N,fI,Y,j,B,⟨q,bs,L,I,ab,F,dd,O,k1,J,k3,Z,z⟩,_⟩:=c.ex;refine⟨_,by unfold clsIn;rw[z],rfl,by show Yew (λx=>x.cls) (YbF _ K)=_;rw[z];rfl,D,j,B,rfl⟩
def XBase.nm  {K: Frag}(B:XBase K mg D mD):∃j,clsIn K D=some j/\j.name = "PlanError" /\ typeIn K (.ref D)=some (.type "type"):=by
 obtain⟨q,Z,bs,hd,L,F,ab,z,dd,O,k1,J,k3,Y,I,y,n⟩:=B.lk;exact⟨_,by unfold clsIn;rw[y],rfl,by show Yew (λx=>x.cls) (YbF _ K)=_;rw[y];rfl⟩
def jiE  {K: Frag}(c:XCls K mg x fs C)(O:XCls K mg F za J)(hp:F ≠ "PlanError"):kitOne K (.ref C) (.ref J)=some (decide (x=F)):=by
 obtain⟨cd,Y,h2,h3,D,mD,B,hm⟩:=c.name;obtain⟨xa,j,y,I,_⟩:=O.name;unfold kitOne;by_cases e:C=J
 ·subst e;rw[Y]at j;cases j;rw[if_pos (by simp),<- h2,<- y]
  simp
 ·have hx:x≠F:=λz=>by
   subst z;have:=c.m.symm.trans O.m;simp at this;exact e this
  rw[if_neg (by simpa using e)]
  unfold kitCls subIn mroIn;dsimp only;rw[j,I,Y];have hD:D≠J:=λz=>by
   subst z;obtain⟨ja,L,Z,_⟩:=B.nm;rw[j]at L;cases L;exact hp (y.symm.trans Z)
  simp[hm,hx,Ne.symm e,Ne.symm hD]
def jn4  {K: Frag}(c:XCls K mg x fs C):kitOne K (.ref C) (.type "ValueError")=some true:=by
 obtain⟨F,y,J,I,D,z,B,j⟩:=c.name;unfold kitOne;rw[if_neg (by simp)]
 unfold kitCls subIn mroIn;dsimp only;rw[if_pos (by decide +kernel),y]
 simp[j]
def jkV  : ∀f∈[("word" : Str), "at", "row"],Ya3 (.type "ValueError") f=pure none:=by
 intro f j;simp only[Yap,Yak,or_false]at j;rcases j with rfl|rfl|rfl<;>(rw[Ycn,Ybu];kernel_rfl)
noncomputable def fldN  : List Str:=["word", "at", "row"]
def jgm  : ∀f∈fldN,f∈offN:=by decide
section
variable {K:Frag}{mg:Str->Option Value}{x:Str}{fs:List Str}{C:Addr}
structure XPin (X:Cx)(ea C dx:Addr):Prop where
 ex:∃oe vs,(ea,oe)∈X.pn/\oe.cls=.ref C/\oe.dict=some dx/\oe.data=.fields vs
def Inv.xobj    {σ:St}(I:Inv X pins σ H s)(p:XPin X ea C dx)(hl:H dx=some (.xd l)) :
  ∃oe vs od mA,s.heap.get? ea=some oe/\oe.cls=.ref C/\oe.dict=some dx/\oe.data=.fields vs/\s.heap.get? dx=some od/\s.heap.Ns dx mA/\∀f,RelO (l.lookup f) (mA f):=by
 obtain⟨oe,vs,y,Z,Y,z⟩:=p.ex;obtain⟨mA,n,r⟩:=(show jaE X.prog X.w H s.heap dx (.xd l)from I.hok dx _ hl);obtain⟨od,L,O,g,j,F,_,J⟩:=n;exact⟨oe,vs,od,mA,(I.pin _ (YbK _ y)).1,Z,Y,z,g,⟨od,L,O,g,j,F,J⟩,r⟩
def XCls.two  (c:XCls K mg x fs C)(F:K.In h):∃N D j z,Two h C N D j z bmV "ValueError.__new__" /\ (∀y∈offN,j y=none/\z y=none)/\mroIn K C (.type "object")=some true:=by
 obtain⟨D,N,fI,j,z,B,⟨q,bs,sn,Z,ab,O,dd,k0,k1,k2,k3,k5,J⟩,Y,L,_⟩:=c.ex;refine⟨N,D,j,z,⟨⟨_,_,_,_,_,_,_,_,_,_,_,_,_,F _ _ J⟩,Y h F,B.get F⟩,λy I=>⟨L y I,B.no y I⟩,?_⟩;unfold mroIn clsIn;rw[J];simp
def jeW  (c:XCls K mg x fs C)(h1:oe.cls=.ref C)(h2:oe.dict=some dx)(h3:oe.data=.fields vs):KitX K (.ref ea) (.ref C) (λh=>h.get? ea=some oe/\h.get? dx=some od):=by
 have O:notCls oe=true:=by unfold notCls;rw[h3]
 refine⟨λM h j F=>?_,λM h j F=>?_,λh tp dd za n sl j ht=>?_,λ{Y w A E Q s} j F hq=>?_⟩
 ·intro A Q E s k q;obtain⟨hp,g,d,t,Z⟩:=s;have y:=k _ _ F.1;show wpAny M A (typeOf (.ref ea)) Q E _;unfold typeOf
  repeat (first|(with_reducible refine YaB y ?_;rw[h1])|wp_step)
  exact q
 ·intro A Q E s k q;obtain⟨hp,g,d,t,Z⟩:=s;obtain⟨D,N,fI,mN,mD,B,⟨q',bs,sn,I,ab,L,dd,k0,k1,k2,k3,k5,J⟩,_⟩:=c.ex;have y:=k _ _ (j _ _ J);unfold isType
  repeat (first|with_reducible refine YaB y ?_|wp_step)
  exact q
 ·obtain⟨D,N,fI,mN,mD,B,⟨q',bs,sn,I,ab,L,xa,k0,k1,k2,k3,k5,J⟩,_⟩:=c.ex;have y:=j _ _ J;by_cases z:C=tp
  ·subst z;rw[ht]at y;simp at y
  ·simpa using z
 ·obtain⟨hp,g,d,t,Z⟩:=s;obtain⟨N,D,mN,mD,T,off,hm⟩:=c.two j;have o1:=off "__getattribute__" (by decide)
  have o2:=off "__getattr__" (by decide)
  have o3:=off "__class__" (by decide)
  exact T.cattr j hm jbY F.1 h1 O h2 F.2 jee o1.1 o1.2 o2.1 o2.2 o3.1 o3.2 hq
end
section
variable {X:Cx}{mg:Str->Option Value}{x:Str}{fs:List Str}{C ea dx:Addr}
def jjh     (c:XCls X.K mg x fs C)(c':XCls X.K mg j O C')(hp:j ≠ "PlanError")(p:XPin X ea C dx):jaW X (.builtin "isinstance") (λxs H Q=>xs=[.ref ea,.ref C']/\(∃l,H dx=some (.xd l))/\Q (.bl (decide (x=j))) H):=by
 intro y s σ H xs us Q I r h;obtain⟨rfl,⟨l,hl⟩,q⟩:=h;obtain⟨u,v,rfl,ru,J⟩:=Vals.two r;cases ru;cases J;obtain⟨oe,vs,od,mA,Z,F,L,g4,Y,_⟩:=I.xobj p hl;exact kia_one (jeW c F L g4) I.kIn ⟨Z,Y⟩ (jiE c c' hp) (λz=>(nomatch z)) λtk=>⟨.bl _,H,I.tok tk,rfl,q⟩
def jjf  (c:XCls X.K mg x fs C)(p:XPin X ea C dx):jaW X (.builtin "isinstance") (λxs H Q=>xs=[.ref ea,.ty "ValueError"]/\(∃l,H dx=some (.xd l))/\Q (.bl true) H):=by
 intro j s σ H xs us Q I r h;obtain⟨rfl,⟨l,hl⟩,q⟩:=h;obtain⟨u,v,rfl,Y,F⟩:=Vals.two r;cases Y;cases F;obtain⟨oe,vs,od,mA,L,y,J,Z,O,_⟩:=I.xobj p hl;exact kia_one (jeW c y J Z) I.kIn ⟨L,O⟩ (jn4 c) (λz=>(nomatch z)) λtk=>⟨.bl true,H,I.tok tk,rfl,q⟩
inductive XMany (X:Cx)(mg:Str->Option Value):List Str->List Addr->Prop
 |nil:XMany X mg [] []
 |cons {x:Str} {fs:List Str} {C:Addr} {xs:List Str} {Cs:List Addr}:XCls X.K mg x fs C->x ≠ "PlanError" -> XMany X mg xs Cs->XMany X mg (x::xs) (C::Cs)
theorem jg7  (c:XCls X.K mg x fs C):∀{xs } {y },XMany X mg xs y->kitAny X.K (.ref C) (y.map .ref)=some (xs.contains x)
 |_,_,.nil=>rfl
 |_,_,.cons (x:=x') (C:=C') c' hp r=>by
  have j:=jiE c c' hp;have z:=jg7 c r;by_cases e:x=x'
  ·subst e;simp only[YaO,kitAny];rw[j];simp
  ·simp only[YaO,kitAny];rw[j,z];simp[e]
def jjg    (c:XCls X.K mg x fs C)(cs:XMany X mg xs j)(p:XPin X ea C dx):jaW X (.builtin "isinstance") (λas H Q=>∃tp,as=[.ref ea,.ref tp]/\H tp=some (.tup (j.map .ref))/\(∃l,H dx=some (.xd l))/\Q (.bl (xs.contains x)) H):=by
 intro O s σ H as J Q I r h;obtain⟨tp,rfl,Y,⟨l,hl⟩,q⟩:=h;obtain⟨u,v,rfl,y,rv⟩:=Vals.two r;cases y;cases rv;obtain⟨oe,vs,od,mA,g1,Z,g3,g4,g5,_⟩:=I.xobj p hl;obtain⟨z,J,y,o,t1,t2,t3,L,t5⟩:=(show jaE X.prog X.w H s.heap tp (.tup (j.map .ref))from I.hok tp _ Y);have F:J=j.map .ref:=by
  clear Y L z t5 t1 t2;generalize j=Ds at y
  induction Ds generalizing J with
  |nil=>cases y;rfl
  |cons a r ih=>
   cases y with
   |cons h1 h2=>cases h1;rw[ih _ h2];rfl
 subst F;have hk:=jg7 c cs;obtain⟨oc,xa,dt,sl⟩:=o;obtain rfl:oc=Value.type "tuple" := t2;obtain rfl:dt=Data.seq (List.map Ya1 j).toArray t3:=L;exact kia_tup (jeW c Z g3 g4) I.kIn ⟨g1,g5⟩ t1 hk (λz=>(nomatch z)) λtk=>⟨.bl _,H,I.tok tk,rfl,q⟩
def jgk    (r:RelV v u):handedOut u=pure u:=by
 cases v with
 |non=>cases r;rfl
 |bl _=>cases r;rfl
 |int _=>obtain⟨_,rfl⟩:=r;rfl
 |str _=>obtain⟨_,rfl⟩:=r;rfl
 |byt _=>obtain⟨_,rfl⟩:=r;rfl
 |flt _=>obtain⟨_,rfl⟩:=r;rfl
 |ref _=>cases r;rfl
 |ty _=>cases r;rfl
def jlJ      (c:XCls X.K mg x fs C)(p:XPin X ea C dx)(L:f∈fldN)(he:PE X e te)(hb:YcR e f X.env (eval e X.env)=eval e X.env) :
  PE X (.Attribute e f pos) (λF H Q=>te F H λv H1=>v=.ref ea/\∃l u,H1 dx=some (.xd l)/\l.lookup f=some u/\Q u H1):=by
 intro j s F H Q I h;refine jmu hb (thn (he j s F H _ I h) λu s1 ⟨v,H1,y,Z,ev,l,w,hl,J,q⟩=>?_);subst ev;cases Z;obtain⟨oe,vs,od,mA,g1,Y,g3,g4,g5,g6,g7⟩:=y.xobj p hl;obtain⟨N,D,mN,mD,T,off,hm⟩:=c.two y.kIn;obtain⟨u',hu,O⟩:=RelO.some_of (v:=w) (o:=mA f) (by rw[<- J];exact g7 f)
 have o1:=off "__getattribute__" (by decide)
 have o2:=off "__getattr__" (by decide)
 have o3:=off f (jgm f L);obtain⟨hp,gg,d,t,os⟩:=s1;exact T.get jbY g1 Y (λcd z=>by rw[g4]at z;cases z) g3 g6 hu (jgk O) (jkV f L) o1.1 o1.2 o2.1 o2.2 o3.1 o3.2 ⟨w,H1,y.tok _,O,q⟩
def jie       (c:XCls X.K mg x fs C)(z:∀f∈fs,f∈fldN)(hr:Room (k+2) X.A)(hg:Gl X x)(ja:X.mg x=some (.ref C))(ha:PA X (a0::as) t)
  (ka:(x==("__debug__" : Str))=false) (he:YaC (a0::as) X.env=(false,eval a0 X.env)::YaC as X.env) (xb:(backTo cpos (YaC as X.env)).any (·.1)=false) :
  PS X (.Raise (some (.Call (.Name x p) (a0::as) [] cpos)) none pos) (jks X C fs.length (λvs=>fs.zip vs) t):=by
 intro za s σ H D0 I h;have hK:X.K.In X.base:=I.ok.mod.kin;obtain⟨D,N,fI,mN,mD,B,⟨q,bs,sn,wb,ab,xc,dd,k0,k1,k2,k3,k5,lk⟩,hn,ho,hi,st,xa,fd,F0,⟨od,yb,ya⟩,S,hb,j,L⟩:=c.ex;obtain⟨oc,kb,kV,qc,pm,an,zb,ct,jb,rfl,vb,va⟩:=F0.ex;have T:Two X.base C N D mN mD bmV "ValueError.__new__" := ⟨⟨_,_,_,_,_,_,_,_,_,_,_,_,_,hK _ _ lk⟩,hn _ hK,B.get hK⟩;have y:mN "__setattr__" = none/\mD "__setattr__" = none:=⟨ho _ (by decide),B.no _ (by decide)⟩
 have Y:∀f∈fs,mN f=none/\mD f=none/\Ya3 (.type "ValueError") f=pure none:=λf hf=>⟨ho _ (jgm f (z f hf)),B.no _ (jgm f (z f hf)),jkV f (z f hf)⟩;have nm:∀f∈fldN,(f==("__debug__" : Str))=false/\(f==("__classdict__" : Str))=false:=by decide
 have go:∀(vs:List V) (s:Shared) (H:Hp),vs.length=fs.length->jfU X C s H (("self" : Str)::fs) xa (jag st) fI zb (jao st) vs (fs.zip vs):=by
  intro vs s H hl;rcases L with⟨f,p1,p2,p3,pos,rfl,J⟩|⟨f,f2,p1,p2,p3,pos,q1,q2,q3,qos,rfl,hne,J⟩
  ·rw[J];obtain⟨v,rfl⟩:∃v,vs=[v]:=by
    match vs,hl with
    |[v],_=>exact⟨v,rfl⟩
   have O:=Y f (by simp)
   have Z:=nm f (z f (by simp))
   exact jpO T F.store_ValueError y.1 y.2 O.1 O.2.1 O.2.2 (.inl (j _ (by simp))) (.inl (j _ (by simp))) (by decide) Z.1 (by decide) Z.2 (λ_=>rfl)
  ·rw[J];obtain⟨v,v2,rfl⟩:∃v v2,vs=[v,v2]:=by
    match vs,hl with
    |[v,v2],_=>exact⟨v,v2,rfl⟩
   have O:=Y f (by simp)
   have a2:=Y f2 (by simp)
   have Z:=nm f (z f (by simp))
   have b2:=nm f2 (z f2 (by simp))
   exact jpN T F.store_ValueError y.1 y.2 O.1 O.2.1 O.2.2 a2.1 a2.2.1 a2.2.2 hne (.inl (j _ (by simp))) (.inl (j _ (by simp))) (.inl (j _ (by simp))) (by decide) Z.1 b2.1 (by decide) Z.2 b2.2 (λ_=>rfl) (λ_=>rfl)
 have wa:fs.length<=8:=by
  rcases L with⟨f,p1,p2,p3,pos,rfl,J⟩|⟨f,f2,p1,p2,p3,pos,q1,q2,q3,qos,rfl,hne,J⟩<;>simp
 exact jjF T F.excBase_ValueError B.ni hi ya va S hr hb (by simp) wa (by decide) hg ja c.kp ha go ka he xb za s σ H D0 I h
def jhw          (c:XCls X.K mg x fs C)(B':XBase X.K mg I xa)(J:X.K.In s.heap)(Z:s.heap.get? ea=some oe)(j:oe.cls=.ref C)
  (O:Q true s):wpAny M A (excMatches (.ref ea) (.ref I)) Q E s:=by
 obtain⟨D,N,fI,mN,mD,B,⟨q,bs,sn,z,ab,F,Y,L,k1,k2,k3,k5,lk⟩,_⟩:=c.ex;have e:D=I:=by have:=B.m.symm.trans B'.m;simpa using this
 subst e;obtain⟨q,ND,bs,hd,sn,z,ab,F,Y,L,k1,k2,k3,k5,za,y,n⟩:=B.lk;obtain⟨h,g,d,t,os⟩:=s;refine jgo (J _ _ lk) (J _ _ y) Z j (by decide) ?_
 have e:(Ya1 C::.ref D::bmV).contains (.ref D)=true:=by simp
 rw[e];exact O
end
end L2

namespace L2
open PySem PySem.Spec PyProof.Rows

end L2

namespace L2
open PySem PySem.Spec PyProof.Rows

end L2

namespace L2
open PySem PySem.Spec PyProof.Rows PySem.W

def jp6  (o:Obj)(q:Str):Prop:=∃j t,o.data=.fields j/\j[1]?=some (.str q t)
noncomputable abbrev frzC  (o:Obj):HO:=.frz o (.ext λ_=>True)
def joL  (H:Hp)(P:Addr)(pos:Pos)(q:Str):Prop:=
 H P=some (.tbl #[])\/∃c j,H P=some (.tbl #[rawInt pos.line,rawInt pos.col,.ref c])/\H c=some (frzC j)/\jp6 j q
def BmAt  (mg:Str->Option Value)(base:Heap):Prop:=∃y j,mg "__builtins__" = some (.ref y)/\y≠YdS/\base.get? y=some j/\j.cls=.type "module" /\ j.dict=some YdS/\j.data=.plain

def jkg  (tb:List Addr)(H:Hp):Prop:=∀b,if b∈tb then H b=some (.tbl #[]) else H b=none\/∃o j,H b=some (.frz o (.lst j))
def law_callT    {K:Yae}{CX:CXT}{k:Nat}{x:Str}{sp:Sp} 
  (kb:(K.all λp=>p.2.cls != .type "list")=true) (Z:∀b∈tb,j.heap.get? b=some (tabObj #[])/\isCodeTable j.heap b/\K.lookup b=none) (jb:BmAt mg j.heap)
  (KX:K.In j.heap) (wa:∃o,K.lookup Ya6=some o/\o.cls=.type "dict") (xa:j.heap.Ns YaJ mg) (hb:j.heap.Ns YdS mb) (wb:∀x:Str,x ≠ "__name__" -> mb x=YbS x) (ya:j.heap.NoLimit) (hg:j.gens=#[])
  (ha:j.heap.get? a=some { cls:=.type "list",data:=.seq vs.toArray }) (hi:IntsAre vs ns) (hl:ns.length<=Yai) (hr:Room k callerA)
  (F:∀base ,K.In base->base.Ns YaJ mg->BmAt mg base->FnOk P w K mg base CX k fa fd [x] sp) (Y:∀(s:Shared) u ,BindsTo s fd ⟨[u],[]⟩ [(x,u)])
  (yb:∀H (o:Obj),jkg tb H->H a=some (.frz o (.lst (ns.map V.int)))->sp [.ref a] H (λv _=>v=.bl true) λ_ _ _=>False)
  (zb:∀H e O,CX [] H j (λ_ _ _=>False) e O->False) :
  codeAny (model P w) callerA (.call (.ref fa) ⟨[.ref a],[]⟩) (λr O=>r=.ok (.ret (.bool true))/\OldK j.heap O.heap/\O.os=j.os/\AllBare O.gens) j:=by
 have ka:K.lookup a=none:=by
  cases hk:K.lookup a with
  |none=>rfl
  |some o=>
   have e:=KX a o hk;rw[ha]at e;cases e;have:=List.all_eq_true.mp kb (a,_) (mem_of_lookupK hk)
   lia
 let oa:Obj:={ cls:=.type "list",data:=.seq vs.toArray }
 have qc:a∉tb:=λz=>by
  simp_all
 obtain⟨H,hH⟩:∃H:Hp,H=λb=>if b∈tb then some (.tbl #[]) else if b=a then some (.frz oa (.lst (ns.map V.int))) else none:=⟨_,rfl⟩
 have H1:∀{b},b∈tb->H b=some (.tbl #[]):=λhb=>by lia
 have H2:H a=some (.frz oa (.lst (ns.map V.int))):=by
  lia
 have H3:∀{b},b∉tb->b≠a->H b=none:=λ{b} y J=>by
  lia
 clear hH;have va:∀{b:Addr} {o:Obj},j.heap.get? b=some o->o.cls≠.none->(∀xs n,o.data≠.seq xs n)->H b=none:=λ{b o} e y J=>by
  refine H3 (λz=>?_) λz=>?_
  ·grind
  grind
 have xb:HOk P w H j.heap:=λb u e=>by
  by_cases y:b∈tb
  ·rw[H1 y]at e;cases e;exact(Z b y).1
  ·by_cases J:b=a
   ·subst J;rw[H2]at e;cases e;exact⟨ha,by simp_all,vs,_,je9 hi,ha⟩
   simp_all
 have I:∀{b:Addr} {m:Str->Option Value},j.heap.Ns b m->(hidT j.heap H).Ns b m:=λ{b m} ⟨o,es,ep,e,d,r⟩=>by
  refine⟨o,es,ep,jeY e (H3 (λz=>?_) λz=>?_),d,r⟩
  ·grind
  lia
 have za:K.In (hidT j.heap H):=λb o e=>jeY (KX b o e) (H3 (λz=>by grind) λz=>by lia)
 have hM:Mod K mg (hidT j.heap H):=⟨za,I xa,⟨mb,I hb,wb⟩,let ⟨mc,y,J⟩:=ya;⟨mc,I y,J⟩,wa⟩
 have vb:BmAt mg (hidT j.heap H):=by
  obtain⟨bm,ob,b1,b2,b3,b4,b5,b6⟩:=jb;exact⟨bm,ob,b1,b2,jeY b3 (va b3 (by lia) (by lia)),b4,b5,b6⟩
 have e0:Env0 P w K mg (hidT j.heap H) callerA [] j H:=⟨rfl,hM,λb o e=>jlZ e,Yec (jiQ _ _),trivial,λb hb=>(nomatch hb),xb,.of_eq hg⟩;have only:jkg tb H:=λb=>by
  grind
 refine YdF ((F _ za (I xa) vb).run callerA [] j H ⟨[.ref a],[]⟩ [.ref a] [.ref a] _ _ hr e0 (Y j (.ref a)) (.cons rfl .nil) (yb H oa only H2)) λr O h=>?_
 match r,h with
 |.error e,h=>exact(zb H e O h).elim
 |.ok (.ret u),h=>
  obtain⟨v,H',os,bare,un,L,r',q⟩:=h;have q':v=.bl true:=q;subst q';obtain rfl:u=Yez true:=r';refine⟨rfl,⟨λb o e=>?_,λb o e=>un.there b o e (by simp)⟩,os,bare⟩
  by_cases y:b∈tb
  ·obtain⟨e1,ht,_⟩:=Z b y;rw[e]at e1;cases e1;obtain⟨ja,e2⟩:=un.tbls b _ (H1 y);exact .inr (.inl ⟨ht,rfl,#[],ja,rfl,L b _ e2⟩)
  ·by_cases J:b=a
   ·subst J;obtain⟨e2,_⟩:=L b _ (un.frzs b _ _ H2);rw[ha]at e;cases e;exact .inl e2
   ·exact .inl (un.keep b o e (H3 y J) (by intro z;exact(nomatch z)) (by simp))
def walk_ofT  {l:Yd7}{K:Params->Yae}{CX:World->CXT}{sp:World->Sp}{tbs:List (Str×Addr×Addr)}
  (ya:∀w:World,((K w.params).all λp=>p.2.cls != .type "list")=true) (ja:∀(w:World),∀t∈tbs,(∃dr,(recsOf q).find? (λe=>e.name==t.1)=some dr)/\tabIn (K w.params) t.1=some (t.2.1,t.2.2)/\(K w.params).lookup t.2.2=none)
  (hn:l.most=some n) (Z:n<=Yai) (xa:d.params.defaults=[]) (hr:Room k callerA)
  (hY:∀(w:World) (h:Heap),YP w h->(K w.params).In h) (za:∀w:World,∃o,(K w.params).lookup Ya6=some o/\o.cls=.type "dict")
  (F:∀(w:World) mg J (h:Heap),(K w.params).In h->h.Ns YaJ mg->mg d.name=some (.ref J)->
   ∃fd ,(∀(s:Shared) u ,BindsTo s fd ⟨[u],[]⟩ [(x,u)])/\
    ∀base ,(K w.params).In base->base.Ns YaJ mg->BmAt mg base->FnOk l.prog w (K w.params) mg base (CX w) k J fd [x] (sp w))
  (va:∀(w:World) H (o:Obj) a (ns:List Int),ns.length<=n->jkg (tbs.map (·.2.2)) H->H a=some (.frz o (.lst (ns.map V.int)))->sp w [.ref a] H (λv _=>v=.bl true) λ_ _ _=>False)
  (O:∀(w:World) H (s:Shared) (e:Value) s' ,CX w [] H s (λ_ _ _=>False) e s'->False) :
  Ygn q loose XP YP l.row.toRowW d [] (λf vs=>YfP f vs):=by
 refine Att.attach_call hn xa λw wa z mg mb J o pm cd ha a vs ns G Y ho hd ka L I y j hg=>?_;have kx:=hY w _ Y;obtain⟨fd,hb,hF⟩:=F w mg J _ kx G.T.g L;refine law_callT (tb:=tbs.map (·.2.2)) (ya w) (λb hb=>?_) ?_ kx (za w) G.T.g G.T.b G.T.builtins G.T.nolimit hg I y (Yaf j Z) hr hF hb (λH o hO hS=>va w H o a ns j hO hS) λH e s'=>O w H z e s'
 ·obtain⟨t,ht,rfl⟩:=List.mem_map.mp hb;obtain⟨⟨dr,h1⟩,h2,h3⟩:=ja w t ht;obtain⟨c1,c2⟩:=tab_of G.T kx h1 h2;exact⟨c2,(c1.tab c2).isCodeTable,h3⟩
 ·obtain⟨bm,ob,b1,b2,b3,b4,b5,b6⟩:=G.T.bmain;exact⟨bm,ob,b1,b2,b3,b4,b5,b6⟩
end L2

namespace L2
open PySem PySem.Spec PyProof.Rows
open Sem (wp)
open AutoSeq1 (wpAny_loadPart')

def je6  {s: Shared}(I:s.heap.IsList l items)
  (h:∀h',IsEnum h' (s.heap.objs.size+1) s.heap.objs.size 0 .none->h'.IsListIter s.heap.objs.size l 0->(∀b o,s.heap.get? b=some o->h'.get? b=some o)->Q (.ref (s.heap.objs.size+1)) { s with heap:=h' }) :
  wpAny (model prog w) A (call (.type "enumerate") [.ref l]) Q E s:=by
 have j:∀(p:Heap) (n:Nat) (o:Obj),p.objs.size=n->o.isFreed=false->(p.push o).get? n=some o:=λp n o e f=>by
  subst e;exact Yay p f
 have sz:=λo=>YdB s.heap o;refine Ygl F.called_enumerate (by decide) (YfF _) (YfX _) (λy=>YdM y _) YfY (jcM (.ref l) _) ⟨λ_ _ _ _ _ q=>Yde I q,?_⟩
 rw[sz];have z:=j _ _ ⟨.type "enumerate",none,.fields #[.none,.bool false,.ref s.heap.objs.size,rawInt 0,.none,.none],#[]⟩ (sz ⟨.type "list_iterator",none,.fields #[.ref l,.int 0 0],#[]⟩) rfl;exact⟨⟨_,z,rfl⟩,h _ z ⟨_,Yad _ (j _ _ _ rfl rfl),rfl,rfl⟩ λb o x=>Yad _ (Yad _ x)⟩

def Itf  (K:Yae)(a:Addr):It:=
 ⟨λi H=>∃j x,SqL K H a j/\j[i]?=some x,λi H y z=>∃x p,(∀j,SqL K H a j->j[i]?=some x)/\y=.ref p/\H p=none/\z=upd H p (.tup [.int (i:Int),x]),λi H=>∃j,SqL K H a j/\j.length=i⟩
def jhq    {K:Yae} a e it (ya:e≠it)(vb:a≠e)(za:a≠it) :
  Turn P w K (.Tuple zb x1 pos) (Itf K a) [e,it] e (λi h=>(∃z,IsEnum h e it (i:Int) z)/\h.IsListIter it a i) where
 mem:=by simp
 obj:=λi h st b J=>by
  obtain⟨⟨z,L⟩,o,ho,c,d⟩:=st
  grind
 keep:=λi h h' st k=>by
  obtain⟨⟨z,L⟩,o,ho,r⟩:=st;exact⟨⟨z,k e (by simp) _ L⟩,o,k it (by simp) _ ho,r⟩
 item:=by
  intro X hP hw hK hc i j s σ H E I hf st hg;subst hP hw hK;obtain⟨xs,x,hq,hx⟩:=hg;obtain⟨F,rv,p,hz⟩:=I.list hq;obtain⟨u,hu,ru⟩:=rv.get hx;obtain⟨⟨z,L⟩,Y⟩:=st;have ha:i<F.toArray.size:=by
   grind
  refine YfI (YeU (A:=X.A.in1) (I.ok.hd hc) it a za F.toArray) L ⟨Y,p.isList⟩ ha ya (by grind) λZ h' tk hP ho wa hT jb hk=>?_
  refine⟨_,rfl,Yfd ho λh2 ka ja=>?_⟩;have ex:Z=u:=by
   simp_all
  subst ex;have xb:H s.heap.objs.size=none:=I.hok.fresh (Yac _);have xa:e≠s.heap.objs.size:=YaD (Yan L);have va:it≠s.heap.objs.size:=by obtain⟨o,O,_⟩:=Y;exact YaD (Yan O)
  have I1:Inv X j σ (upd H s.heap.objs.size (.tup [.int (i:Int),x])) { s with heap:=s.heap.push { cls:=.type "tuple",data:=.seq #[.int i tk,Z] },toks:=tk+1 }:=by
   refine I.laid (λb o y=>Yad _ y) (Yac _) ⟨by show 2<=Yai;decide,[.int i tk,Z],.cons ⟨tk,rfl⟩ (.cons ru .nil),TupD.new _ _⟩
  have fpU:∀b,b≠s.heap.objs.size->FpOk X j H b->FpOk X j (upd H s.heap.objs.size (.tup [.int (i:Int),x])) b:=λb J f=>⟨by rw[jad J];exact f.1,f.2⟩
  have kk:∀b o,b≠e->b≠it->(s.heap.push { cls:=.type "tuple",data:=.seq #[.int i tk,Z] }).get? b=some o->h2.get? b=some o:=λb o be bi y=>by
   have step:h'.get? b=some o:=by
    by_cases J:b=s.heap.objs.size
    ·subst J;rw[hT];exact(Yay s.heap (o:={ cls:=.type "tuple",data:=.seq #[.int i tk,Z] }) rfl).symm.trans y
    ·rw[Ygb _ _ _ J]at y
     simp_all
   exact(ja.2 b be).trans step
  have I2:Inv X j σ (upd H s.heap.objs.size (.tup [.int (i:Int),x])) { s with heap:=h2,toks:=tk+1 }:=
   jhS (s:={ s with heap:=s.heap.push { cls:=.type "tuple",data:=.seq #[.int i tk,Z] },toks:=tk+1 }) (h':=h2) (t':=tk+1) (e:=e) (it:=it) I1 kk (fpU e xa (hf e (by simp))) (fpU it va (hf it (by simp)))
  refine⟨.ref s.heap.objs.size,_,I2,rfl,⟨x,_,λys hy=>by rw[I.list_inj hy hq];exact hx,rfl,xb,rfl⟩,⟨⟨_,by simpa using ka⟩,?_⟩,λb J=>?_⟩
  ·obtain⟨o,O,r⟩:=wa.1;exact⟨o,(ja.2 it (Ne.symm ya)).trans O,r⟩
  ·simp only[Yap,Yak,or_false]at J;rcases J with rfl|rfl
   ·rw[jad xa];exact(hf _ (by simp)).1
   ·rw[jad va];exact(hf _ (by simp)).1
 done:=by
  intro X hP hw hK hc i j s σ H E I hf st hg;subst hP hw hK;obtain⟨xs,hq,hx⟩:=hg;obtain⟨F,rv,p,hz⟩:=I.list hq;obtain⟨⟨z,L⟩,Y⟩:=st;have hl:F.toArray.size=i:=by rw[Yao,<- rv.length];exact hx
  refine Yf3 (YeU (A:=X.A.in1) (I.ok.hd hc) it a za F.toArray) L ⟨by lia,p.isList⟩ λh' eb=>⟨rfl,?_⟩
  obtain⟨f0,f1,f2,f3,f4,f5⟩:=hf it (by simp)
  exact I.turned (t':=s.toks) (λb o J y=>eb b o J y) f0 f1 f3 f4 f5
 self:=λA i s Q E st h=>by
  obtain⟨⟨z,L⟩,_⟩:=st;exact Ydf L h
section
variable {X:Cx}
def jol  (K:Yae)(z:TA):TI:=λF H R=>z F H λy H1=>∃a,y=[.ref a]/\(((∃j,H1 a=some (.tup j))/\R (Ite K a) H1)\/((∃j,SqL K H1 a j)/\R (Itf K a) H1))
def jjJ {l:Expr}{ta:TA}{p pos Y:Pos}{O:List Expr}{x1}(hg:Gl X "enumerate")(hm:X.mg "enumerate" = none)(ha:PA X [l] ta)(hs:YaC [l] X.env=[(false,eval l X.env)]:=by rfl) :
  PI X (.Tuple O x1 Y) (.Call (.Name "enumerate" p) [l] [] pos) (jol X.K ta):=by
 intro z s σ H R I h;refine Call_ (jdU I hg hm boot_enumerate (Ybq (thn (ha pos z s σ H _ I h) λus s1 ⟨vs,H1,y,r1,q1⟩=>?_) hs rfl));obtain⟨a,e,q⟩:=q1;subst e;obtain⟨u,rfl,rx⟩:=jcV r1;cases rx;have fp:∀b∈[s1.heap.objs.size+1,s1.heap.objs.size],FpOk X z H1 b:=λb hb=>by
  simp only[Yap,Yak,or_false]at hb;rcases hb with rfl|rfl
  ·exact y.fpOk (YdJ _) (y.hok.fresh (YdJ _))
  ·exact y.fpOk (Yac _) (y.hok.fresh (Yac _))
 rcases q with⟨⟨xs,Z⟩,q⟩|⟨⟨xs,Z⟩,q⟩
 ·obtain⟨J,rv,t,hz⟩:=y.tuple (SqT.of Z);have j:a<s1.heap.objs.size:=by obtain⟨o,ho,_⟩:=t;exact Yan ho
  exact je5 (items:=J.toArray) t λh' L F hk=>Ydf L ⟨_,_,_,_,H1,rfl,y.kept (t':=s1.toks) hk,jhU a _ _ (Nat.succ_ne_self _) (YaD (Ygo j)) (YaD j),⟨⟨_,L⟩,F⟩,fp,q⟩
 ·obtain⟨J,rv,t,hz⟩:=y.list Z;have j:a<s1.heap.objs.size:=by obtain⟨o,ho,_⟩:=t.isList;exact Yan ho
  exact je6 (items:=J.toArray) t.isList λh' L F hk=>Ydf L ⟨_,_,_,_,H1,rfl,y.kept (t':=s1.toks) hk,jhq a _ _ (Nat.succ_ne_self _) (YaD (Ygo j)) (YaD j),⟨⟨_,L⟩,F⟩,fp,q⟩
end
end L2

namespace L2
open PySem PySem.Spec PyProof.Rows

def jim  : OpR X (YaX .LtE) (λx y H Q=>∃i j,x=.str i/\y=.str j/\Q (.bl (!decide (j.cps.toList<i.cps.toList))) H):=by
 intro z s O H x y v u Q I J F h;obtain⟨i,j,rfl,rfl,q⟩:=h;obtain⟨t,rfl⟩:=J;obtain⟨L,rfl⟩:=F;exact PySem.P.le_str (jaq I q rfl)
def je4  : jaW X (.type "int") (λxs H Q=>∃z n,xs=[.str z]/\PySem.intText? z=some n/\z.length<=640/\Q (.int n) H):=by
 intro j s O H xs L Q I r h;obtain⟨z,n,rfl,J,F,q⟩:=h;obtain⟨u,rfl,y⟩:=jcV r;obtain⟨t,rfl⟩:=y;exact PySem.W.KIN.call_text J F ⟨.int n,H,I.tok _,⟨_,rfl⟩,q⟩
end L2

namespace L2
open PySem PySem.Spec PyProof.Rows Builtin Builtin.Str

end L2

namespace L2
open PySem PySem.Spec PyProof.Rows
section
variable {prog:Program}{w:World}{K:Type}[DecidableEq K]{knd:KeyKind prog w K}{A:Around}{E:Value->Shared->Prop}{s:Shared}
end



end L2

namespace L2
open PySem PySem.Spec PyProof.Rows
open Sem (wp)


end L2

namespace L2
open PySem PySem.Spec PyProof.Rows PySem.W


end L2

namespace L2
open PySem PySem.Spec PyProof.Rows

def jiA  : Ya3 (.type "list") "keys" = pure none:=by rw[Ycn,Ybu];kernel_rfl
def jiF    (g:s.heap.get? a=some { cls:=.type "list",dict:=none,data:=.seq xs k,slots:=y })(j:A.handled=none)
  (q:∀h' tk e,Heap.NewAttrErr s.heap h' e (.ref a) "keys" -> E (.ref e) { s with heap:=h',toks:=tk }):wpAny (model prog w) A (call (.builtin "list.__getattribute__") [.ref a,.str "keys" u]) Q E s:=
 YcF F.slot_list_getattribute (show s.TypeIs (.ref a) "list" from⟨_,g,rfl⟩) am_entry_list_getattribute (F.args_list_getattribute_2 _ _) (meets_getattribute_miss_list a xs k y "keys" u jiA (by decide)) ⟨g,j,q⟩
def jl1   (g:s.heap.get? a=some { cls:=.type "list",dict:=none,data:=.seq xs k,slots:=O })(z:A.handled=none)
  (q:∀h' tk,(∀b o,s.heap.get? b=some o->h'.get? b=some o)->Q none { s with heap:=h',toks:=tk }):wpAny (model prog w) A (getAttr? (.ref a) "keys") Q E s:=by
 obtain⟨h0,y,L,t0,I⟩:=s;have j:∀n,(⟨h0,y,L,n,I⟩:Shared).TypeIs (.ref a) "list" := λ_=>⟨_,g,rfl⟩;obtain⟨z1,Z,Y,z4⟩:=And.intro sub_AttributeError (And.intro F.slot_list_getattribute.lookup (And.intro (F.slot_list_getattribute.bind (.ref a)) am_list_getattr_none));simp only[getAttr?,getAttrBy?,getAttrBy]
 repeat any_goals first|assumption|exact j _|(refine jiF g z λh' J e x=>?_;obtain⟨_,_,there⟩:=x.there)|wp_step
 exact q _ _ x.keeps
def jdX  : entryFor table "dict.update.loop" = some Builtin.«dict.update.loop»:=entryFor_of_tree (by kernel_rfl)
def jbc  : plainId "dict.update.loop" = true:=by decide +kernel
section
variable {X:Cx}{pins:List (Addr×Obj)}{σ:St}{H:Hp}{s:Shared}
def jdm  (l:List (List Key×V)):List (List Key×V):=l.foldl (λj y=>putK j y.1 y.2) []
def jmx  (H:Hp)(v:V)(p:List Key×V):Prop:=∃t b,v=.ref t/\H t=some (.tup [.ref b,p.2])/\H b=some (.tup (p.1.map kV))
def jgV  (l:List (List Key×V)):(jdm l).length<=l.length:=by
 have:∀(l j:List (List Key×V)),(l.foldl (λj y=>putK j y.1 y.2) j).length<=j.length+l.length:=λl=>by
  induction l with
  |nil=>intro j;exact Yac _
  |cons p r z=>
   intro j;have I:=z (putK j p.1 p.2);have F:=jbQ j p.1 p.2;rw[YaU,Yeq]
   lia
 have:=this l [];simpa[jdm]using this
def jn3     (ok:HOk P w H h)(r:KT H l m):∀x∈m,(Yco (jam P w)).is h x.1 x.2.1:=by
 induction r with
 |nil=>exact λx j=>nomatch j
 |@cons p y _ _ e _ z=>
  intro x j;rcases Yap.mp j with rfl|j
  ·exact jdf ok (e.1 ▸ e.2.1)
  ·exact z x j
def jc5    {h h':Heap}(z:h.DictOfH (Yco (jam P w)) d xs)(e:∀o,h.get? d=some o->h'.get? d=some o)
  (i:∀x∈xs,(Yco (jam P w)).is h' x.1 x.2.1):h'.DictOfH (Yco (jam P w)) d xs:=let ⟨o,y,j,g,q1,q2,q3,_,n⟩:=z;⟨o,y,j,e o g,q1,q2,q3,i,n⟩
theorem jfF   {d it l:Addr}(I:Inv X pins σ H s)(hh:A.handled=none)(hu:A.units+3<cLine)(rv:Vals vs items.toList)(gl:s.heap.IsList l items)
  (hl:ps.length=vs.length) (hp:∀(j:Nat) p,ps[j]?=some p->∃v,vs[j]?=some v/\jmx H v p) (hd:s.heap.objs.size<=d) (hi:s.heap.objs.size<=it) (y:d≠it) (big:ps.length<=Yai) :
  ∀n i (h:Heap) tk xs ,ps.length-i=n->i<=ps.length->(∀b o,s.heap.get? b=some o->h.get? b=some o)->h.IsListIter it l i->h.DictOfH (Yco (jam X.prog X.w)) d xs->KT H (jdm (ps.take i)) xs->
   (∀h' ka O,(∀b o,s.heap.get? b=some o->h'.get? b=some o)->h'.DictOfH (Yco (jam X.prog X.w)) d O->KT H (jdm ps) O->R (.ok (.ret .none)) { s with heap:=h',toks:=ka })->
   codeAny (model X.prog X.w) A (.builtin "dict.update.loop" ⟨[.ref d,.ref it,.int i 0,.none],[]⟩) R { s with heap:=h,toks:=tk }
 |n,i,h,tk,xs,hn,hle,kp,st,dd,rel,q=>by
  have F:∀{b:Addr} {o:Obj},s.heap.get? b=some o->b≠d/\b≠it:=λe=>⟨YaD (Yar (Yan e) hd),YaD (Yar (Yan e) hi)⟩;have len:items.size=ps.length:=by rw[hl,rv.length,YcL]
  have xa:h.IsList l items:=let ⟨o,e,r⟩:=gl;⟨o,kp _ _ e,r⟩
  have J:∀{R:Result->Shared->Prop} {s:Shared},wpAny (model X.prog X.w) A.in1 (Builtin.«dict.update.loop» ⟨[.ref d,.ref it,.int i 0,.none],[]⟩) (λwa s'=>match wa with|.done f=>R (.ok f) s'|.again c'=>c'.quiet=true/\codeAny (model X.prog X.w) A c' R s') (λe s'=>R (.error e) s') s->
    codeAny (model X.prog X.w) A (.builtin "dict.update.loop" ⟨[.ref d,.ref it,.int i 0,.none],[]⟩) R s:=λz=>codeAny_builtin jdX ((Around.under_plainId jbc _).symm ▸ z)
  refine J (Yab (m:=pyNext (.ref it)) ?_)
  match n,hn with
  |0,hn=>
   have e:i=ps.length:=by lia
   subst e;refine Ygf hh st xa (by simp[len]) λh' sb=>?_
   refine Yab (Yam (Yam ?_));have Z:∀b o,s.heap.get? b=some o->h'.get? b=some o:=λb o e=>sb b o (F e).2 (kp b o e);rw[Ybr]at rel;exact q h' tk _ Z (jc5 dd (λo e=>sb d o y e) (jn3 (I.kept (t':=tk) Z).hok rel)) rel
  |n+1,hn=>
   have lt:i<ps.length:=by lia
   obtain⟨v,ev,t,b,rfl,gt,gb⟩:=hp i _ (Yah lt);obtain⟨u,eu,ru⟩:=rv.get ev;cases ru;refine Yf2 st xa (x:=.ref t) (by rw[<- Ydk];exact eu) λh1 st1 L=>?_
   have Y:∀b o,s.heap.get? b=some o->h1.get? b=some o:=λb o e=>L.extBut b o (F e).2 (kp b o e);have I1:=I.kept (t':=tk) Y;obtain⟨zb,r2,⟨o2,e2,c2,m2,d2⟩,z2⟩:=I1.tuple (.of gt);obtain⟨w,rfl,xb⟩:∃w,zb=[.ref b,w]/\RelV (ps[i]).2 w:=by
    cases r2 with
    |cons r r'=>
     cases r;cases r' with
     |cons q q'=>cases q';exact⟨_,rfl,q⟩
   have ty:({ s with heap:=h1,toks:=tk }:Shared).TypeIs (.ref t) "tuple" := ⟨_,e2,c2⟩
   have ha:=jc5 dd (λo e=>L.extBut d o y e) (jn3 I1.hok rel);have pl:=jgV (ps.take i);have xl:xs.length<=Yai:=by rw[<- Yc2 rel];rw[YaT]at pl;lia
   have put:jdm (ps.take (i+1))=putK (jdm (ps.take i)) (ps[i]).1 (ps[i]).2:=by
    rw[List.take_add_one,Yah lt];unfold jdm;rw[Option.toList_some,Yd1];rfl
   dsimp only;refine Yab (YbH (Yab (m:=Sem.tryCatch _ _) (wpAny_tryCatch ?_)));unfold Builtin.Dict.pairItems;refine Yab (YcK ty ?_);rw[if_pos (by decide)]
   refine Yab (wpAny_seqItems e2 d2 (Yam ?_));refine YbH (wpAny_dictSet_heap (hsz:=xl) (Yb9 (by lia)) (jdf I1.hok gb) ha λh2 va ja=>Yam ⟨plainId_quiet jbc _,?_⟩)
   have ya:∀b o,s.heap.get? b=some o->h2.get? b=some o:=λb o e=>ja.extBut b o (F e).1 (Y b o e);have st2:h2.IsListIter it l (i+1):=st1.extBut ja.extBut (Ne.symm y);have za:KT H (jdm (ps.take (i+1))) (storedH xs (ps[i]).1 b w):=by rw[put];exact rel.put _ gb xb
   exact jfF I hh hu rv gl hl hp hd hi y big n (i+1) h2 _ _ (by lia) lt ya st2 va za q
end

def jhK  (hc:X.calm=true)(hu:X.A.units+6<cLine):jaW X (.type "dict") (λxs H Q=>∃(l:Addr) (vs:List V) (ps:List (List Key×V)),xs=[.ref l]/\SqL X.K H l vs/\ps.length=vs.length/\(∀(j:Nat) p,ps[j]?=some p->∃v,vs[j]?=some v/\jmx H v p)/\∀d,H d=none->Q (.ref d) (upd H d (.dT (jdm ps)))):=by
 intro ya s σ H xs us Q I r h;obtain⟨l,vs,ps,rfl,hq,hl,hp,q⟩:=h;obtain⟨u,rfl,rx⟩:=jcV r;cases rx;obtain⟨J,rv,pl,hz⟩:=I.list hq;obtain⟨⟨c0,dc,dt,sl⟩,Y,g0,rfl,rfl,rfl⟩:=id pl;have lz:=Yan g0;refine callType_codes (Q₁:=λv s1=>v=.ref s.heap.objs.size/\s1={ s with heap:=s.heap.push { cls:=.type "dict",data:=.dict #[] } }) F.kt_called_dict (F.kt_typeCall_dict_1 _) PySem.F.entry_dict_init (kt_code_dict_new _ ⟨rfl,rfl⟩) ?_
 rintro _ _ ⟨rfl,rfl⟩;have nw:(s.heap.push { cls:=.type "dict",data:=.dict #[] }).DictOfH (Yco (jam X.prog X.w)) s.heap.objs.size []:=Heap.DictOfH.new s.heap;refine⟨nw.typeIs,F.args_dict_init_2 _ _,?_⟩;unfold Builtin.«dict.__init__»;refine Yab ?_;unfold Builtin.Dict.selfAndRest;refine Yab (wpAny_notOrdered_dict nw.typeIs (Yam ?_));refine(?_:wpAny _ _ (Yd3 "dict.__init__" s.heap.objs.size (.ref l) [] .none) _ _ _);have Z:(s.heap.push { cls:=.type "dict",data:=.dict #[] }).get? l=some { cls:=.type "list",dict:=none,data:=.seq J.toArray Y,slots:=sl }:=Yad _ g0;unfold Yd3;refine Yab (YcK (show Shared.TypeIs _ (.ref l) "list" from⟨_,Z,rfl⟩) ?_);rw[if_pos (by decide)]
 refine Yab (jl1 Z (I.ok.hd hc) λh1 wa y=>?_);rw[if_pos (show(none:Option Value).isNone=true from rfl)];have lI:h1.IsList l J.toArray:=⟨_,y _ _ Z,rfl,Y,rfl⟩;have ld:s.heap.objs.size<h1.objs.size:=Yan (y _ _ (Yay s.heap rfl));refine Yab (YdP (Yab (Yde lI (Yam ⟨plainId_quiet jbc _,?_⟩))));have O:∀b o,s.heap.get? b=some o->(h1.push { cls:=.type "list_iterator",data:=.fields #[.ref l,.int 0 0] }).get? b=some o:=λb o e=>Yad _ (y _ _ (Yad _ e));have ll:ps.length<=Yai:=by rw[hl];exact hz
 have nf:H s.heap.objs.size=none:=I.hok.fresh (Yac _);refine jfF (A:=X.A.in1) I (I.ok.hd hc) (by rw[Around.in1_units];lia) (by simpa using rv) ⟨_,g0,rfl,Y,rfl⟩ hl hp (Yac _) (Yb6 ld) (YaD ld) ll ps.length 0 _ _ [] (by simp) (YaF _) O
  ⟨_,Yay _ rfl,rfl,rfl⟩ (jc5 nw (λo e=>Yad _ (y _ _ e)) λx hx=>nomatch hx) .nil λh' za xa ja va L=>⟨rfl,?_⟩
 obtain⟨o,es,ep,go,q1,q2,q3,_,q5⟩:=va;have hs:(s.heap.objs.size==Ya6)=false:=by
  have:=I.big;exact beq_eq_false_iff_ne.mpr (Nat.ne_of_gt this)
 refine⟨.ref s.heap.objs.size,_,I.laid (t':=za) (o:=.dT (jdm ps)) ja (Yac _) ⟨Yaf (jgV ps) ll,hs,xa,L.keeps λc ys ec=>?_,o,es,ep,go,q1,q2,q3,q5⟩,rfl,q _ nf⟩;rw[jad λz=>?_]
 ·exact ec
 ·rw[z,nf]at ec;cases ec
end L2

namespace Z
open PySem L2
inductive U where
 |non|bl (b:Bool)|int (i:Int)|str (x:Str)|tup (xs:List U)|loc (a:Addr)|fn (n:Nat)|ty (n:String)
 |exc (c:Nat) (fs:List U)|own (n:Nat)|clo (n:Nat) (cs:List U)
inductive MO where
 |lst (xs:List U)|fro (xs:List U)|dK (kvs:List (Key×U))|dT (kvs:List (List Key×U))|frd (o:Obj) (kvs:List (List Key×U))|frk (o:Obj) (kvs:List (Key×U))
abbrev Gp:=Addr->Option MO
noncomputable def gup  (G:Gp)(a:Addr)(o:MO):Gp:=λb=>if b=a then some o else G b
structure New (G:Gp)(p:Addr)(o:MO)(G':Gp):Prop where
 no:G p=none
 eq:G'=gup G p o
structure Put (G:Gp)(a:Addr)(o:MO)(G':Gp):Prop where
 eq:G'=gup G a o
structure XV where
 c:Nat
 fs:List U
abbrev Sg:=List (Option U)
abbrev K1:=U->Gp->Prop
abbrev KX:=XV->Gp->Prop
def newO  (G:Gp)(o:MO)(Q:K1):Prop:=∀p j,New G p o j->Q (.loc p) j
def putO  (G:Gp)(a:Addr)(o:MO)(Q:Gp->Prop):Prop:=∀j,Put G a o j->Q j
def newO.at     (h:newO G o Q):∀p,G p=none->Q (.loc p) (gup G p o):=λp j=>h p _ ⟨j,rfl⟩
def putO.at      (h:putO G a o Q):Q (gup G a o):=h _ ⟨rfl⟩
structure En where
 nx:Sg->Gp->Prop
 rt:K1
 ex:XV->Sg->Gp->Prop
noncomputable def lsG  (G:Gp)(a:Addr):Option (List U):=match G a with
 |some (.lst xs)=>some xs
 |some (.fro xs)=>some xs
 |_=>none
noncomputable def kU  : U->Option Key
 |.int i=>some (.inl i)
 |.str x=>some (.inr x)
 |_=>none
noncomputable def kUs  : List U->Option (List Key)
 |[]=>some []
 |u::r=>match kU u,kUs r with
  |some k,some ks=>some (k::ks)
  |_,_=>none
noncomputable def Ku  : Key->U
 |.inl i=>.int i
 |.inr x=>.str x
section
variable {κ α:Type}[DecidableEq κ]
noncomputable def dGet (kvs:List (κ×α))(k:κ):Option α:=(kvs.find? λj=>decide (j.1=k)).map (·.2)
noncomputable def dPut (kvs:List (κ×α))(k:κ)(v:α):List (κ×α):=
 if (kvs.any λj=>decide (j.1=k))=true then kvs.map (λj=>if j.1=k then (j.1,v) else j) else kvs++[(k,v)]
def jcv (j:List (κ×α)):List (κ×α):=j.foldl (λy z=>dPut y z.1 z.2) []
end
def cut  {j:Type}(xs:List j)(lo hi:Option Int):List j:=(xs.drop (HT.sIx xs.length 0 lo)).take (HT.sIx xs.length xs.length hi-HT.sIx xs.length 0 lo)
mutual
inductive DU (G:Gp):U->PyData->Prop
 |non:DU G .non .none
 |bl (b:Bool):DU G (.bl b) (.bool b)
 |int (i:Int):DU G (.int i) (.int i)
 |str (x:Str):DU G (.str x) (.str x)
 |tup {us:List U} {ds:List PyData}:DUs G us ds->DU G (.tup us) (.tuple ds)
 |lst {a:Addr} {us:List U} {ds:List PyData}:lsG G a=some us->DUs G us ds->DU G (.loc a) (.list ds)
 |dic {a:Addr}:G a=some (.dK [])->DU G (.loc a) (.dict [])
inductive DUs (G:Gp):List U->List PyData->Prop
 |nil:DUs G [] []
 |cons {u:U} {d:PyData} {us:List U} {ds:List PyData}:DU G u d->DUs G us ds->DUs G (u::us) (d::ds)
end
def addU  : U->U->Gp->K1->Prop
 |.int i,.int j,G,Q=>Q (.int (i+j)) G
 |.str x,.str y,G,Q=>x.length+y.length<=Yai/\Q (.str (x++y)) G
 |.tup F,.tup z,G,Q=>F.length+z.length<=Yai/\Q (.tup (F++z)) G
 |.loc a,.loc b,G,Q=>∃F z,G a=some (.lst F)/\G b=some (.lst z)/\F.length+z.length<=Yai/\newO G (.lst (F++z)) Q
 |.bl b,.int j,G,Q=>Q (.int ((if b=true then (1:Int) else 0)+j)) G
 |_,_,_,_=>False
def subU  : U->U->Gp->K1->Prop
 |.int i,.int j,G,Q=>Q (.int (i-j)) G
 |.bl b,.int j,G,Q=>Q (.int ((if b=true then (1:Int) else 0)-j)) G
 |.int i,.bl b,G,Q=>Q (.int (i-if b=true then (1:Int) else 0)) G
 |_,_,_,_=>False
def mulU  : U->U->Gp->K1->Prop
 |.int i,.int j,G,Q=>CMul i j/\Q (.int (i*j)) G
 |.loc a,.int k,G,Q=>∃y,G a=some (.lst y)/\-(2 ^ 63)<=k/\k<2 ^ 63/\y.length*k.toNat<=Yai/\newO G (.lst (Yag k.toNat y).flatten) Q
 |_,_,_,_=>False
def jou  : U->U->Gp->K1->Prop
 |.int i,.int j,G,Q=>0<j/\j<1073741824/\Q (.int (i/j)) G
 |_,_,_,_=>False
def modU  : U->U->Gp->K1->Prop
 |.int i,.int j,G,Q=>0<j/\Q (.int (i%j)) G
 |_,_,_,_=>False
def powU  : U->U->Gp->K1->Prop
 |.int i,.int j,G,Q=>CPow i j/\Q (.int (i ^ j.toNat)) G
 |_,_,_,_=>False
def binU  : Yen->U->U->Gp->K1->Prop
 |.Add=>addU
 |.Sub=>subU
 |.Mult=>mulU
 |.FloorDiv=>jou
 |.Mod=>modU
 |.Pow=>powU
 |_=>λ_ _ _ _=>False
def jjW  : Yen->U->U->Gp->K1->Prop
 |.Add,.int i,.int j,G,Q=>Q (.int (i+j)) G
 |.Add,.str x,.str y,G,Q=>x.length+y.length<=Yai/\Q (.str (x++y)) G
 |.Sub,.int i,.int j,G,Q=>Q (.int (i-j)) G
 |.Mult,.int i,.int j,G,Q=>CMul i j/\Q (.int (i*j)) G
 |_,_,_,_,_=>False
def negU  : U->Gp->K1->Prop
 |.int i,G,Q=>Q (.int (-i)) G
 |_,_,_=>False
def Small  (d:PyData):Prop:=d.canLay0=true/\d.depth<=100
noncomputable def eqU  : U->U->Gp->(Bool->Prop)->Prop
 |.non,.non,_,k=>k true
 |.non,.bl _,_,k=>k false
 |.non,.int _,_,k=>k false
 |.non,.str _,_,k=>k false
 |.bl _,.non,_,k=>k false
 |.bl a,.bl b,_,k=>k (decide (a=b))
 |.bl _,.str _,_,k=>k false
 |.int _,.non,_,k=>k false
 |.int i,.int j,_,k=>k (decide (i=j))
 |.int _,.str _,_,k=>k false
 |.str _,.non,_,k=>k false
 |.str _,.bl _,_,k=>k false
 |.str _,.int _,_,k=>k false
 |.str x,.str y,_,k=>k (decide (x=y))
 |x,y,G,k=>∃d e,DU G x d/\DU G y e/\Small d/\Small e/\k (YaK d e)
def eqQ  : U->U->Gp->(Bool->Prop)->Prop
 |.loc a,.str y,G,k=>(∃z,G a=some (.dK z)/\k false)\/(∃j,G a=some (.lst j)/\k false)\/eqU (.loc a) (.str y) G k
 |.tup j,.tup [],_,k=>k j.isEmpty
 |.tup _,.str _,_,k=>k false
 |x,y,G,k=>eqU x y G k
noncomputable def flat  : U->Bool
 |.non|.bl _|.int _|.str _=>true
 |_=>false
noncomputable def eqF  : U->U->Bool
 |.non,.non=>true
 |.bl a,.bl b=>a==b
 |.bl a,.int b=>(if a then 1 else 0)==b
 |.int a,.bl b=>a==(if b then 1 else 0)
 |.int a,.int b=>a==b
 |.str a,.str b=>a==b
 |_,_=>false
def inU  : U->U->Gp->(Bool->Prop)->Prop
 |.str x,.str y,_,k=>k (!(Ycp y x 0 y.length 1).isEmpty)
 |.tup z,.tup ys,G,k=>∃d j,DU G (.tup z) d/\DUs G ys j/\Small d/\(∀e∈j,Small e)/\k (j.any λe=>YaK e d)
 |x,.tup ys,_,k=>flat x=true/\ys.all flat=true/\k (ys.any λy=>eqF y x)
 |x,.loc a,G,k=>match G a with
  |some (.lst ys)=>(flat x=true/\ys.all flat=true/\k (ys.any λy=>eqF y x))\/
    ∃d j,DU G x d/\DUs G ys j/\Small d/\(∀e∈j,Small e)/\k (j.any λe=>YaK e d)
  |some (.fro ys)=>flat x=true/\ys.all flat=true/\k (ys.any λy=>eqF y x)
  |some (.dK kvs)=>match kU x with
   |some y=>k (dGet kvs y).isSome
   |none=>False
  |some (.dT kvs)=>match x with
   |.tup z=>match kUs z with
    |some y=>k (dGet kvs y).isSome
    |none=>False
   |_=>False
  |some (.frk _ kvs)=>match kU x with
   |some y=>k (dGet kvs y).isSome
   |none=>False
  |_=>False
 |_,_,_,_=>False
def ordU  : CmpOp->U->U->(Bool->Prop)->Prop
 |.Lt,.int i,.int j,k=>k (decide (i<j))
 |.LtE,.int i,.int j,k=>k (decide (i<=j))
 |.LtE,.str x,.str y,k=>k (!decide (y.cps.toList<x.cps.toList))
 |.Gt,.int i,.int j,k=>k (decide (j<i))
 |.GtE,.int i,.int j,k=>k (decide (j<=i))
 |_,_,_,_=>False
def cmpU  : CmpOp->U->U->Gp->(Bool->Prop)->Prop
 |.Eq,x,y,G,k=>eqQ x y G k
 |.NotEq,x,y,G,k=>eqU x y G λb=>k (!b)
 |.Is,_,_,_,_=>False
 |.IsNot,_,_,_,_=>False
 |.In,x,y,G,k=>inU x y G k
 |.NotIn,x,y,G,k=>inU x y G λb=>k (!b)
 |o,x,y,_,k=>ordU o x y k
def truU  : U->Gp->(Bool->Prop)->Prop
 |.non,_,k=>k false
 |.bl b,_,k=>k b
 |.int i,_,k=>k (i != 0)
 |.str x,_,k=>x.length<=Yai/\k ((x.length:Int) != 0)
 |.tup xs,_,k=>k (!xs.isEmpty)
 |.loc a,G,k=>match G a with
  |some (.lst xs)=>k (!xs.isEmpty)
  |some (.fro xs)=>k (!xs.isEmpty)
  |some (.dK kvs)=>k (!kvs.isEmpty)
  |_=>False
 |_,_,_=>False
def ixU  : U->U->Gp->K1->Prop
 |.tup xs,.int i,G,Q=>match atI xs i with
  |some u=>Q u G
  |none=>False
 |.str x,.int i,G,Q=>x.length<=Yai/\match atI x.cps.toList i with
  |some c=>Q (.str ⟨#[c]⟩) G
  |none=>False
 |.loc a,y,G,Q=>match G a with
  |some (.lst xs)=>(match y with|.int i=>(match atI xs i with|some u=>Q u G|none=>False)|_=>False)
  |some (.fro xs)=>(match y with|.int i=>(match atI xs i with|some u=>Q u G|none=>False)|_=>False)
  |some (.dK kvs)=>(match kU y with|some k=>(match dGet kvs k with|some u=>Q u G|none=>False)|none=>False)
  |some (.dT kvs)=>(match y with|.tup ys=>(match kUs ys with|some k=>(match dGet kvs k with|some u=>Q u G|none=>False)|none=>False)|_=>False)
  |some (.frk _ kvs)=>(match kU y with|some k=>(match dGet kvs k with|some u=>Q u G|none=>False)|none=>False)
  |_=>False
 |_,_,_,_=>False
def slU  : U->Option Int->Option Int->Gp->K1->Prop
 |.tup j,lo,hi,G,Q=>Q (.tup (cut j lo hi)) G
 |.str x,lo,hi,G,Q=>x.length<=Yai/\Q (.str (Yfl x lo hi)) G
 |.loc a,lo,hi,G,Q=>match lsG G a with
  |some j=>newO G (.lst (cut j lo hi)) Q
  |none=>False
 |_,_,_,_,_=>False
def revU  : U->U->Gp->K1->Prop
 |.tup j,.int i,G,Q=>i=-1/\Q (.tup j.reverse) G
 |.loc a,.int i,G,Q=>match lsG G a with
  |some j=>(i=1\/i=-1)/\newO G (.lst (if i=1 then j else j.reverse)) Q
  |none=>False
 |_,_,_,_=>False
def setU  : U->U->U->Gp->(Gp->Prop)->Prop
 |.loc a,y,v,G,Q=>match G a with
  |some (.lst xs)=>(match y with|.int i=>(match ixN xs.length i with|some j=>putO G a (.lst (xs.set j v)) Q|none=>False)|_=>False)
  |some (.dK kvs)=>(match kU y with|some k=>kvs.length<Yai/\putO G a (.dK (dPut kvs k v)) Q|none=>False)
  |some (.dT kvs)=>(match y with|.tup ys=>(match kUs ys with|some k=>kvs.length<Yai/\putO G a (.dT (dPut kvs k v)) Q|none=>False)|_=>False)
  |_=>False
 |_,_,_,_,_=>False
inductive Blt|len|repr|min|max|sum|all|any|sorted|int|str|isi
 deriving DecidableEq
inductive Mth|append|extend|insert|pop|reverse|index|join|get|split|setd
 deriving DecidableEq
noncomputable def jf0  : List U->Option (List Str)
 |[]=>some []
 |.str x::r=>(match jf0 r with|some l=>some (x::l)|none=>none)
 |_=>none
noncomputable def jd9  : List U->Option (List Bool)
 |[]=>some []
 |.bl x::r=>(match jd9 r with|some l=>some (x::l)|none=>none)
 |_=>none
noncomputable def tyN  : U->Gp->Option String
 |.non,_=>some "NoneType"
 |.bl _,_=>some "bool"
 |.int _,_=>some "int"
 |.str _,_=>some "str"
 |.tup _,_=>some "tuple"
 |.loc a,G=>match G a with
  |some (.lst _)=>some "list"
  |some (.dK _)=>some "dict"
  |some (.dT _)=>some "dict"
  |_=>none
 |_,_=>none
def isiU  (x:U)(G:Gp)(t:String):Option Bool:=match tyN x G with
 |some n=>if t∈["bool", "int", "str", "list", "tuple", "dict"] then some (n==t||(n == "bool" && t == "int")) else none
 |none=>none
def lenU  : List U->Gp->K1->Prop
 |[.tup xs],G,Q=>Q (.int xs.length) G
 |[.str x],G,Q=>x.length<=Yai/\Q (.int x.length) G
 |[.loc a],G,Q=>(match G a with
  |some (.lst xs)=>Q (.int xs.length) G
  |some (.fro xs)=>Q (.int xs.length) G
  |some (.dK kvs)=>Q (.int kvs.length) G
  |_=>False)
 |_,_,_=>False
def jjy  : List U->Gp->K1->Prop
 |[u],G,Q=>∃d,DU G u d/\Fits 16000000 60 d/\Q (.str d.shown) G
 |_,_,_=>False
def minU  : List U->Gp->K1->Prop
 |[.int i,.int j],G,Q=>Q (.int (if j<i then j else i)) G
 |_,_,_=>False
def maxU  : List U->Gp->K1->Prop
 |[.int i,.int j],G,Q=>Q (.int (if j>i then j else i)) G
 |_,_,_=>False
def allU  : List U->Gp->K1->Prop
 |[.loc a],G,Q=>(match G a with
  |some (.lst xs)=>(match jd9 xs with|some bs=>Q (.bl (bs.all id)) G|none=>False)
  |_=>False)
 |_,_,_=>False
def intU  : List U->Gp->K1->Prop
 |[.int i],G,Q=>Q (.int i) G
 |[.bl b],G,Q=>Q (.int (if b then 1 else 0)) G
 |[.str z],G,Q=>∃n,PySem.intText? z=some n/\z.length<=640/\Q (.int n) G
 |_,_,_=>False
def strU  : List U->Gp->K1->Prop
 |[.int i],G,Q=>i.natAbs.log2<1920/\Q (.str (toString i:String)) G
 |[.bl b],G,Q=>Q (.str (if b=true then ("True" : Str) else "False")) G
 |_,_,_=>False
def jhC  : List U->Gp->K1->Prop
 |[x,.ty t],G,Q=>(match isiU x G t with|some b=>Q (.bl b) G|none=>False)
 |_,_,_=>False
def mkPU  : U->Gp->K1->Prop
 |.loc a,G,Q=>(match G a with
  |some (.lst us)=>∃j:List (List Key×U),us=j.map (λp=>U.tup [.tup (p.1.map Ku),p.2])/\newO G (.dT (jcv j)) Q
  |_=>False)
 |_,_,_=>False
def bltU  : Blt->List U->Gp->K1->Prop
 |.len=>lenU
 |.repr=>jjy
 |.min=>minU
 |.max=>maxU
 |.sum=>λ_ _ _=>False
 |.all=>allU
 |.any=>λ_ _ _=>False
 |.sorted=>λ_ _ _=>False
 |.int=>intU
 |.str=>strU
 |.isi=>jhC
def jgz  : U->List U->Gp->K1->Prop
 |.loc a,[v],G,Q=>(match G a with
  |some (.lst xs)=>xs.length<Yai/\putO G a (.lst (xs++[v])) (Q .non)
  |_=>False)
 |_,_,_,_=>False
def jgn  : U->List U->Gp->K1->Prop
 |.loc a,[.loc b],G,Q=>(match G a,G b with
  |some (.lst xs),some (.lst ys)=>xs.length+ys.length<=Yai/\putO G a (.lst (xs++ys)) (Q .non)
  |_,_=>False)
 |_,_,_,_=>False
def popU  : U->List U->Gp->K1->Prop
 |.loc a,[],G,Q=>(match G a with
  |some (.lst xs)=>(match xs[xs.length-1]? with|some v=>putO G a (.lst xs.dropLast) (Q v)|none=>False)
  |_=>False)
 |.loc a,[.int i],G,Q=>(match G a with
  |some (.lst xs)=>-(2 ^ 63)<=i/\i<2 ^ 63/\(match Yei i xs.length with
   |some k=>(match xs[k]? with|some v=>putO G a (.lst (xs.eraseIdx k)) (Q v)|none=>False)
   |none=>False)
  |_=>False)
 |_,_,_,_=>False
def jma  : U->List U->Gp->K1->Prop
 |.str z,[.loc a],G,Q=>(match G a with
  |some (.lst xs)=>(match jf0 xs with|some ys=>z.length<=16/\(ys.map (·.length)).sum+ys.length<=1048576/\Q (.str (Ycc z ys)) G|none=>False)
  |_=>False)
 |_,_,_,_=>False
def getU  : U->List U->Gp->K1->Prop
 |.loc a,[y,d],G,Q=>(match G a with
  |some (.dK kvs)=>(match kU y with
   |some k=>Q ((dGet kvs k).getD d) G
   |none=>False)
  |some (.dT kvs)=>∃k:List Key,y=.tup (k.map Ku)/\Q ((dGet kvs k).getD d) G
  |_=>False)
 |_,_,_,_=>False
def jbh  : Mth->U->List U->Gp->K1->Prop
 |.append=>jgz
 |.extend=>jgn
 |.insert=>λ_ _ _ _=>False
 |.pop=>popU
 |.reverse=>λ_ _ _ _=>False
 |.index=>λ_ _ _ _=>False
 |.join=>jma
 |.get=>getU
 |.split=>λ_ _ _ _=>False
 |.setd=>λ_ _ _ _=>False
noncomputable def mtU  : Mth->U->Gp->Option (String×String)
 |.append,x,G=>(match x with|.loc a=>(match G a with|some (.lst _)=>some ("list", "list.append")|_=>none)|_=>none)
 |.extend,x,G=>(match x with|.loc a=>(match G a with|some (.lst _)=>some ("list", "list.extend")|_=>none)|_=>none)
 |.insert,_,_=>none
 |.pop,x,G=>(match x with|.loc a=>(match G a with|some (.lst _)=>some ("list", "list.pop")|_=>none)|_=>none)
 |.reverse,_,_=>none
 |.index,_,_=>none
 |.join,x,_=>(match x with|.str _=>some ("str", "str.join")|_=>none)
 |.get,x,G=>(match x with|.loc a=>(match G a with|some (.dK _)=>some ("dict", "dict.get")|some (.dT _)=>some ("dict", "dict.get")|_=>none)|_=>none)
 |.split,_,_=>none
 |.setd,_,_=>none
noncomputable def clsA  : List (Str×List Str):=[("PlanError",[]),("NoPaper",["word", "at"]),("TooMany",["word"]),("NoRing",["word"]),("NoText",["row", "word"]),("NoRow",["row"])]
def clsN  (c:Nat):Str:=(clsA.getD c ("",[])).1
def clsF  (c:Nat):List Str:=(clsA.getD c ("",[])).2
inductive HL where
 |is1 (c:Nat)|isi (cs:List Nat)|isiV|v (i:Nat)
inductive HA where
 |str (x:Str)|att (f:Str)
inductive HV where
 |cond (k:Bool) (a:Bool×HL) (as:List (Bool×HL))|one (a:HA)|bl (b:Bool)|tup (as:List HA)|lst (as:List HA)
inductive HS where
 |asg (i:Nat) (e:HV)|ifa (k:Bool) (a:Bool×HL) (as:List (Bool×HL)) (i:Nat) (e:HV)
section
variable (x:XV)
noncomputable def litH (y:Sg):HL->Option Bool
 |.is1 c=>some (decide (x.c=c))
 |.isi j=>some (j.contains x.c)
 |.isiV=>some true
 |.v i=>match y[i]? with
  |some (some (.bl b))=>some b
  |_=>none
def lit1 (j:Sg)(p:Bool×HL):Option Bool:=match litH x j p.2 with
 |some b=>some (if p.1=true then !b else b)
 |none=>none
noncomputable def jcB (j:Sg)(k:Bool):Bool×HL->List (Bool×HL)->Option Bool
 |a,[]=>lit1 x j a
 |a,b::r=>match lit1 x j a with
  |some t=>if t=k then jcB j k b r else some t
  |none=>none
def atH:HA->Option U
 |.str y=>some (.str y)
 |.att f=>((clsF x.c).zip x.fs).lookup f
noncomputable def atsH:List HA->Option (List U)
 |[]=>some []
 |a::r=>match atH x a,atsH r with
  |some u,some us=>some (u::us)
  |_,_=>none
def hvH (y:Sg):HV->Gp->K1->Prop
 |.cond k a as,G,Q=>match jcB x y k a as with
  |some b=>Q (.bl b) G
  |none=>False
 |.one a,G,Q=>match atH x a with
  |some u=>Q u G
  |none=>False
 |.bl b,G,Q=>Q (.bl b) G
 |.tup as,G,Q=>match atsH x as with
  |some j=>Q (.tup j) G
  |none=>False
 |.lst as,G,Q=>match atsH x as with
  |some j=>newO G (.lst j) Q
  |none=>False
def hsH:List HS->Sg->Gp->(Sg->Gp->Prop)->Prop
 |[],ς,G,k=>k ς G
 |.asg i e::r,ς,G,k=>hvH x ς e G λu j=>hsH r (ς.set i (some u)) j k
 |.ifa q a as i e::r,ς,G,k=>match jcB x ς q a as with
  |some true=>hvH x ς e G λu j=>hsH r (ς.set i (some u)) j k
  |some false=>hsH r ς G k
  |none=>False
end
mutual
inductive Tg where
 |n (i:Nat)|t (ts:Tgs)
inductive Tgs where
 |nil|cons (t:Tg) (ts:Tgs)
end
mutual
inductive E where
 |v (i:Nat)|non|bl (b:Bool)|int (i:Int)|str (x:Str)|g (n:Nat)|bin (o:Yen) (a b:E)|neg (a:E)|not (a:E)|bop (k:Bool) (a:E) (es:Es)|cmp (o:CmpOp) (a b:E)|cmp2 (o p:CmpOp) (a b c:E)|tup (es:Es)|lst (es:Es)|dic (es:Es)|dicT|ix (a b:E)|sl (a:E) (lo hi:Eo)|rev (a st:E)|call (n:Nat) (es:Es)|blt (b:Blt) (es:Es)|meth (m:Mth) (o:E) (es:Es)|ty (n:String)|lc (pick:List (Option Nat)) (t:Tg) (it:It) (ifs:Es) (e:E)|lc2 (pick:List (Option Nat)) (t:Tg) (it:It) (ifs:Es) (t2:Tg) (it2:It) (ifs2:Es) (e:E)|mkL (e:E)|mkT (e:E)|rngL (a:E)|mkP (e:E)
inductive Eo where
 |no|so (e:E)
inductive Es where
 |nil|cons (e:E) (es:Es)
inductive It where
 |e (e:E)|r1 (e:E)|enum (e:E)
end
mutual
inductive S where
 |expr (e:E)|asg (t:Tg) (e:E)|asgC (i:Nat) (e:E)|setS (o i e:E)|par (is:List Nat) (es:Es)|aug (i:Nat) (o:Yen) (e:E)|ite (c:E) (a b:Ss)|fr (t:Tg) (it:It) (b:Ss)|wh (c:E) (b:Ss)|ret (e:E)|raise (c:Nat) (es:Es)|tr (b:Ss) (c:Nat) (n:Nat) (h:List HS)
inductive Ss where
 |nil|cons (s:S) (ss:Ss)
end
mutual
noncomputable def tgU:Tg->U->Sg->(Sg->Prop)->Prop
 |.n i,u,ς,k=>k (ς.set i (some u))
 |.t ts,u,ς,k=>match u with
  |.tup j=>tgsU ts j ς k
  |_=>False
noncomputable def tgsU:Tgs->List U->Sg->(Sg->Prop)->Prop
 |.nil,us,ς,k=>us=[]/\k ς
 |.cons t ts,us,ς,k=>match us with
  |[]=>False
  |u::r=>tgU t u ς λj=>tgsU ts r j k
end
abbrev Cl:=Nat->List U->Gp->K1->KX->Prop
def slot  (j:Sg)(i:Nat)(k:U->Prop):Prop:=match j[i]? with
 |some (some u)=>k u
 |_=>False
noncomputable def jbM  (pick:List (Option Nat))(y:Sg):Sg:=pick.map λo=>o.bind λj=>(y[j]?).join
def jcR  (ok:Gp->Prop)(b:U->Gp->(Option U->Gp->Prop)->Prop):List U->List U->Gp->(List U->Gp->Prop)->Prop
 |[],acc,G,k=>ok G/\k acc G
 |x::xs,acc,G,k=>ok G/\b x G λo j=>jcR ok b xs (match o with|some u=>acc++[u]|none=>acc) j k
def jgt  (ok:Gp->Prop)(b:U->List U->Gp->(List U->Gp->Prop)->Prop):List U->List U->Gp->(List U->Gp->Prop)->Prop
 |[],acc,G,k=>ok G/\k acc G
 |x::xs,acc,G,k=>ok G/\b x acc G λj y=>jgt ok b xs j y k
def forL  (ok:Gp->Prop)(b:U->Sg->Gp->(Sg->Gp->Prop)->Prop):List U->Sg->Gp->(Sg->Gp->Prop)->Prop
 |[],ς,G,k=>ok G/\k ς G
 |x::xs,ς,G,k=>ok G/\b x ς G λj y=>forL ok b xs j y k
noncomputable def rngU  (i:Int)(n:Nat):List U:=(YaA n).map λk:Nat=>.int (i+k)
noncomputable def jc4  : Nat->List U->List U
 |_,[]=>[]
 |n,u::r=>.tup [.int n,u]::jc4 (n+1) r
def itU  : U->Gp->(List U->(Gp->Prop)->Prop)->Prop
 |.tup j,_,k=>k j λ_=>True
 |.loc a,G,k=>match lsG G a with
  |some j=>k j λy=>lsG y a=some j
  |none=>False
 |_,_,_=>False
def enI  : U->Gp->(List U->(Gp->Prop)->Prop)->Prop
 |.tup j,_,k=>k (jc4 0 j) λ_=>True
 |.loc a,G,k=>match lsG G a with
  |some j=>k (jc4 0 j) λy=>lsG y a=some j
  |none=>False
 |_,_,_=>False
def fpU  : U->(Str->Prop)->Prop
 |.str z,k=>z.length<=10000/\k z
 |.int i,k=>i.natAbs.log2<1920/\k (toString i:String)
 |_,_=>False
def glU  (j:List U)(n:Nat)(k:U->Prop):Prop:=match j[n]? with
 |some u=>k u
 |none=>False
abbrev UE:=Sg->Gp->K1->KX->Prop
abbrev UT:=Sg->Gp->(Bool->Gp->Prop)->KX->Prop
abbrev UA:=Sg->Gp->(List U->Gp->Prop)->KX->Prop
def truT  (t:UE):UT:=λy G Q X=>t y G (λx j=>truU x j λb=>Q b j) X
noncomputable abbrev tp  (t:UE):UE×UT:=(t,truT t)
noncomputable def comb  : Bool->UE×UT->UE×UT->UE×UT
 |true,p,q=>(λy G Q X=>p.1 y G (λx j=>truU x j λc=>if c=true then q.1 y j Q X else Q x j) X,λy G Q X=>p.2 y G (λc j=>if c=true then q.2 y j Q X else Q false j) X)
 |false,p,q=>(λy G Q X=>p.1 y G (λx j=>truU x j λc=>if c=true then Q x j else q.1 y j Q X) X,λy G Q X=>p.2 y G (λc j=>if c=true then Q true j else q.2 y j Q X) X)
section
variable (gs:List U)(Δ:Cl)
mutual
noncomputable def den:E->UE×UT
 |.v i=>tp λF G Q _=>slot F i λu=>Q u G
 |.non=>tp λ_ G Q _=>Q .non G
 |.bl b=>tp λ_ G Q _=>Q (.bl b) G
 |.int i=>tp λ_ G Q _=>Q (.int i) G
 |.str x=>tp λ_ G Q _=>Q (.str x) G
 |.g n=>tp λ_ G Q _=>glU gs n λu=>Q u G
 |.bin o a b=>tp λF G Q X=>(den a).1 F G (λx I=>(den b).1 F I (λy J=>binU o x y J Q) X) X
 |.neg a=>tp λF G Q X=>(den a).1 F G (λx I=>negU x I Q) X
 |.not a=>(λF G Q X=>(den a).1 F G (λx I=>truU x I λb=>Q (.bl (!b)) I) X,
   λF G Q X=>(den a).2 F G (λb I=>Q (!b) I) X)
 |.bop k a O=>denB k (den a) O
 |.cmp o a b=>tp λF G Q X=>(den a).1 F G (λx I=>(den b).1 F I (λy J=>cmpU o x y J λc=>Q (.bl c) J) X) X
 |.cmp2 o p a b c=>tp λF G Q X=>(den a).1 F G (λx I=>(den b).1 F I (λy J=>cmpU o x y J λt=>if t=true then (den c).1 F J (λz Y=>cmpU p y z Y λt'=>Q (.bl t') Y) X else Q (.bl false) J) X) X
 |.tup O=>tp λF G Q X=>jbg O F G (λL I=>L.length<=Yai/\Q (.tup L) I) X
 |.lst O=>tp λF G Q X=>jbg O F G (λL I=>L.length<=Yai/\newO I (.lst L) Q) X
 |.dic O=>tp λF G Q X=>denD O F G (λja I=>ja.length<=15/\newO I (.dK (jcv ja)) Q) X
 |.dicT=>tp λ_ G Q _=>newO G (.dT []) Q
 |.ix a b=>tp λF G Q X=>(den a).1 F G (λx I=>(den b).1 F I (λy J=>ixU x y J Q) X) X
 |.sl a lo hi=>tp λF G Q X=>(den a).1 F G (λx I=>denO lo F I (λl J=>denO hi F J (λh Y=>slU x l h Y Q) X) X) X
 |.rev a b=>tp λF G Q X=>(den a).1 F G (λx I=>(den b).1 F I (λy J=>revU x y J Q) X) X
 |.call n O=>tp λF G Q X=>jbg O F G (λL I=>Δ n L I Q X) X
 |.blt b O=>tp λF G Q X=>jbg O F G (λL I=>bltU b L I Q) X
 |.meth m o O=>tp λF G Q X=>(den o).1 F G (λx I=>match mtU m x I with
   |some _=>jbg O F I (λL J=>jbh m x L J Q) X
   |none=>False) X
 |.ty n=>tp λ_ G Q _=>Q (.ty n) G
 |.lc pick t it za e=>tp λF G Q X=>denI it F G (λZ ok I=>Z.length<=Yai/\jcR ok (λx J k=>tgU t x (jbM pick F) λτ=>denC za τ J (λb Y=>if b=true then (den e).1 τ Y (λu G4=>k (some u) G4) (λ_ _=>False) else k none Y)) Z [] I
   λL G5=>newO G5 (.lst L) Q) X
 |.lc2 pick t it za t2 wa ya e=>tp λF G Q X=>denI it F G (λZ ok I=>jgt ok (λx xa J k=>tgU t x (jbM pick F) λτ=>denC za τ J (λb Y=>if b=true then denI wa τ Y (λys ka G4=>xa.length+ys.length<=Yai/\jcR ka (λy G5 k5=>tgU t2 y τ λva=>denC ya va G5 (λb2 G6=>if b2=true then (den e).1 va G6 (λu G7=>k5 (some u) G7) (λ_ _=>False) else k5 none G6)) ys xa G4 k) (λ_ _=>False) else k xa Y)) Z [] I
   λL G5=>newO G5 (.lst L) Q) X
 |.mkP e=>tp λF G Q X=>(den e).1 F G (λx I=>mkPU x I Q) X
 |.mkL e=>tp λF G Q X=>(den e).1 F G (λx I=>itU x I λZ _=>newO I (.lst Z) Q) X
 |.mkT e=>tp λF G Q X=>(den e).1 F G (λx I=>itU x I λZ _=>Q (.tup Z) I) X
 |.rngL e=>tp λF G Q X=>(den e).1 F G (λx I=>match x with
   |.int j=>0<=j/\j<=1000000/\newO I (.lst (rngU 0 j.toNat)) Q
   |_=>False) X
noncomputable def denB (k:Bool)(p:UE×UT):Es->UE×UT
 |.nil=>p
 |.cons e j=>comb k p (denB k (den e) j)
noncomputable def denC:Es->Sg->Gp->(Bool->Gp->Prop)->Prop
 |.nil,_,G,Q=>Q true G
 |.cons e es,ς,G,Q=>(den e).2 ς G (λb j=>if b=true then denC es ς j Q else Q false j) (λ_ _=>False)
noncomputable def denO:Eo->Sg->Gp->(Option Int->Gp->Prop)->KX->Prop
 |.no,_,G,Q,_=>Q none G
 |.so e,ς,G,Q,X=>(den e).1 ς G (λx j=>match x with|.int i=>Q (some i) j|_=>False) X
noncomputable def jbg:Es->Sg->Gp->(List U->Gp->Prop)->KX->Prop
 |.nil,_,G,Q,_=>Q [] G
 |.cons e es,ς,G,Q,X=>(den e).1 ς G (λx z=>jbg es ς z (λy j=>Q (x::y) j) X) X
noncomputable def denF:Es->Sg->Gp->(List Str->Gp->Prop)->KX->Prop
 |.nil,_,G,Q,_=>Q [] G
 |.cons e es,ς,G,Q,X=>(den e).1 ς G (λx F=>fpU x λz=>denF es ς F (λy j=>Q (z::y) j) X) X
noncomputable def denD:Es->Sg->Gp->(List (Key×U)->Gp->Prop)->KX->Prop
 |.nil,_,G,Q,_=>Q [] G
 |.cons e (.cons f es),ς,G,Q,X=>(den e).1 ς G (λx I=>(den f).1 ς I (λy z=>match kU x with
   |some k=>denD es ς z (λj F=>Q ((k,y)::j) F) X
   |none=>False) X) X
 |.cons _ .nil,_,_,_,_=>False
noncomputable def denI:It->Sg->Gp->(List U->(Gp->Prop)->Gp->Prop)->KX->Prop
 |.e e,ς,G,Q,X=>(den e).1 ς G (λx y=>itU x y λz ok=>Q z ok y) X
 |.r1 e,ς,G,Q,X=>(den e).1 ς G (λx y=>match x with
   |.int j=>-(2 ^ 62)<=j/\j<2 ^ 62/\Q (rngU 0 j.toNat) (λ_=>True) y
   |_=>False) X
 |.enum e,ς,G,Q,X=>(den e).1 ς G (λx y=>enI x y λz ok=>Q z ok y) X
end
def denE (e:E):UE:=(den gs Δ e).1
def denT (e:E):UT:=(den gs Δ e).2
mutual
noncomputable def denS:S->En->Sg->Gp->Prop
 |.expr e,D,ς,G=>denE gs Δ e ς G (λ_ j=>D.nx ς j) λx j=>D.ex x ς j
 |.asg t e,D,ς,G=>denE gs Δ e ς G (λu j=>tgU t u ς λL=>D.nx L j) λx j=>D.ex x ς j
 |.asgC i e,D,ς,G=>denE gs Δ e ς G (λu j=>D.nx (ς.set i (some u)) j) λx j=>D.ex x ς j
 |.setS o i e,D,ς,G=>denE gs Δ e ς G (λv j=>denE gs Δ o ς j (λx I=>denE gs Δ i ς I (λy G3=>setU x y v G3 λG4=>D.nx ς G4) λx j=>D.ex x ς j) λx j=>D.ex x ς j) λx j=>D.ex x ς j
 |.par is es,D,ς,G=>jbg gs Δ es ς G (λO j=>O.length=is.length/\D.nx ((is.zip O).foldl (λs p=>s.set p.1 (some p.2)) ς) j) λx j=>D.ex x ς j
 |.aug i o e,D,ς,G=>slot ς i λx=>denE gs Δ e ς G (λy j=>jjW o x y j λz I=>D.nx (ς.set i (some z)) I) λx j=>D.ex x ς j
 |.ite c a b,D,ς,G=>denT gs Δ c ς G (λt j=>if t=true then jat a D ς j else jat b D ς j) λx j=>D.ex x ς j
 |.fr t it b,D,ς,G=>denI gs Δ it ς G (λZ ok j=>forL ok (λx F I k=>tgU t x F λJ=>jat b { D with nx:=k } J I) Z ς j D.nx) λx j=>D.ex x ς j
 |.wh c b,D,ς,G=>∃W:Nat->Sg->Gp->Prop,(∃m,W m ς G)/\∀m F j,W m F j->
   denT gs Δ c F j (λt I=>if t=true then jat b { D with nx:=λL G'=>∃Y,Y<m/\W Y L G' } F I else D.nx F I) λx j=>D.ex x F j
 |.ret e,D,ς,G=>denE gs Δ e ς G D.rt λx j=>D.ex x ς j
 |.raise c es,D,ς,G=>jbg gs Δ es ς G (λO j=>O.length=(clsF c).length/\D.ex ⟨c,O⟩ ς j) λx j=>D.ex x ς j
 |.tr b c n h,D,ς,G=>jat b { D with ex:=λx F j=>(c=0\/x.c=c)/\hsH x h (F.set n none) j λJ I=>D.nx (J.set n none) I } ς G
noncomputable def jat:Ss->En->Sg->Gp->Prop
 |.nil,D,ς,G=>D.nx ς G
 |.cons s ss,D,ς,G=>denS s { D with nx:=λj y=>jat ss D j y } ς G
end
end
structure Fun where
 name:Str
 ps:List Str
 N:List Str
 body:Ss
structure Nst where
 P:Addr
 ff:Nat
 vi:Nat
 fi:Nat
 caps:List Nat
 wi:Nat
 fni:Nat
 least:Int
 wn:Str
 fn:Str
 at':Str
structure Tab where
 funs:List Fun
 gs:List U
 gn:List Str:=[]
 cs:List Nat:=[]
 vf:List Fun:=[]
 ns:List (Nat×Nst):=[]
noncomputable def jah  (n:Nat)(us:List U):Sg:=us.map some++Yag (n-us.length) none
def jab  (T:Tab):Nat->Cl
 |0,_,_,_,_,_=>False
 |k+1,n,us,G,Q,X=>match (T.funs++T.vf)[n]? with
  |some d=>us.length=d.ps.length/\jat T.gs (jab T k) d.body ⟨λ_ j=>Q .non j,Q,λx _ j=>X x j⟩ (jah d.N.length us) G
  |none=>False
mutual
noncomputable def RU (K:Yae)(H:Hp):U->V->Prop
 |.non,v=>v=.non
 |.bl b,v=>v=.bl b
 |.int i,v=>v=.int i
 |.str x,v=>v=.str x
 |.tup xs,v=>∃a j,v=.ref a/\H a=some (.tup j)/\RUs K H xs j
 |.loc a,v=>v=.ref a
 |.fn _,_=>False
 |.ty n,v=>v=.ty n
 |.exc _ _,_=>False
 |.own _,_=>False
 |.clo _ _,_=>False
noncomputable def RUs (K:Yae)(H:Hp):List U->List V->Prop
 |[],vs=>vs=[]
 |u::us,vs=>∃v j,vs=v::j/\RU K H u v/\RUs K H us j
end
def RKs  {j:Type}(K:Yae)(H:Hp):List (j×U)->List (j×V)->Prop
 |[],l=>l=[]
 |(k,u)::r,l=>∃v y,l=(k,v)::y/\RU K H u v/\RKs K H r y
def MOk  (K:Yae)(H:Hp)(a:Addr):MO->Prop
 |.lst z=>∃y,H a=some (.lst y)/\RUs K H z y
 |.fro z=>∃o y,H a=some (.frz o (.lst y))/\RUs K H z y
 |.dK j=>∃l,H a=some (.dK l)/\RKs K H j l
 |.dT j=>∃l,H a=some (.dT l)/\RKs K H j l
 |.frd o j=>∃l,H a=some (.frz o (.dT l))/\RKs K H j l
 |.frk o j=>∃l,H a=some (.frz o (.dK l))/\RKs K H j l
noncomputable def tabs  : List (Addr×Pos×Str):=[]
def jfT  (H:Hp):Prop:=∀t∈tabs,joL H t.1 t.2.1 t.2.2
structure HR (K:Yae)(H:Hp)(G:Gp):Prop where
 mo:∀a o,G a=some o->MOk K H a o
 tab:jfT H
instance {K:Yae} {H:Hp} {G:Gp}:CoeFun (HR K H G) λ_=>∀a o,G a=some o->MOk K H a o:=⟨HR.mo⟩
noncomputable def noTb  : HO->Bool
 |.tbl _=>false
 |_=>true
structure Fr (H:Hp)(G:Gp)(H':Hp)(G':Gp):Prop where
 go:∀a o,H a=some o->G a=none->(nt:noTb o=true:=by rfl)->H' a=some o/\G' a=none
instance {H H':Hp} {G G':Gp}:CoeFun (Fr H G H' G') λ_=>∀a o,H a=some o->G a=none->(nt:noTb o=true:=by rfl)->H' a=some o/\G' a=none:=⟨@Fr.go H G H' G'⟩
def SR  (K:Yae)(H:Hp)(y:Sg)(j:St):Prop:=y.length=j.length/\∀(i:Nat) (u:U),y[i]?=some (some u)->∃v,j[i]?=some (some v)/\RU K H u v
section
variable {K:Yae}{H H' H1 H2:Hp}{G G' G1 G2:Gp}
def Fr.refl   H G:Fr H G H G:=⟨λ_ _ h g _=>⟨h,g⟩⟩
def Fr.trans  (a:Fr H G H1 G1)(b:Fr H1 G1 H2 G2):Fr H G H2 G2:=⟨λc o h g j=>let ⟨z,y⟩:=a c o h g j;b c o z y j⟩
structure TS (H H':Hp):Prop where
 tup:∀a xs,H a=some (.tup xs)->H' a=some (.tup xs)
 cod:∀a o,H a=some (frzC o)->H' a=some (frzC o)
instance:CoeFun (TS H H') λ_=>∀a xs,H a=some (.tup xs)->H' a=some (.tup xs):=⟨TS.tup⟩
def TS.trans  (a:TS H H1)(b:TS H1 H2):TS H H2:=⟨λc j h=>b.tup c j (a.tup c j h),λc o h=>b.cod c o (a.cod c o h)⟩
mutual
theorem RU.ts (t:TS H H'):∀{u:U} {v:V},RU K H u v->RU K H' u v
 |.non,_,h=>h
 |.bl _,_,h=>h
 |.int _,_,h=>h
 |.str _,_,h=>h
 |.tup xs,_,h=>by
  obtain⟨a,j,e,q,r⟩:=h
  exact⟨a,j,e,t _ _ q,RUs.ts t r⟩
 |.loc _,_,h=>h
 |.fn _,_,h=>h
 |.ty _,_,h=>h
 |.exc _ _,_,h=>h
 |.own _,_,h=>h
 |.clo _ _,_,h=>h
theorem RUs.ts (t:TS H H'):∀{us:List U} {vs:List V},RUs K H us vs->RUs K H' us vs
 |[],_,h=>h
 |_::_,_,h=>by
  obtain⟨v,y,e,r,j⟩:=h
  exact⟨v,y,e,RU.ts t r,RUs.ts t j⟩
end
theorem RKs.ts   (t:TS H H'):∀{kvs:List (κ×U)} {l },RKs K H kvs l->RKs K H' kvs l
 |[],_,h=>h
 |(_,_)::_,_,h=>by
  obtain⟨v,y,e,r,j⟩:=h;exact⟨v,y,e,r.ts t,RKs.ts t j⟩
def SR.ts    (t:TS H H')(h:SR K H y σ):SR K H' y σ:=⟨h.1,λi u e=>let ⟨v,j,r⟩:=h.2 i u e;⟨v,j,r.ts t⟩⟩
def HR.tupNone  (h:HR K H G)(e:H a=some (.tup xs)):G a=none:=by
 cases q:G a with
 |none=>rfl
 |some o=>
  have m:=h a o q;cases o with
  |lst y=>obtain⟨_,j,_⟩:=m;lia
  |fro y=>obtain⟨_,_,j,_⟩:=m;lia
  |dK y=>obtain⟨_,j,_⟩:=m;lia
  |dT y=>obtain⟨_,j,_⟩:=m;lia
  |frd _ y=>obtain⟨_,j,_⟩:=m;lia
  |frk _ y=>obtain⟨_,j,_⟩:=m;lia
def HR.codNone  (h:HR K H G)(e:H a=some (frzC z)):G a=none:=by
 cases q:G a with
 |none=>rfl
 |some o=>
  have m:=h a o q;cases o with
  |lst y=>obtain⟨_,j,_⟩:=m;lia
  |fro y=>obtain⟨_,_,j,_⟩:=m;lia
  |dK y=>obtain⟨_,j,_⟩:=m;lia
  |dT y=>obtain⟨_,j,_⟩:=m;lia
  |frd _ y=>obtain⟨_,j,_⟩:=m;lia
  |frk _ y=>obtain⟨_,j,_⟩:=m;lia
def HR.tblNone  (h:HR K H G)(e:H a=some (.tbl ps)):G a=none:=by
 cases q:G a with
 |none=>rfl
 |some o=>
  have m:=h a o q;cases o with
  |lst y=>obtain⟨_,j,_⟩:=m;lia
  |fro y=>obtain⟨_,_,j,_⟩:=m;lia
  |dK y=>obtain⟨_,j,_⟩:=m;lia
  |dT y=>obtain⟨_,j,_⟩:=m;lia
  |frd _ y=>obtain⟨_,j,_⟩:=m;lia
  |frk _ y=>obtain⟨_,j,_⟩:=m;lia
def Fr.ts  (f:Fr H G H' G')(h:HR K H G):TS H H':=⟨λa j e=>(f a _ e (h.tupNone e)).1,λa o e=>(f a _ e (h.codNone e)).1⟩
def jfT.upd  (h:jfT H)(j:∀ps,H p≠some (.tbl ps))(y:∀I,H p≠some (frzC I)):jfT (L2.upd H p o):=λt F=>by
 rcases h t F with e|⟨c,oc,e1,e2,q⟩
 ·exact .inl (by rw[jad (λz=>j _ (z ▸ e))];exact e)
 ·exact .inr ⟨c,oc,by rw[jad (λz=>j _ (z ▸ e1))];exact e1,by rw[jad (λz=>y _ (z ▸ e2))];exact e2,q⟩
def jfT.new  (h:jfT H)(e:H p=none):jfT (L2.upd H p o):=h.upd (λj z=>by lia) λy z=>by lia
def HR.tabW  (h:HR K H G){mo:MO}(g:G p=some mo):jfT (L2.upd H p o):=h.tab.upd (λj z=>by rw[h.tblNone z]at g;cases g) λy z=>by rw[h.codNone z]at g;cases g
def MOk.there    (m:MOk K H a o):∃j,H a=some j:=by
 cases o with
 |lst _=>obtain⟨_,e,_⟩:=m;simp_all
 |fro _=>obtain⟨_,_,e,_⟩:=m;simp_all
 |dK _=>obtain⟨_,e,_⟩:=m;simp_all
 |dT _=>obtain⟨_,e,_⟩:=m;simp_all
 |frd _ _=>obtain⟨_,e,_⟩:=m;simp_all
 |frk _ _=>obtain⟨_,e,_⟩:=m;simp_all
def MOk.keep    (m:MOk K H a o)(e:H' a=H a)(t:TS H H'):MOk K H' a o:=by
 cases o with
 |lst _=>obtain⟨j,q,r⟩:=m;exact⟨j,e.trans q,r.ts t⟩
 |fro _=>obtain⟨y,j,q,r⟩:=m;exact⟨y,j,e.trans q,r.ts t⟩
 |dK _=>obtain⟨l,q,r⟩:=m;exact⟨l,e.trans q,r.ts t⟩
 |dT _=>obtain⟨l,q,r⟩:=m;exact⟨l,e.trans q,r.ts t⟩
 |frd _ _=>obtain⟨l,q,r⟩:=m;exact⟨l,e.trans q,r.ts t⟩
 |frk _ _=>obtain⟨l,q,r⟩:=m;exact⟨l,e.trans q,r.ts t⟩
def HR.nope  (h:HR K H G)(e:H a=none):G a=none:=by
 cases q:G a with
 |none=>rfl
 |some o=>
  obtain⟨_,j⟩:=(h a o q).there
  lia
def jar    : gup G a o a=some o:=by unfold gup;lia
def jbf    (h:b≠a):gup G a o b=G b:=by unfold gup;lia
def TS.new    (e:H p=none):TS H (upd H p o):=⟨λa j h=>by rw[jad (jai h e)];exact h,λa y h=>by rw[jad (jai h e)];exact h⟩
def HR.newT  (h:HR K H G)(e:H p=none):HR K (upd H p (.tup xs)) G:=⟨λa o q=>by
 have m:=h a o q;obtain⟨y,j⟩:=m.there;exact m.keep (jad (jai j e)) (TS.new e),h.tab.new e⟩
def Fr.new    (e:H p=none):Fr H G (upd H p o) G:=⟨λa j h g _=>⟨by rw[jad (jai h e)];exact h,g⟩⟩
def HR.newO  (h:HR K H G){mo:MO}(e:H p=none)(m:MOk K (upd H p o) p mo):HR K (upd H p o) (gup G p mo):=⟨λa j q=>by
 by_cases z:a=p
 ·subst z;rw[jar]at q
  lia
 ·rw[jbf z]at q;exact(h a j q).keep (jad z) (TS.new e),h.tab.new e⟩
def Fr.newO     (e:H p=none):Fr H G (upd H p o) (gup G p mo):=⟨λa j h g _=>by
 have z:a≠p:=jai h e;exact⟨by rw[jad z];exact h,by rw[jbf z];exact g⟩⟩
def TS.write  (h:HR K H G)(g:G p=some mo):TS H (upd H p o):=⟨λa j e=>by
 have z:a≠p:=λz=>by subst z;rw[h.tupNone e]at g;cases g
 rw[jad z];exact e,λa y e=>by
 have z:a≠p:=λz=>by subst z;rw[h.codNone e]at g;cases g
 rw[jad z];exact e⟩
def HR.write  (h:HR K H G){mo mo':MO}(g:G p=some mo)(m:MOk K (upd H p o) p mo'):HR K (upd H p o) (gup G p mo'):=⟨λa j q=>by
 by_cases z:a=p
 ·subst z;rw[jar]at q
  lia
 ·rw[jbf z]at q;exact(h a j q).keep (jad z) (TS.write h g),h.tabW g⟩
def Fr.write     (g:G p=some mo):Fr H G (upd H p o) (gup G p mo'):=⟨λa j h n _=>by
 have z:a≠p:=λz=>by lia
 exact⟨by rw[jad z];exact h,by rw[jbf z];exact n⟩⟩
theorem RUs.length  : ∀{us } {vs },RUs K H us vs->us.length=vs.length
 |[],_,h=>by cases h;rfl
 |_::_,_,h=>by
  obtain⟨v,y,rfl,_,j⟩:=h;simp[j.length]
theorem RUs.append  : ∀{us j } {vs xs },RUs K H us vs->RUs K H j xs->RUs K H (us++j) (vs++xs)
 |[],_,_,_,h,h'=>by cases h;exact h'
 |_::_,_,_,_,h,h'=>by
  obtain⟨v,z,rfl,r,y⟩:=h;exact⟨v,z++_,rfl,r,y.append h'⟩
theorem RUs.get  : ∀{us } {vs } {i:Nat} {u },RUs K H us vs->us[i]?=some u->∃v,vs[i]?=some v/\RU K H u v
 |[],_,_,_,_,e=>by simp at e
 |_::_,_,0,_,h,e=>by
  obtain⟨v,y,rfl,r,_⟩:=h
  simp_all
 |_::_,_,i+1,_,h,e=>by
  obtain⟨v,y,rfl,_,j⟩:=h;obtain⟨w,z,F⟩:=j.get (i:=i) (by simpa using e)
  simp_all
theorem RUs.take  : ∀{us } {vs } n ,RUs K H us vs->RUs K H (us.take n) (vs.take n)
 |_,_,0,_=>rfl
 |[],_,_+1,h=>by cases h;rfl
 |_::_,_,n+1,h=>by
  obtain⟨v,j,rfl,r,y⟩:=h;exact⟨v,j.take n,rfl,r,y.take n⟩
theorem RUs.drop  : ∀{us } {vs } n ,RUs K H us vs->RUs K H (us.drop n) (vs.drop n)
 |_,_,0,h=>h
 |[],_,_+1,h=>by cases h;rfl
 |_::_,_,n+1,h=>by
  obtain⟨v,y,rfl,_,j⟩:=h;exact j.drop n
theorem RUs.set    (r:RU K H u v):∀{us } {vs } i ,RUs K H us vs->RUs K H (us.set i u) (vs.set i v)
 |[],_,_,h=>by cases h;rfl
 |_::_,_,0,h=>by
  obtain⟨w,y,rfl,_,j⟩:=h;exact⟨v,y,rfl,r,j⟩
 |_::_,_,i+1,h=>by
  obtain⟨w,y,rfl,q,j⟩:=h;exact⟨w,y.set i v,rfl,q,j.set r i⟩
theorem RUs.reverse  : ∀{us } {vs },RUs K H us vs->RUs K H us.reverse vs.reverse
 |[],_,h=>by cases h;rfl
 |_::_,_,h=>by
  obtain⟨v,y,rfl,r,j⟩:=h;rw[Yc3,Yc3];exact j.reverse.append ⟨v,[],rfl,r,rfl⟩
theorem RUs.rep    (h:RUs K H us vs):∀k ,RUs K H (Yag k us).flatten (Yag k vs).flatten
 |0=>rfl
 |k+1=>by
  rw[Ybx,Ybx,Ycb,Ycb];exact h.append (h.rep k)
theorem RUs.erase  : ∀{us } {vs } i ,RUs K H us vs->RUs K H (us.eraseIdx i) (vs.eraseIdx i)
 |[],_,_,h=>by cases h;rfl
 |_::_,_,0,h=>by
  obtain⟨v,y,rfl,_,j⟩:=h;exact j
 |_::_,_,i+1,h=>by
  obtain⟨v,y,rfl,r,j⟩:=h;exact⟨v,_,rfl,r,j.erase i⟩
def RUs.dropLast    (h:RUs K H us vs):RUs K H us.dropLast vs.dropLast:=by
 rw[Yfg,Yfg,h.length];exact h.take _
theorem RUs.atI {us:List U}{vs:List V}{i:Int}{u:U}(h:RUs K H us vs)(e:atI us i=some u):∃v,L2.atI vs i=some v/\RU K H u v:=by
 unfold L2.atI at e ⊢;rw[h.length]at e;cases q:ixN vs.length i with
 |none=>simp_all
 |some j=>
  rw[q]at e;exact h.get e
def RUs.cut    (h:RUs K H us vs) lo hi:RUs K H (Z.cut us lo hi) (cutV vs lo hi):=by
 unfold Z.cut cutV;rw[h.length];exact(h.drop _).take _
theorem RUs.isEmpty    (h:RUs K H us vs):us.isEmpty=vs.isEmpty:=by
 cases us with
 |nil=>cases h;rfl
 |cons u us=>obtain⟨v,j,rfl,_⟩:=h;rfl
theorem RUs.strs  : ∀{us } {vs } {ns },RUs K H us vs->jf0 us=some ns->vs=ns.map V.str
 |[],_,_,h,e=>by cases h;cases e;rfl
 |u::us,_,ns,h,e=>by
  obtain⟨v,y,rfl,r,j⟩:=h;cases u with
  |str i=>
   cases r;rw[jf0]at e;cases q:jf0 us with
   |none=>lia
   |some l=>rw[q]at e;cases e;rw[j.strs q];rfl
  |_=>cases e
theorem RUs.bools  : ∀{us } {vs } {ns },RUs K H us vs->jd9 us=some ns->vs=ns.map V.bl
 |[],_,_,h,e=>by cases h;cases e;rfl
 |u::us,_,ns,h,e=>by
  obtain⟨v,y,rfl,r,j⟩:=h;cases u with
  |bl i=>
   cases r;rw[jd9]at e;cases q:jd9 us with
   |none=>lia
   |some l=>rw[q]at e;cases e;rw[j.bools q];rfl
  |_=>cases e
def HR.lst  (h:HR K H G)(e:G a=some (.lst us)):∃vs,H a=some (.lst vs)/\RUs K H us vs:=h a _ e
def HR.ls  (h:HR K H G)(e:lsG G a=some us):∃vs,SqL K H a vs/\RUs K H us vs:=by
 unfold lsG at e;split at e
 ·rename_i j q;cases e;obtain⟨vs,q2,r⟩:=h a _ q;exact⟨vs,.inl (.inl q2),r⟩
 ·rename_i j q;cases e;obtain⟨o,vs,q2,r⟩:=h a _ q;exact⟨vs,.inl (.inr ⟨o,q2⟩),r⟩
 lia
def HR.rd  (h:HR K H G)(e:lsG G a=some us):∃vs,Rd H a (.lst vs)/\RUs K H us vs:=by
 unfold lsG at e;split at e
 ·rename_i j q;cases e;obtain⟨vs,q2,r⟩:=h a _ q;exact⟨vs,.inl q2,r⟩
 ·rename_i j q;cases e;obtain⟨o,vs,q2,r⟩:=h a _ q;exact⟨vs,.inr ⟨o,q2⟩,r⟩
 lia
end
mutual
theorem DU.dv {K:Yae}{H:Hp}{G:Gp}(h:HR K H G):∀{u:U} {d:PyData} {v:V},DU G u d->RU K H u v->DV K H v d
 |_,_,_,.non,r=>by cases r;exact .non
 |_,_,_,.bl b,r=>by cases r;exact .bl b
 |_,_,_,.int i,r=>by cases r;exact .int i
 |_,_,_,.str x,r=>by cases r;exact .str x
 |_,_,_,.tup q,r=>by
  obtain⟨a,y,rfl,s,j⟩:=r
  exact .tup (.of s) (DUs.dv h q j)
 |_,_,_,.lst e q,r=>by
  cases r
  obtain⟨y,s,j⟩:=h.rd e
  exact .lst s (DUs.dv h q j)
 |_,_,_,.dic e,r=>by
  cases r
  obtain⟨l,q,j⟩:=h _ _ e
  cases j
  exact .dic q
theorem DUs.dv {K:Yae}{H:Hp}{G:Gp}(h:HR K H G):∀{us:List U} {ds:List PyData} {vs:List V},DUs G us ds->RUs K H us vs->DVs K H vs ds
 |_,_,_,.nil,r=>by cases r;exact .nil
 |_,_,_,.cons a b,r=>by
  obtain⟨v,y,rfl,r1,j⟩:=r
  exact .cons (DU.dv h a r1) (DUs.dv h b j)
end
end Z

namespace L2
open PySem
def PE.imp     (h:PE X e t)(i:∀y H Q,t' y H Q->t y H Q):PE X e t':=λj s y H Q I q=>h j s y H Q I (i y H Q q)
def PT.imp     (h:PT X e t)(i:∀y H Q,t' y H Q->t y H Q):PT X e t':=λj s y H Q I q=>h j s y H Q I (i y H Q q)
def PW.imp     (h:PW X e t)(i:∀y H Q,t' y H Q->t y H Q):PW X e t':=λw j s y H Q I q=>h w j s y H Q I (i y H Q q)
def PA.imp     (h:PA X e t)(i:∀y H Q,t' y H Q->t y H Q):PA X e t':=λz j s y H Q I q=>h z j s y H Q I (i y H Q q)
def PO.imp     (h:PO X e t)(i:∀y H Q,t' y H Q->t y H Q):PO X e t':=λj s y H Q I q=>h j s y H Q I (i y H Q q)
def PS.imp     (h:PS X e t)(i:∀D y H,t' D y H->t D y H):PS X e t':=λj s y H D I q=>h j s y H D I (i D y H q)
def PSs.imp     (h:PSs X e t)(i:∀D y H,t' D y H->t D y H):PSs X e t':=λj s y H D I q=>h j s y H D I (i D y H q)
end L2
namespace Z
open PySem L2
noncomputable def gK  (K:Yae):Str->Option Value:=λx=>(Ybe K YaJ x).join
def XD  (K:Yae)(H:Hp)(C j:Addr)(x:XV):Prop:=1<=x.c/\x.c<6/\XCls K (gK K) (clsN x.c) (clsF x.c) C/\∃l,H j=some (.xd l)/\l.map (·.1)=clsF x.c/\RUs K H x.fs (l.map (·.2))
def XAt  (X:Cx)(H:Hp)(s:Shared)(e:Value)(x:XV):Prop:=∃y C j,e=.ref y/\Lies X.s₀.heap.objs.size X.pn H s.heap y (.ref C) (some j)/\XD X.K H C j x
section
variable (X:Cx)
def LX (y:St)(H:Hp)(G:Gp)(E:KX):Prop:=∀(j:List (Addr×Obj)) (e:Value) (s':Shared) (x:XV) (G':Gp) (H':Hp),Inv X j y H' s'->XAt X H' s' e x->HR X.K H' G'->Fr H G H' G'->E x G'->X.xe e s'
def LV (H:Hp)(G:Gp)(Q:K1)(z:VK):Prop:=∀w v y j,RU X.K j w v->HR X.K j y->Fr H G j y->Q w y->z v j
def lE (t:UE):TE:=λj H z=>∃y G Q E,SR X.K H y j/\HR X.K H G/\t y G Q E/\LV X H G Q z/\LX X j H G E
def lT (t:UT):TT:=λF H I=>∃z G Q E,SR X.K H z F/\HR X.K H G/\t z G Q E/\(∀b y j,HR X.K j y->Fr H G j y->Q b y->I b j)/\LX X F H G E
def lA (t:UA):TA:=λJ H L=>∃I G Q E,SR X.K H I J/\HR X.K H G/\t I G Q E/\(∀F z y j,RUs X.K j F z->HR X.K j y->Fr H G j y->Q F y->L z j)/\LX X J H G E
def lO (t:Sg->Gp->(Option Int->Gp->Prop)->KX->Prop):TO:=λF H I=>∃z G Q E,SR X.K H z F/\HR X.K H G/\t z G Q E/\(∀o y j,HR X.K j y->Fr H G j y->Q o y->I o j)/\LX X F H G E
end
section
variable {X:Cx}{σ:St}{H H1 H2:Hp}{G G1 G2:Gp}
def LX.fr  {E:KX}(h:LX X σ H G E)(f:Fr H G H1 G1):LX X σ H1 G1 E:=λj e F x L z I a y J q=>h j e F x L z I a y (f.trans J) q
def LV.fr    (h:LV X H G Q Q0)(f:Fr H G H1 G1):LV X H1 G1 Q Q0:=λw v z F r y j q=>h w v z F r y (f.trans j) q
def LV.here    (h:LV X H G Q Q0)(r:RU X.K H w v)(hr:HR X.K H G)(q:Q w G):Q0 v H:=h w v G H r hr (Fr.refl _ _) q
def LV.bl    (h:LV X H G Q Q0)(hr:HR X.K H G)(q:Q (.bl b) G):Q0 (.bl b) H:=h.here (w:=.bl b) rfl hr q
def LV.int    (h:LV X H G Q Q0)(hr:HR X.K H G)(q:Q (.int b) G):Q0 (.int b) H:=h.here (w:=.int b) rfl hr q
def LV.str    (h:LV X H G Q Q0)(hr:HR X.K H G)(q:Q (.str b) G):Q0 (.str b) H:=h.here (w:=.str b) rfl hr q
def LV.tup    (h:LV X H G Q Q0)(e:H p=none)(r:RUs X.K H us vs)(hr:HR X.K H G)(q:Q (.tup us) G):Q0 (.ref p) (upd H p (.tup vs)):=
 h (.tup us) (.ref p) G _ ⟨p,vs,rfl,jaj,r.ts (TS.new e)⟩ (hr.newT e) (Fr.new e) q
def LV.lst    (h:LV X H G Q Q0)(e:H p=none)(r:RUs X.K H us vs)(hr:HR X.K H G)(q:newO G (.lst us) Q):Q0 (.ref p) (upd H p (.lst vs)):=
 h (.loc p) (.ref p) _ _ rfl (hr.newO (mo:=.lst us) e ⟨vs,jaj,r.ts (TS.new e)⟩) (Fr.newO e) (q.at p (hr.nope e))
def LV.wl    (h:LV X H G Q Q0)(g:G p=some mo)(r:RUs X.K H us vs)(hr:HR X.K H G)(j:RU X.K H w v)(q:putO G p (.lst us) (Q w)):Q0 v (upd H p (.lst vs)):=
 h w v _ _ (j.ts (TS.write hr g)) (hr.write (mo':=.lst us) g ⟨vs,jaj,r.ts (TS.write hr g)⟩) (Fr.write g) q.at
end

def lE.two  {R:V->V->Hp->Prop}{k:U->U->Gp->K1->Prop}(h:lE X (λJ G Q E=>ta J G (λx L=>tb J L (λy O=>k x y O Q) E) E) σ H Q0)
  (f:∀x y v j G z Q,RU X.K z x v->RU X.K z y j->HR X.K z G->k x y G Q->LV X z G Q Q0->R v j z):lE X ta σ H λv H1=>lE X tb σ H1 λj H2=>R v j H2:=by
 obtain⟨J,G,Q,E,F,hG,h,lv,lx⟩:=h;refine⟨J,G,_,E,F,hG,h,λx v L H1 rx I Y h1=>?_,lx⟩;refine⟨J,L,_,E,F.ts (Y.ts hG),I,h1,λy j O H2 ry Z f2 h2=>?_,lx.fr Y⟩;exact f x y v j O H2 Q (rx.ts (f2.ts I)) ry Z h2 (lv.fr (Y.trans f2))
def lE.one  {R:V->Hp->Prop}{k:U->Gp->K1->Prop}(h:lE X (λI G Q E=>ta I G (λx y=>k x y Q) E) σ H Q0)
  (f:∀x v G j Q,RU X.K j x v->HR X.K j G->k x G Q->LV X j G Q Q0->R v j):lE X ta σ H R:=by
 obtain⟨I,G,Q,E,z,L,h,O,lx⟩:=h;exact⟨I,G,_,E,z,L,h,λx v y H1 Y F J Z=>f x v y H1 Q Y F Z (O.fr J),lx⟩
def lE.many    {k:List U->Gp->K1->Prop}(h:lE X (λI G Q E=>ta I G (λx y=>k x y Q) E) σ H Q0)
  (f:∀x v G j Q,RUs X.K j x v->HR X.K j G->k x G Q->LV X j G Q Q0->R v j):lA X ta σ H R:=by
 obtain⟨I,G,Q,E,z,O,h,Z,lx⟩:=h;exact⟨I,G,_,E,z,O,h,λx v y H1 Y F J L=>f x v y H1 Q Y F L (Z.fr J),lx⟩

def joO    (F:X.N[i]?=some x)(I:Vis X.env.scope x)(hd:(x==("__debug__" : Str))=false)(y:(x==("__classdict__" : Str))=false):PE X (.Name x pos) (lE X λz G Q _=>slot z i λu=>Q u G):=by
 refine(jcI F I hd y).imp λY H Z h=>?_;obtain⟨z,G,Q,E,j,L,h,O,_⟩:=h;unfold slot at h;split at h
 ·rename_i u e;obtain⟨v,J,r⟩:=j.2 i u e;exact⟨v,J,O.here r L h⟩
 lia
def jcY     (h:PE X e (tC v))(r:∀H,RU X.K H u v):PE X e (lE X λ_ G Q _=>Q u G):=
 h.imp λ_ _ _ ⟨_,_,_,_,_,y,q,j,_⟩=>j.here (r _) y q
def OpU  (X:Cx)(f:Value->Value->Sem Value)(b:U->U->Gp->K1->Prop):Prop:=
 ∃r:R2,OpR X f r/\∀x y v j G H Q z,RU X.K H x v->RU X.K H y j->HR X.K H G->b x y G Q->LV X H G Q z->r v j H z

def jo5    (O:OpU X (Ybp o) k)(Y:PE X a (lE X ta))(hb:PE X b (lE X tb)) :
  PE X (.BinOp a o b pos) (lE X λj G Q E=>ta j G (λx F=>tb j F (λy I=>k x y I Q) E) E):=by
 obtain⟨r,J,h2⟩:=O;exact(jpA J Y hb).imp λσ H Q0 h=>lE.two h λx y v v' G Z Q z ry L q lv=>h2 x y v v' G Z Q Q0 z ry L q lv
def jnE  : OpU X (Ybp .Add) addU:=by
 refine⟨_,jnP.or (jhv.or ((jlT (X:=X)).or (jnO.or jlU))),?_⟩;intro x y v v' G H Q Q0 J I j h F;cases x<;>try exact h.elim
 ·cases y<;>try exact h.elim
  cases J;cases I;exact .inr (.inr (.inr (.inr ⟨_,_,rfl,rfl,F.int j h⟩)))
 ·cases y<;>try exact h.elim
  cases J;cases I;exact .inl ⟨_,_,rfl,rfl,F.int j h⟩
 ·cases y<;>try exact h.elim
  cases J;cases I;exact .inr (.inl ⟨_,_,rfl,rfl,h.1,F.str j h.2⟩)
 ·cases y<;>try exact h.elim
  rename_i xs Z;obtain⟨a,L,rfl,s1,r1⟩:=J;obtain⟨b,O,rfl,s2,r2⟩:=I;obtain⟨hl,q⟩:=h;refine .inr (.inr (.inl ⟨a,b,L,O,rfl,rfl,.of s1,.of s2,by rw[<- r1.length,<- r2.length];exact hl,λz=>?_,λ_ z=>?_,λ_ _ p Y=>?_⟩))
  ·have:xs=[]:=by have:=r1.length;simp_all
   subst this;exact F.here (w:=.tup Z) ⟨b,O,rfl,s2,r2⟩ j q
  ·have:Z=[]:=by have:=r2.length;simp_all
   subst this;rw[YcO]at q;exact F.here (w:=.tup xs) ⟨a,L,rfl,s1,r1⟩ j q
  ·exact F.tup Y (r1.append r2) j q
 ·cases y<;>try exact h.elim
  cases J;cases I;obtain⟨xs,Z,g1,g2,hl,q⟩:=h;obtain⟨L,e1,r1⟩:=j.lst g1;obtain⟨O,e2,r2⟩:=j.lst g2;exact .inr (.inr (.inr (.inl ⟨_,_,L,O,rfl,rfl,e1,e2,by rw[<- r1.length,<- r2.length];exact hl,λp Y=>F.lst Y (r1.append r2) j q⟩)))
def jnz  : OpU X (Ybp .Sub) subU:=by
 refine⟨_,jnF.or (jlQ (X:=X)),?_⟩;intro x y v J G H Q L I F j h z;cases x<;>try exact h.elim
 all_goals cases y<;>try exact h.elim
 all_goals cases I;cases F
 ·exact .inr (.inl ⟨_,_,rfl,rfl,z.int j h⟩)
 ·exact .inr (.inr ⟨_,_,rfl,rfl,z.int j h⟩)
 ·exact .inl ⟨_,_,rfl,rfl,z.int j h⟩
def jnB  : OpU X (Ybp .Mult) mulU:=by
 refine⟨_,jnJ.or jnG,?_⟩;intro x y v v' G H Q Q0 z F j h I;unfold mulU at h;split at h
 ·cases z;cases F;exact .inl ⟨_,_,rfl,rfl,h.1,I.int j h.2⟩
 ·cases z;cases F;obtain⟨xs,g1,Z,h2,O,q⟩:=h;obtain⟨J,Y,r1⟩:=j.lst g1;exact .inr ⟨_,_,J,rfl,rfl,Y,Z,h2,by rw[<- r1.length];exact O,λp L=>I.lst L (r1.rep _) j q⟩
 ·exact h.elim
def jlP  : OpU X (Ybp .FloorDiv) jou:=by
 refine⟨_,jlR,?_⟩;intro x y v J G H Q L F z j h I;cases x<;>try exact h.elim
 cases y<;>try exact h.elim
 ·cases F;cases z;exact⟨_,_,rfl,rfl,⟨h.1,h.2.1⟩,I.int j h.2.2⟩
def jnC  : OpU X (Ybp .Mod) modU:=by
 refine⟨_,jnK,?_⟩;intro x y v J G H Q L F z j h I;cases x<;>try exact h.elim
 cases y<;>try exact h.elim
 ·cases F;cases z;exact⟨_,_,rfl,rfl,h.1,I.int j h.2⟩
def jnA  : OpU X (Ybp .Pow) powU:=by
 refine⟨_,jnH,?_⟩;intro x y v J G H Q L F z j h I;cases x<;>try exact h.elim
 cases y<;>try exact h.elim
 ·cases F;cases z;exact⟨_,_,rfl,rfl,h.1,I.int j h.2⟩
def jnD   o:OpU X (Ybp o) (binU o):=by
 cases o with
 |Add=>exact jnE
 |Sub=>exact jnz
 |Mult=>exact jnB
 |FloorDiv=>exact jlP
 |Mod=>exact jnC
 |Pow=>exact jnA
 |_=>exact⟨λ_ _ _ _=>False,λ_ _ _ _ _ _ _ _ _ _ _ _ h=>h.elim,λ_ _ _ _ _ _ _ _ _ _ _ h _=>h⟩
def joW  (z:PE X a (lE X ta)):PE X (.UnaryOp .USub a pos) (lE X λF G Q E=>ta F G (λx j=>negU x j Q) E):=by
 refine(jpy jmz z).imp λO H Y h=>lE.one h λx v G L Q I y q J=>?_;cases x<;>try exact q.elim
 cases I;exact⟨_,rfl,J.int y q⟩
def CmU  (X:Cx)(o:CmpOp):Prop:=
 ∃r:R2,OpR X (YaX o) r/\∀x y v v' G H (k:Bool->Prop) (Q0:VK),RU X.K H x v->RU X.K H y v'->HR X.K H G->cmpU o x y G k->(∀c,k c->Q0 (.bl c) H)->r v v' H Q0

def jkX  {X: Cx}(I:RU X.K H x v)(F:RU X.K H y j)(J:HR X.K H G)(h:eqU x y G k) :
  (scal v j=true/\k (decide (v=j)))\/∃d e,DV X.K H v d/\DV X.K H j e/\d.canLay0=true/\e.canLay0=true/\d.depth<=100/\k (YaK d e):=by
 have g:(∃d e,DU G x d/\DU G y e/\Small d/\Small e/\k (YaK d e))->(scal v j=true/\k (decide (v=j)))\/∃d e,DV X.K H v d/\DV X.K H j e/\d.canLay0=true/\e.canLay0=true/\d.depth<=100/\k (YaK d e):=
  λ⟨d,e,O,L,⟨s1,s2⟩,⟨Y,_⟩,q⟩=>.inr ⟨d,e,O.dv J I,L.dv J F,s1,Y,s2,q⟩
 have e:∀{p:Prop} [Decidable p],¬p->k false->k (decide p):=λn q=>by lia
 cases x<;>try exact g h
 all_goals
  cases y<;>first
   |exact g h
   |(cases I;cases F;exact .inl ⟨rfl,e (λz=>V.noConfusion z) h⟩)
   |(cases I;cases F;exact .inl ⟨rfl,by simp only[V.bl.injEq,V.int.injEq,V.str.injEq];exact h⟩)
def jh9      (r:RUs K H us vs):vs.isEmpty=us.isEmpty:=by
 have:=r.length;cases us<;>cases vs<;>simp_all
def jmn  {X: Cx}(I:RU X.K H x v)(F:RU X.K H y J)(L:HR X.K H G)(h:eqQ x y G k):eqU x y G k\/(∃a z kvs,v=.ref a/\J=.str z/\H a=some (.dK kvs)/\k false)\/(∃a b xs,v=.ref a/\J=.ref b/\SqT X.K H a xs/\SqT X.K H b []/\k xs.isEmpty)\/∃a z xs,v=.ref a/\J=.str z/\(SqT X.K H a xs\/SqL X.K H a xs)/\k false:=by
 cases x<;>try exact .inl h
 all_goals cases y<;>try exact .inl h
 ·obtain⟨a,j,rfl,s1,r1⟩:=I;cases F;exact .inr (.inr (.inr ⟨a,_,j,rfl,rfl,.inl (.of s1),h⟩))
 ·rename_i O;cases O<;>try exact .inl h
  obtain⟨a,j,rfl,s1,r1⟩:=I;obtain⟨b,Z,rfl,s2,r2⟩:=F;cases r2;refine .inr (.inr (.inl ⟨a,b,j,rfl,rfl,.of s1,.of s2,?_⟩));rw[jh9 r1];exact h
 ·rcases h with⟨kvs,g,q⟩|⟨xs,g,q⟩|h
  ·cases I;cases F;obtain⟨l,e,Y⟩:=L _ _ g;exact .inr (.inl ⟨_,_,l,rfl,rfl,e,q⟩)
  ·cases I;cases F;obtain⟨j,e,Y⟩:=L.lst g;exact .inr (.inr (.inr ⟨_,_,j,rfl,rfl,.inr (.of e),q⟩))
  ·exact .inl h
def jfw       (r:RU K H x v)(e:kU x=some k):v=kV k:=by
 cases x with
 |int i=>cases r;cases e;rfl
 |str i=>cases r;cases e;rfl
 |_=>cases e
theorem jg9    : ∀{xs } {vs } {j },RUs K H xs vs->kUs xs=some j->vs=j.map kV
 |[],_,_,r,e=>by cases r;cases e;rfl
 |x::xs,_,j,r,e=>by
  obtain⟨v,I,rfl,r1,F⟩:=r;rw[kUs]at e;cases z:kU x with
  |none=>lia
  |some k=>
   cases y:kUs xs with
   |none=>lia
   |some l=>
    rw[z,y]at e;cases e;rw[jfw r1 z,jg9 F y];rfl
def je1      (r:RU K H x v)(e:flat x=true):jdo v=true:=by
 cases x<;>first|(cases r;rfl)|exact absurd (show false=true from e) (by decide)
theorem jdw    : ∀{xs } {vs },RUs K H xs vs->xs.all flat=true->vs.all jdo=true
 |[],_,r,_=>by cases r;rfl
 |x::xs,_,r,e=>by
  obtain⟨v,y,rfl,r1,j⟩:=r;rw[Ybj,Yaq]at e;rw[Ybj,je1 r1 e.1,jdw j e.2];rfl
def jow      (r:RU K H x v)(F:RU K H y z)(e:flat x=true)(j:flat y=true):eqV v z=eqF x y:=by
 cases x<;>first|(exact absurd (show false=true from e) (by decide))|(cases y<;>first|(exact absurd (show false=true from j) (by decide))|(cases r;cases F;rfl))
theorem jhm      (r:RU K H x v)(e:flat x=true):∀{xs } {vs },RUs K H xs vs->xs.all flat=true->inV v vs=xs.any λy=>eqF y x
 |[],_,j,_=>by cases j;rfl
 |y::xs,_,j,e'=>by
  obtain⟨F,I,rfl,r1,j⟩:=j;rw[Ybj,Yaq]at e';have z:=jhm r e j e'.2;unfold inV at z ⊢;rw[YbO,YbO,jow r1 r e'.1 e,z]
theorem jcW {j:Type}[DecidableEq j]{K:Yae}{H:Hp}(k:j):∀{kvs:List (j×U)} {l:List (j×V)},RKs K H kvs l->match dGet kvs k with|some u=>∃v,valV l k=some v/\RU K H u v|none=>valV l k=none
 |[],_,r=>by cases r;exact rfl
 |(k',u)::kvs,_,r=>by
  obtain⟨v,z,rfl,r1,y⟩:=r;by_cases e:k'=k
  ·subst e;have:dGet ((k',u)::kvs) k'=some u:=by simp[dGet,Ya7]
   rw[this];exact⟨v,jdp rfl,r1⟩
  ·have:dGet ((k',u)::kvs) k=dGet kvs k:=by simp[dGet,Ya7,e]
   rw[this,jdq (p:=(k',v)) e];exact jcW k y
def jdV   [DecidableEq κ](k:κ)(r:RKs K H kvs l):(valV l k).isSome=(dGet kvs k).isSome:=by
 have:=jcW k r
 grind
def rDIn  (j:Bool):R2:=λx y H Q=>∃a o,y=.ref a/\DGet H a x o/\Q (.bl (if j then !o.isSome else o.isSome)) H
def jnN  (hu:X.A.units+1<cLine):OpR X (YaX .In) (rDIn false):=by
 intro j s O H x y v u Q I J z h;obtain⟨a,o,rfl,g,q⟩:=h;cases z;exact d_in hu I g J λL F=>⟨.bl o.isSome,H,F,rfl,q⟩
def jip  (hu:X.A.units+1<cLine):OpR X (YaX .NotIn) (rDIn true):=by
 intro j s O H x y v u Q I J z h;obtain⟨a,o,rfl,g,q⟩:=h;cases z;exact jmo hu I g J λL F=>⟨.bl (!o.isSome),H,F,rfl,q⟩
def jkS  {X: Cx}(F:RU X.K H x v)(ry:RU X.K H y v')(I:HR X.K H G)(h:inU x y G k) :
  (∃i j,v=.str i/\v'=.str j/\k (!(Ycp j i 0 j.length 1).isEmpty))\/(∃p xs,v'=.ref p/\(SqL X.K H p xs\/SqT X.K H p xs)/\jdo v=true/\xs.all jdo=true/\k (inV v xs))\/
   (∃a o,v'=.ref a/\DGet H a v o/\k o.isSome)\/∃(p:Addr) (vs:List V) (d:PyData) (ds:List PyData),v'=.ref p/\(SqL X.K H p vs\/SqT X.K H p vs)/\DV X.K H v d/\DVs X.K H vs ds/\d.canLay0=true/\d.depth<=100/\(∀e∈ds,e.canLay0=true)/\k (ds.any λe=>YaK e d):=by
 unfold inU at h;split at h
 ·cases F;cases ry;exact .inl ⟨_,_,rfl,rfl,h⟩
 ·obtain⟨a,vs,rfl,e,z⟩:=ry;obtain⟨d,ds,hd,Y,sd,O,q⟩:=h;exact .inr (.inr (.inr ⟨a,vs,d,ds,rfl,.inr (.of e),hd.dv I F,Y.dv I z,sd.1,sd.2,λe he=>(O e he).1,q⟩))
 ·obtain⟨a,vs,rfl,e,z⟩:=ry;obtain⟨J,L,q⟩:=h;exact .inr (.inl ⟨a,vs,rfl,.inr (.of e),je1 F J,jdw z L,by rw[jhm F J z L];exact q⟩)
 ·cases ry;rename_i a;split at h
  ·rename_i ys g;obtain⟨vs,e,z⟩:=I.lst g;rcases h with⟨J,L,q⟩|⟨d,ds,hd,Y,sd,O,q⟩
   ·exact .inr (.inl ⟨a,vs,rfl,.inl (.of e),je1 F J,jdw z L,by rw[jhm F J z L];exact q⟩)
   ·exact .inr (.inr (.inr ⟨a,vs,d,ds,rfl,.inl (.of e),hd.dv I F,Y.dv I z,sd.1,sd.2,λe he=>(O e he).1,q⟩))
  ·rename_i ys g;obtain⟨ob,vs,e,z⟩:=I a _ g;obtain⟨J,L,q⟩:=h;exact .inr (.inl ⟨a,vs,rfl,.inl (.inl (.inr ⟨ob,e⟩)),je1 F J,jdw z L,by rw[jhm F J z L];exact q⟩)
  ·rename_i Z g;obtain⟨l,e,z⟩:=I a _ g;split at h
   ·rename_i y ek;have:=jfw F ek;subst this;exact .inr (.inr (.inl ⟨a,_,rfl,DGet.k e,by rw[jdV y z];exact h⟩))
   lia
  ·rename_i Z g;obtain⟨l,e,z⟩:=I a _ g;split at h
   ·rename_i xs;obtain⟨b,vs,rfl,eb,rb⟩:=F;split at h
    ·rename_i y ek;have:=jg9 rb ek;subst this;exact .inr (.inr (.inl ⟨a,_,rfl,DGet.t e eb,by rw[jdV y z];exact h⟩))
    lia
   lia
  ·rename_i o Z g;obtain⟨l,e,z⟩:=I a _ g;split at h
   ·rename_i y ek;have:=jfw F ek;subst this;exact .inr (.inr (.inl ⟨a,_,rfl,.inl ⟨l,y,.inr ⟨o,e⟩,rfl,rfl⟩,by rw[jdV y z];exact h⟩))
   lia
  lia
 lia
def jeO     (h:ordU o x y k):(∃i j,x=.int i/\y=.int j)\/(o=.LtE/\∃i j,x=.str i/\y=.str j):=by
 cases o<;>try exact h.elim
 all_goals cases x<;>try exact h.elim
 all_goals cases y<;>try exact h.elim
 all_goals lia
def jeC   (hr:Room k X.A) o:CmU X o:=by
 have hu:X.A.units+1<cLine:=by have:=hr.un;lia
 cases o with
 |Eq=>
  refine⟨_,jpI.or ((jnM hr).or ((jeP hr).or ((jhu hr).or (jfl hr)))),λx y v Z G H k Q0 L O Y h q=>?_⟩;rcases jmn L O Y h with h|⟨a,z,kvs,I,F,J,h4⟩|⟨a,b,xs,I,F,J,h4,h5⟩|⟨a,z,xs,I,F,J,h4⟩
  ·rcases jkX L O Y h with⟨I,F⟩|⟨d,e,I,F,J,h4,h5,h6⟩
   ·exact .inl ⟨I,q _ F⟩
   ·exact .inr (.inl ⟨d,e,I,F,J,h4,h5,q _ h6⟩)
  ·exact .inr (.inr (.inl ⟨a,z,kvs,I,F,J,q _ h4⟩))
  ·exact .inr (.inr (.inr (.inl ⟨a,b,xs,I,F,J,h4,q _ h5⟩)))
  ·exact .inr (.inr (.inr (.inr ⟨a,z,xs,I,F,J,q _ h4⟩)))
 |NotEq=>
  refine⟨_,jpD.or (jnI hr),λx y v Z G H k Q0 L O Y h q=>?_⟩;rcases jkX L O Y h with⟨I,F⟩|⟨d,e,I,F,J,h4,h5,h6⟩
  ·exact .inl ⟨I,q _ F⟩
  ·exact .inr ⟨d,e,I,F,J,h4,h5,q _ h6⟩
 |Is=>exact⟨λ_ _ _ _=>False,λ_ _ _ _ _ _ _ _ _ _ _ _ h=>h.elim,λ_ _ _ _ _ _ _ _ _ _ _ h _=>h.elim⟩
 |IsNot=>exact⟨λ_ _ _ _=>False,λ_ _ _ _ _ _ _ _ _ _ _ _ h=>h.elim,λ_ _ _ _ _ _ _ _ _ _ _ h _=>h.elim⟩
 |In=>
  refine⟨_,jin.or ((jio (X:=X)).or ((jnN hu).or (jnL hr))),λx y v Z G H k Q0 L O Y h q=>?_⟩;rcases jkS L O Y h with⟨i,j,I,F,J⟩|⟨p,xs,I,F,J,h4,h5⟩|⟨a,o,I,F,J⟩|⟨p,vs,d,ds,I,F,J,h4,h5,h6,h7,h8⟩
  ·grind
  ·exact .inr (.inl ⟨p,xs,I,F,J,h4,q _ h5⟩)
  ·exact .inr (.inr (.inl ⟨a,o,I,F,q _ J⟩))
  ·exact .inr (.inr (.inr ⟨p,vs,d,ds,I,F,J,h4,h5,h6,h7,q _ h8⟩))
 |NotIn=>
  refine⟨_,jfj.or ((jfk (X:=X)).or ((jip hu).or (jil hr))),λx y v Z G H k Q0 L O Y h q=>?_⟩;rcases jkS L O Y h with⟨i,j,I,F,J⟩|⟨p,xs,I,F,J,h4,h5⟩|⟨a,o,I,F,J⟩|⟨p,vs,d,ds,I,F,J,h4,h5,h6,h7,h8⟩
  ·grind
  ·exact .inr (.inl ⟨p,xs,I,F,J,h4,q _ h5⟩)
  ·exact .inr (.inr (.inl ⟨a,o,I,F,q _ J⟩))
  ·exact .inr (.inr (.inr ⟨p,vs,d,ds,I,F,J,h4,h5,h6,h7,q _ h8⟩))
 |Lt=>
  refine⟨_,jpE,λx y v Z G H k Q0 L O Y h q=>?_⟩;obtain⟨i,j,rfl,rfl⟩|⟨z,_⟩:=jeO h
  rotate_left
  ·cases z
  cases L;cases O;exact⟨_,_,rfl,rfl,q _ h⟩
 |LtE=>
  refine⟨_,jpF.or jim,λx y v Z G H k Q0 L O Y h q=>?_⟩;obtain⟨i,j,rfl,rfl⟩|⟨_,i,j,rfl,rfl⟩:=jeO h
  ·cases L;cases O;exact .inl ⟨_,_,rfl,rfl,q _ h⟩
  ·cases L;cases O;exact .inr ⟨_,_,rfl,rfl,q _ h⟩
 |Gt=>
  refine⟨_,jpG,λx y v Z G H k Q0 L O Y h q=>?_⟩;obtain⟨i,j,rfl,rfl⟩|⟨z,_⟩:=jeO h
  rotate_left
  ·cases z
  cases L;cases O;exact⟨_,_,rfl,rfl,q _ h⟩
 |GtE=>
  refine⟨_,jpH,λx y v Z G H k Q0 L O Y h q=>?_⟩;obtain⟨i,j,rfl,rfl⟩|⟨z,_⟩:=jeO h
  rotate_left
  ·cases z
  cases L;cases O;exact⟨_,_,rfl,rfl,q _ h⟩

def jo3   (Y:CmU X o)(Z:PE X a (lE X ta))(hb:PE X b (lE X tb))(L:Yek o b=false) :
  PE X (.Compare a [o] [b] pos) (lE X λF G Q E=>ta F G (λx J=>tb F J (λy j=>cmpU o x y j λc=>Q (.bl c) j) E) E):=by
 obtain⟨r,O,h2⟩:=Y;exact(jlM O Z hb L).imp λσ H Q0 h=>lE.two h λx y v v' G H' Q I ry z q lv=>h2 x y v v' G H' _ Q0 I ry z q λc q=>lv.bl z q
def jmH   (ho:CmU X o)(xa:CmU X o')(ha:PE X a (lE X ta))(hb:PE X b (lE X tb))(hc:PE X c (lE X tc))(hm:Ygi [o,o'] [b,c]=false) :
  PE X (.Compare a [o,o'] [b,c] pos) (lE X λI G Q E=>ta I G (λx G1=>tb I G1 (λy L=>cmpU o x y L λt=>if t=true then tc I L (λz G3=>cmpU o' y z G3 λt'=>Q (.bl t') G3) E else Q (.bl false) L) E) E):=by
 obtain⟨r,h1,h2⟩:=ho;obtain⟨r',za,ja⟩:=xa;refine(jjO h1 za ha hb hc hm).imp λσ H Q0 h=>?_;obtain⟨I,G,Q,E,J,hG,h,lv,lx⟩:=h;refine⟨I,G,_,E,J,hG,h,λx v G1 H1 rx F O h1=>?_,lx⟩;refine⟨I,G1,_,E,J.ts (O.ts hG),F,h1,λy v' L H2 ry j Y h3=>?_,lx.fr O⟩;refine h2 x y v v' L H2 _ _ (rx.ts (Y.ts F)) ry j h3 λt q=>⟨t,rfl,?_⟩;cases t with
 |false=>
  rw[if_neg Yal]at q ⊢;exact(lv.fr (O.trans Y)).bl j q
 |true=>
  rw[if_pos rfl]at q ⊢;refine⟨I,L,_,E,(J.ts (O.ts hG)).ts (Y.ts F),j,q,λz v3 G3 H3 rz Z f3 h4=>?_,lx.fr (O.trans Y)⟩;exact ja y z v' v3 G3 H3 _ Q0 (ry.ts (f3.ts j)) rz Z h4 λc q=>(lv.fr ((O.trans Y).trans f3)).bl Z q
def jeH  {X: Cx}(y:RU X.K H x v)(I:HR X.K H G)(h:truU x G k):∃b,TruV X.K v H b/\k b:=by
 cases x<;>try exact h.elim
 ·cases y;exact⟨_,rfl,h⟩
 ·cases y;exact⟨_,rfl,h⟩
 ·cases y;exact⟨_,rfl,h⟩
 ·cases y;exact⟨_,⟨h.1,rfl⟩,h.2⟩
 ·obtain⟨a,z,rfl,e,j⟩:=y;exact⟨_,.inr (.inl ⟨z,.of e,rfl⟩),by rw[<- j.isEmpty];exact h⟩
 ·cases y;unfold truU at h;dsimp only at h;split at h
  ·rename_i g;obtain⟨z,e,j⟩:=I.lst g;exact⟨_,.inl ⟨z,.of e,rfl⟩,by rw[<- j.isEmpty];exact h⟩
  ·rename_i g;obtain⟨J,z,e,j⟩:=I _ _ g;exact⟨_,.inl ⟨z,.inl (.inr ⟨J,e⟩),rfl⟩,by rw[<- j.isEmpty];exact h⟩
  ·rename_i F g;obtain⟨l,e,j⟩:=I _ _ g;refine⟨_,.inr (.inr ⟨l,e,rfl⟩),?_⟩;cases F with
   |nil=>cases j;exact h
   |cons p r=>obtain⟨v,L,rfl,_⟩:=j;exact h
  lia
def joS  (Z:PE X a (lE X ta))(L:∀j,isTrue a X.env j=(do let v <- j;standAt a.pos;holding [v] (truthy v))):PT X a (lT X λI G Q E=>ta I G (λx y=>truU x y λb=>Q b y) E):=by
 refine(jjC Z L).imp λσ H Q0 h=>?_;obtain⟨I,G,Q,E,z,O,h,lv,lx⟩:=h;refine⟨I,G,_,E,z,O,h,λx v y H1 J F f1 Y=>?_,lx⟩;obtain⟨b,h2,h3⟩:=jeH J F Y
 grind
def jmG   (ho:CmU X o)(ha:PE X a (lE X ta))(hb:PE X b (lE X tb))(hm:Yek o b=false) :
  PT X (.Compare a [o] [b] pos) (lT X λI G Q E=>ta I G (λx O=>tb I O (λy j=>cmpU o x y j λc=>truU (.bl c) j λc=>Q c j) E) E):=by
 obtain⟨r,Y,h2⟩:=ho;refine(jlx Y ha hb hm).imp λσ H Q0 h=>?_;obtain⟨I,G,Q,E,J,hG,h,lv,lx⟩:=h;refine⟨I,G,_,E,J,hG,h,λx v O H1 rx F L Y=>?_,lx⟩;refine⟨I,O,_,E,J.ts (L.ts hG),F,Y,λy v' j H2 ry z Z h3=>?_,lx.fr L⟩;exact h2 x y v v' j H2 _ _ (rx.ts (Z.ts F)) ry z h3 λt q=>⟨t,rfl,lv t j H2 z (L.trans Z) q⟩
def jlc   (ho:CmU X o)(za:CmU X o')(ha:PE X a (lE X ta))(hb:PE X b (lE X tb))(hc:PE X c (lE X tc))(hm:Ygi [o,o'] [b,c]=false) :
  PT X (.Compare a [o,o'] [b,c] pos) (lT X λJ G Q E=>ta J G (λx G1=>tb J G1 (λy F=>cmpU o x y F λt=>if t=true then tc J F (λz Y=>cmpU o' y z Y λt'=>truU (.bl t') Y λc=>Q c Y) E else truU (.bl false) F λc=>Q c F) E) E):=by
 obtain⟨r,h1,h2⟩:=ho;obtain⟨r',ja,va⟩:=za;refine(jjD h1 ja ha hb hc hm).imp λσ H Q0 h=>?_;obtain⟨J,G,Q,E,L,hG,h,lv,lx⟩:=h;refine⟨J,G,_,E,L,hG,h,λx v G1 H1 rx I O h1=>?_,lx⟩;refine⟨J,G1,_,E,L.ts (O.ts hG),I,h1,λy v' F H2 ry j Z h3=>?_,lx.fr O⟩;refine h2 x y v v' F H2 _ _ (rx.ts (Z.ts I)) ry j h3 λt q=>⟨t,rfl,?_⟩;cases t with
 |false=>
  rw[if_neg Yal]at q ⊢;exact⟨false,rfl,lv false F H2 j (O.trans Z) q⟩
 |true=>
  rw[if_pos rfl]at q ⊢;refine⟨J,F,_,E,(L.ts (O.ts hG)).ts (Z.ts I),j,q,λz v3 Y H3 rz xa f3 h4=>?_,lx.fr (O.trans Z)⟩;exact va y z v' v3 Y H3 _ _ (ry.ts (f3.ts j)) rz xa h4 λc q=>⟨c,rfl,lv c Y H3 xa ((O.trans Z).trans f3) q⟩
def jlN  {rest:List Expr}(Y:PE X a sa)(O:PE X (.BoolOp .And (b::rest) pos) sb):PE X (.BoolOp .And (a::b::rest) pos) (λy H Q=>sa y H λx H1=>∃k,TruV X.K x H1 k/\if k=true then sb y H1 Q else Q x H1):=by
 intro j s y H Q I h;refine PyProof.Rows.BoolOp_and (thn (Y j s y H _ I h) λv s1 ⟨x,H1,F,r1,k,hk,q1⟩=>?_);refine thn (jgJ j s1 y H1 x v (λc H2=>c=k/\H2=H1) F r1 ⟨k,hk,rfl,rfl⟩) λc s2 ⟨H2,z,L,J⟩=>?_;subst L J;cases c with
 |true=>exact O j s2 y H2 Q z q1
 |false=>exact⟨x,H2,z,r1,q1⟩
def jnq  {rest:List Expr}(Y:PE X a sa)(O:PE X (.BoolOp .Or (b::rest) pos) sb):PE X (.BoolOp .Or (a::b::rest) pos) (λy H Q=>sa y H λx H1=>∃k,TruV X.K x H1 k/\if k=true then Q x H1 else sb y H1 Q):=by
 intro j s y H Q I h;refine PyProof.Rows.BoolOp_or (thn (Y j s y H _ I h) λv s1 ⟨x,H1,F,r1,k,hk,q1⟩=>?_);refine thn (jgJ j s1 y H1 x v (λc H2=>c=k/\H2=H1) F r1 ⟨k,hk,rfl,rfl⟩) λc s2 ⟨H2,z,L,J⟩=>?_;subst L J;cases c with
 |true=>exact⟨x,H2,z,r1,q1⟩
 |false=>exact O j s2 y H2 Q z q1
def jo6  {rest:List Expr}(ha:PE X a (lE X ta))(hb:PE X (.BoolOp .And (b::rest) pos) (lE X tb)):PE X (.BoolOp .And (a::b::rest) pos) (lE X λF G Q E=>ta F G (λx y=>truU x y λc=>if c=true then tb F y Q E else Q x y) E):=by
 refine(jlN ha hb).imp λσ H Q0 h=>?_;obtain⟨F,G,Q,E,z,O,h,Y,lx⟩:=h;refine⟨F,G,_,E,z,O,h,λx v y H1 L j I Z=>?_,lx⟩;obtain⟨k,h2,J⟩:=jeH L j Z;refine⟨k,h2,?_⟩;cases k with
 |true=>rw[if_pos rfl]at J ⊢;exact⟨F,y,Q,E,z.ts (I.ts O),j,J,Y.fr I,lx.fr I⟩
 |false=>rw[if_neg Yal]at J ⊢;exact(Y.fr I).here L j J
def u_or  {rest:List Expr}(ha:PE X a (lE X ta))(hb:PE X (.BoolOp .Or (b::rest) pos) (lE X tb)):PE X (.BoolOp .Or (a::b::rest) pos) (lE X λF G Q E=>ta F G (λx y=>truU x y λc=>if c=true then Q x y else tb F y Q E) E):=by
 refine(jnq ha hb).imp λσ H Q0 h=>?_;obtain⟨F,G,Q,E,z,O,h,Y,lx⟩:=h;refine⟨F,G,_,E,z,O,h,λx v y H1 L j I Z=>?_,lx⟩;obtain⟨k,h2,J⟩:=jeH L j Z;refine⟨k,h2,?_⟩;cases k with
 |true=>rw[if_pos rfl]at J ⊢;exact(Y.fr I).here L j J
 |false=>rw[if_neg Yal]at J ⊢;exact⟨F,y,Q,E,z.ts (I.ts O),j,J,Y.fr I,lx.fr I⟩
def joV  (ha:PE X a (lE X ta)):PE X (.UnaryOp .Not a pos) (lE X λF G Q E=>ta F G (λx z=>truU x z λb=>Q (.bl (!b)) z) E):=by
 intro j s L H Q0 I h;obtain⟨F,G,Q,E,J,hG,h,lv,lx⟩:=h;refine PyProof.Rows.UnaryOp_ (thn (ha j s L H (λv H1=>∃k,TruV X.K v H1 k/\Q0 (.bl (!k)) H1) I ⟨F,G,_,E,J,hG,h,λx v z H1 rx y Z h1=>?_,lx⟩) λv s1 ⟨x,H1,O,r1,k,hk,q1⟩=>?_)
 ·obtain⟨k,h2,h3⟩:=jeH rx y h1;exact⟨k,h2,(lv.fr Z).bl y h3⟩
 ·refine PyProof.Rows.not_of (thn (jgJ j s1 L H1 x v (λc H2=>c=k/\H2=H1) O r1 ⟨k,hk,rfl,rfl⟩) λc s2 ⟨H2,I2,e1,Y⟩=>?_);subst e1 Y;exact⟨.bl (!c),H2,I2,rfl,q1⟩
def jmB  (O:PT X a (lT X Y)):PT X (.UnaryOp .Not a pos) (lT X λF G Q E=>Y F G (λb j=>Q (!b) j) E):=by
 refine(jky O).imp λσ H Q0 h=>?_;obtain⟨F,G,Q,E,y,L,h,Z,lx⟩:=h;exact⟨F,G,_,E,y,L,h,λb j H1 z I J=>Z (!b) j H1 z I J,lx⟩
def jmJ  {tB: UT}{rest:List Expr}(Z:PT X a (lT X tA))(hb:PW X (.BoolOp .And (b::rest) pos) (lT X tB)):PW X (.BoolOp .And (a::b::rest) pos) (lT X λy G Q E=>tA y G (λc z=>if c=true then tB y z Q E else Q false z) E):=by
 refine(pw_and Z hb).imp λσ H Q0 h=>?_;obtain⟨y,G,Q,E,j,L,h,lv,lx⟩:=h;refine⟨y,G,_,E,j,L,h,λc z H1 I F O=>?_,lx⟩;cases c with
 |false=>grind
 |true=>rw[if_pos rfl]at O ⊢;exact⟨y,z,Q,E,j.ts (F.ts L),I,O,λb Y H2 J f2 h2=>lv b Y H2 J (F.trans f2) h2,lx.fr F⟩
def joU  {tB: UT}{rest:List Expr}(Z:PT X a (lT X tA))(hb:PW X (.BoolOp .Or (b::rest) pos) (lT X tB)):PW X (.BoolOp .Or (a::b::rest) pos) (lT X λy G Q E=>tA y G (λc z=>if c=true then Q true z else tB y z Q E) E):=by
 refine(pw_or Z hb).imp λσ H Q0 h=>?_;obtain⟨y,G,Q,E,j,L,h,lv,lx⟩:=h;refine⟨y,G,_,E,j,L,h,λc z H1 I F O=>?_,lx⟩;cases c with
 |true=>grind
 |false=>rw[if_neg Yal]at O ⊢;exact⟨y,z,Q,E,j.ts (F.ts L),I,O,λb Y H2 J f2 h2=>lv b Y H2 J (F.trans f2) h2,lx.fr F⟩
end Z

namespace L2
open PySem PySem.Spec PyProof.Rows

def jo8  (K:Yae)(I z:TE):TE:=λF H Q=>I F H λx H1=>z F H1 λy H2=>(∃a j,x=.ref a/\SqL K H2 a j/\
 ((y=.int 1/\∀p,H2 p=none->Q (.ref p) (upd H2 p (.lst j)))\/(y=.int (-1)/\∀p,H2 p=none->Q (.ref p) (upd H2 p (.lst j.reverse)))))\/
 ∃a j,x=.ref a/\SqT K H2 a j/\y=.int (-1)/\∀p,H2 p=none->Q (.ref p) (upd H2 p (.tup j.reverse))
def jlK  {st: Expr}(he:PE X e te)(hs:PE X st xa):PE X (.Subscript e (.Slice none none (some st) p2) pos) (jo8 X.K te xa):=by
 intro j s O H Q I h;refine Subscript_ (thn (he j s O H _ I h) λv s1 ⟨x,H1,I1,r1,q1⟩=>?_);refine wpAny_Slice ?_;rw[YfN,evalPart_some];refine Yam (Yam ?_);refine thn (hs j s1 O H1 _ I1 q1) λu z ⟨y,H3,I3,r3,q3⟩=>?_;have F:Inv X j O H3 { z with heap:=z.heap.push { cls:=.type "slice",data:=.fields #[.none,.none,u] } }:=I3.kept (t':=z.toks) λb ob q=>Yad _ q
 rcases q3 with⟨a,Y,rfl,Z,q3⟩|⟨a,Y,rfl,Z,rfl,q⟩
 ·cases r1;obtain⟨za,r,J,hz⟩:=F.list Z;have L:=r.length;show wpAny (model X.prog X.w) X.A (Yee e (.Slice none none (some st) p2) (.ref a) (.ref z.heap.objs.size)) (EP X j O Q) X.xe { z with heap:=z.heap.push { cls:=.type "slice",data:=.fields #[.none,.none,u] } }
  refine tail_any (ops:=[.ref a,.ref z.heap.objs.size]) J.isList.typeIs slot_list_getitem.lookup ?_ (by with_unfolding_all rfl)
  rcases q3 with⟨rfl,q⟩|⟨rfl,q⟩
  ·obtain⟨t,rfl⟩:=r3;refine Ydg J.isList (Heap.IsSliceOf.new ..) .none .none (.int 1 t) (by decide) ?_ (by simp_all)
   rw[jkf];refine⟨.ref _,_,F.laid (t':=z.toks) (o:=.lst Y) (λb ob q=>Yad _ q) (Yac _) ?_,rfl,q _ (F.hok.fresh (Yac _))⟩;exact⟨hz,_,0,r,Yay _ rfl⟩
  ·obtain⟨t,rfl⟩:=r3;refine Ydg J.isList (Heap.IsSliceOf.new ..) .none .none (.int (-1) t) (by decide) ?_ (by simp_all)
   rw[jjx];refine⟨.ref _,_,F.laid (t':=z.toks) (o:=.lst Y.reverse) (λb ob q=>Yad _ q) (Yac _) ?_,rfl,q _ (F.hok.fresh (Yac _))⟩;exact⟨by simp_all,_,0,r.rev,Yay _ rfl⟩
 ·cases r1;obtain⟨t,rfl⟩:=r3;obtain⟨za,r,J,hz⟩:=F.tuple Z;have L:=r.length;show wpAny (model X.prog X.w) X.A (Yee e (.Slice none none (some st) p2) (.ref a) (.ref z.heap.objs.size)) (EP X j O Q) X.xe { z with heap:=z.heap.push { cls:=.type "slice",data:=.fields #[.none,.none,.int (-1) t] } }
  refine tail_any (ops:=[.ref a,.ref z.heap.objs.size]) J.typeIs Ya4.lookup ?_ (by with_unfolding_all rfl)
  refine HT.getItem_tuple_rev J (Heap.IsSliceOf.new ..) ?_ (by lia)
  refine⟨.ref _,_,F.laid (t':=z.toks) (o:=.tup Y.reverse) (λb ob q=>Yad _ q) (Yac _) ?_,rfl,q _ (F.hok.fresh (Yac _))⟩;exact⟨by simp_all,_,r.rev,TupD.new _ _⟩
end L2
namespace Z
open PySem L2
section
variable {X:Cx}{pos:Pos}{a b e:Expr}{es:List Expr}{ta tb te:UE}{ts:UA}
def jfX  : PA X [] (lA X λ_ G Q _=>Q [] G):=by
 refine jei.imp λI H J h=>?_;obtain⟨F,G,Q,E,y,j,h,z,lx⟩:=h;exact z [] [] G H rfl j (Fr.refl _ _) h
def jdA  (ha:PE X e (lE X te))(hr:PA X es (lA X ts))(hs:YaC (e::es) X.env=(false,eval e X.env)::YaC es X.env):PA X (e::es) (lA X λz G Q E=>te z G (λx I=>ts z I (λxs L=>Q (x::xs) L) E) E):=by
 refine(jbN ha hr hs).imp λσ H Q0 h=>?_;obtain⟨z,G,Q,E,j,Z,h,lv,lx⟩:=h;refine⟨z,G,_,E,j,Z,h,λx v I H1 rx y O h1=>?_,lx⟩;refine⟨z,I,_,E,j.ts (O.ts Z),y,h1,λxs Y L H2 F J f2 h2=>?_,lx.fr O⟩;exact lv (x::xs) (v::Y) L H2 ⟨v,Y,rfl,rx.ts (f2.ts y),F⟩ J (O.trans f2) h2
def joP   (h:PA X es (lA X ts)):PE X (.Tuple es k pos) (lE X λF G Q E=>ts F G (λus j=>us.length<=Yai/\Q (.tup us) j) E):=
 (jii h).imp λO H Y h=>lE.many h λus J G L Q r z q I=>⟨by rw[<- r.length];exact q.1,λp y=>I.tup y r z q.2⟩
def jo0  (h:PA X es (lA X ts)):PE X (.List es pos) (lE X λF G Q E=>ts F G (λus j=>us.length<=Yai/\newO j (.lst us) Q) E):=
 (jkC h).imp λO H Y h=>lE.many h λus J G L Q r z q I=>⟨by rw[<- r.length];exact q.1,λp y=>I.lst y r z q.2⟩
def rDix  : R2:=λx y H Q=>∃a v,x=.ref a/\DGet H a y (some v)/\Q v H
def jmc  (hu:X.A.units+1<cLine):IxR X rDix:=by
 intro z F J s σ H x y v u Q I Y L h Z;obtain⟨a,w,rfl,g,q⟩:=h;cases Y;exact PyProof.Rows.tail_any (jgr I g) PySem.F.slot_dict_getitem.lookup (ji4 hu I g L λw' s3 O j=>⟨w,H,O,j,q⟩) Z
def jkP {H:Hp}{G:Gp}{y:U}{j:V}{Q:K1}{z:VK}{a:Addr}{xs:List U}{vs:List V}(h:match y with|.int i=>(match atI xs i with|some u=>Q u G|none=>False)|_=>False)
  (O:RU X.K H y j) (L:HR X.K H G) (Y:LV X H G Q z) (F:SqL X.K H a vs) (J:RUs X.K H xs vs):rIx X.K (.ref a) j H z:=by
 cases y with
 |int i=>
  cases O;dsimp only at h;split at h
  ·rename_i u e;obtain⟨w,I,r⟩:=J.atI e;exact .inl ⟨_,vs,_,w,rfl,rfl,F,I,Y.here r L h⟩
  lia
 |_=>lia
def jof        (rx:RU X.K H x v)(I:RU X.K H y v')(j:HR X.K H G)(h:ixU x y G Q)(J:LV X H G Q Q0):rIx X.K v v' H Q0\/rDix v v' H Q0:=by
 cases x<;>try exact h.elim
 ·cases y<;>try exact h.elim
  cases rx;cases I;obtain⟨h1,h⟩:=h;split at h
  ·rename_i c e1;exact .inl (.inr (.inr ⟨_,_,c,rfl,rfl,h1,e1,J.str j h⟩))
  lia
 ·cases y<;>try exact h.elim
  obtain⟨a,Z,rfl,e,z⟩:=rx;cases I;unfold ixU at h;dsimp only at h;split at h
  ·rename_i u e1;obtain⟨w,F,r⟩:=z.atI e1;exact .inl (.inr (.inl ⟨a,Z,_,w,rfl,rfl,.of e,F,J.here r j h⟩))
  lia
 ·cases rx;unfold ixU at h;dsimp only at h;split at h
  ·rename_i g;obtain⟨Z,e,z⟩:=j.lst g;exact .inl (jkP h I j J (.of e) z)
  ·rename_i g;obtain⟨ob,Z,e,z⟩:=j _ _ g;exact .inl (jkP h I j J (.inl (.inr ⟨ob,e⟩)) z)
  ·rename_i L g;obtain⟨l,e,z⟩:=j _ _ g;split at h
   ·rename_i k O;have:=jfw I O;subst this;split at h
    ·rename_i u Y;have:=jcW k z;rw[Y]at this;obtain⟨w,F,r⟩:=this;exact .inr ⟨_,w,rfl,by rw[<- F];exact DGet.k e,J.here r j h⟩
    lia
   lia
  ·rename_i L g;obtain⟨l,e,z⟩:=j _ _ g;split at h
   ·rename_i ys;obtain⟨b,bs,rfl,eb,rb⟩:=I;split at h
    ·rename_i k O;have:=jg9 rb O;subst this;split at h
     ·rename_i u Y;have:=jcW k z;rw[Y]at this;obtain⟨w,F,r⟩:=this;exact .inr ⟨_,w,rfl,by rw[<- F];exact DGet.t e eb,J.here r j h⟩
     lia
    lia
   lia
  ·rename_i o L g;obtain⟨l,e,z⟩:=j _ _ g;split at h
   ·rename_i k O;have:=jfw I O;subst this;split at h
    ·rename_i u Y;have:=jcW k z;rw[Y]at this;obtain⟨w,F,r⟩:=this;exact .inr ⟨_,w,rfl,by rw[<- F];exact .inl ⟨l,k,.inr ⟨o,e⟩,rfl,rfl⟩,J.here r j h⟩
    lia
   lia
  lia
def u_ix  (hu:X.A.units+1<cLine)(J:PE X a (lE X ta))(O:PE X b (lE X tb))(hs:jgC b):PE X (.Subscript a b pos) (lE X λj G Q E=>ta j G (λx z=>tb j z (λy F=>ixU x y F Q) E) E):=
 (jpC ((joe (X:=X)).or (jmc hu)) J O hs).imp λσ H Q0 h=>lE.two h λx y v v' G H' Q Y L I q Z=>jof Y L I q Z
def u_no  : PO X none (lO X λ_ G Q _=>Q none G):=jlF.imp λI H J h=>by
 obtain⟨F,G,Q,E,y,j,h,z,lx⟩:=h;exact z none G H j (Fr.refl _ _) h
def u_so (J:PE X e (lE X te)):PO X (some e) (lO X λy G Q E=>te y G (λx z=>match x with|.int i=>Q (some i) z|_=>False) E):=(jlE J).imp λσ H Q0 h=>by
 obtain⟨y,G,Q,E,j,I,h,Z,lx⟩:=h;refine⟨y,G,_,E,j,I,h,λx v z H1 O L Y F=>?_,lx⟩;dsimp only at F;split at F
 ·cases O
  grind
 lia
def u_sl     (ha:PE X e (lE X te))(hl:PO X lo (lO X tl))(hh:PO X hi (lO X th)) :
  PE X (.Subscript e (.Slice lo hi none p2) pos) (lE X λO G Q E=>te O G (λx G1=>tl O G1 (λl G2=>th O G2 (λh G3=>slU x l h G3 Q) E) E) E):=by
 refine(jjL (SlR.or (jll (X:=X)) (SlR.or jlm jmW)) ha hl hh).imp λσ H Q0 h=>?_;obtain⟨O,G,Q,E,Y,hG,h,lv,lx⟩:=h;refine⟨O,G,_,E,Y,hG,h,λx v G1 H1 rx L Z h1=>?_,lx⟩;refine⟨O,G1,_,E,Y.ts (Z.ts hG),L,h1,λl G2 H2 xa f2 h2=>?_,lx.fr Z⟩;refine⟨O,G2,_,E,(Y.ts (Z.ts hG)).ts (f2.ts L),xa,h2,λu G3 H3 y f3 I=>?_,lx.fr (Z.trans f2)⟩;have F:=lv.fr ((Z.trans f2).trans f3);have J:=rx.ts ((f2.ts L).trans (f3.ts xa));cases x<;>try exact I.elim
 ·cases J;exact .inr (.inr ⟨_,rfl,I.1,F.str y I.2⟩)
 ·obtain⟨a,j,rfl,ea,rs⟩:=J;by_cases z:HT.sIx j.length 0 l=0/\HT.sIx j.length j.length u=j.length
  ·refine .inl (.inr ⟨a,j,rfl,.of ea,z,?_⟩);refine F.here (w:=.tup _) ⟨a,j,rfl,ea,?_⟩ y I;have e2:cutV j l u=j:=by unfold cutV;simp_all
   have:=rs.cut l u
   lia
  ·exact .inl (.inl ⟨a,j,rfl,.of ea,z,λp hp=>F.tup hp (rs.cut l u) y I⟩)
 ·cases J;unfold slU at I;dsimp only at I;split at I
  ·rename_i us eu;obtain⟨j,sq,rs⟩:=y.ls eu;exact .inr (.inl ⟨_,j,rfl,sq,λp hp=>F.lst hp (rs.cut l u) y I⟩)
  lia
def joT    (ha:PE X a (lE X ta))(hb:PE X st (lE X tb)):PE X (.Subscript a (.Slice none none (some st) p2) pos) (lE X λO G Q E=>ta O G (λx G1=>tb O G1 (λy G2=>revU x y G2 Q) E) E):=by
 refine(jlK ha hb).imp λσ H Q0 h=>lE.two h λx y v v' G H' Q Z Y I q J=>?_;cases x<;>try exact q.elim
 all_goals cases y<;>try exact q.elim
 ·obtain⟨a,z,rfl,ea,F⟩:=Z;cases Y;obtain⟨rfl,q⟩:=q;exact .inr ⟨a,z,rfl,.of ea,rfl,λp j=>J.tup j F.reverse I q⟩
 ·cases Z;cases Y;unfold revU at q;dsimp only at q;split at q
  ·rename_i us eu;obtain⟨z,L,F⟩:=I.ls eu;obtain⟨hi,q⟩:=q;rcases hi with rfl|rfl
   ·exact .inl ⟨_,z,rfl,L,.inl ⟨rfl,λp j=>J.lst j F I q⟩⟩
   ·exact .inl ⟨_,z,rfl,L,.inr ⟨rfl,λp j=>J.lst j F.reverse I q⟩⟩
  lia
end
end Z

namespace L2
open PySem PySem.Spec PyProof.Rows
section
variable {X:Cx}
def jkb  (y:X.calm=true):jaW X (.builtin "all") (λxs H Q=>∃(p:Addr) (bs:List Bool),xs=[.ref p]/\SqL X.K H p (bs.map V.bl)/\Q (.bl (bs.all id)) H):=by
 rintro j s σ H xs us Q I r ⟨p,bs,rfl,hq,q⟩;obtain⟨u,rfl,O⟩:=jcV r;cases O;obtain⟨Y,L,wr,P,S,Z,W,st,J,z⟩:=jhL y I hq true;exact call_all_walk (Yde Z ⟨_,L,wr,_,P,S,_,rfl,W,st,J,λF tk hk=>⟨.bl _,H,I.kept (z F hk),congrArg Yez (LSm.range_all bs),q⟩⟩)
end
end L2
namespace Z
open PySem L2
noncomputable def bltN  : Blt->Str
 |.len => "len" |.repr => "repr" |.min => "min" |.max => "max" |.sum => "sum" |.all => "all" |.any => "any" |.sorted => "sorted" |.int => "int" |.str => "str" |.isi => "isinstance"
noncomputable def bltV  : Blt->Value
 |.len=>.builtin "len" |.repr=>.builtin "repr" |.min=>.builtin "min" |.max=>.builtin "max" |.sum=>.builtin "sum" |.all=>.builtin "all" |.any=>.builtin "any" |.sorted=>.builtin "sorted" |.int=>.type "int" |.str=>.type "str" |.isi=>.builtin "isinstance"

def RUs.one      (r:RUs K H [u] vs):∃v,vs=[v]/\RU K H u v:=by
 obtain⟨v,y,rfl,r1,j⟩:=r;cases j
 lia
def RUs.two      (r:RUs K H [u,w] vs):∃v j,vs=[v,j]/\RU K H u v/\RU K H w j:=by
 obtain⟨v,z,rfl,r1,y⟩:=r;obtain⟨j,rfl,r2⟩:=y.one
 lia
def jl9   K:∀t∈["NoneType", "bool", "int", "str", "list", "tuple", "dict"],∀c∈["bool", "int", "str", "list", "tuple", "dict"],Ydl K (.type t) (.type c)=some (t==c||(t == "bool" && c == "int")):=by
 simp only[List.forall_mem_cons,Yak,false_implies,implies_true,and_true];refine⟨?_,?_,?_,?_,?_,?_,?_⟩<;>refine⟨?_,?_,?_,?_,?_,?_⟩<;>rfl
def jle     (h:tyN x G=some n):n∈["NoneType", "bool", "int", "str", "list", "tuple", "dict"]:=by
 unfold tyN at h;split at h<;>first|(cases h;decide)|(split at h<;>first|(cases h;decide)|cases h)|cases h
def jmd  {X: Cx}(r:RU X.K H x v)(j:HR X.K H G)(h:isiU x G t=some b):∃z,TyOf X.K H v z/\Ydl X.K z (.type t)=some b:=by
 unfold isiU at h;split at h
 ·rename_i n en;split at h
  ·rename_i F;cases h;refine⟨.type n,?_,jl9 X.K n (jle en) t F⟩;unfold tyN at en;split at en
   ·cases en;cases r;exact .non
   ·cases en;cases r;exact .bl _
   ·cases en;cases r;exact .int _
   ·cases en;cases r;exact .str _
   ·cases en;obtain⟨a,y,rfl,e,_⟩:=r;exact .tup e
   ·cases r;split at en
    ·rename_i g;cases en;obtain⟨y,e,_⟩:=j.lst g;exact .lst e
    ·rename_i g;cases en;obtain⟨y,e,_⟩:=j _ _ g;exact .dK e
    ·rename_i g;cases en;obtain⟨y,e,_⟩:=j _ _ g;exact .dT e
    lia
   lia
  lia
 lia
def BlU  (X:Cx)(b:Blt):Prop:=∃r,jaW X (bltV b) r/\∀y j G H Q z,RUs X.K H y j->HR X.K H G->bltU b y G Q->LV X H G Q z->r j H z
def joI   (hr:Room k X.A)(hc:X.calm=true) b:BlU X b:=by
 cases b with
 |len=>
  refine⟨_,jaW.or (jka (X:=X)) jje,λF O G H Q L r j h z=>?_⟩
  change lenU F G Q at h
  obtain _|⟨x,t⟩:=F<;>try exact h.elim
  cases x<;>try exact h.elim
  all_goals obtain _|⟨_,_⟩:=t<;>try exact h.elim
  all_goals obtain⟨v,rfl,r1⟩:=r.one
  ·cases r1;exact .inl ⟨_,_,rfl,⟨h.1,rfl⟩,z.int j h.2⟩
  ·obtain⟨a,Y,rfl,e,J⟩:=r1;exact .inl ⟨_,_,rfl,.inr ⟨Y,.of e,rfl⟩,by rw[<- J.length];exact z.int j h⟩
  ·cases r1;unfold lenU at h;dsimp only at h;split at h
   ·rename_i g;obtain⟨Y,e,J⟩:=j.lst g;exact .inl ⟨_,_,rfl,.inl ⟨Y,.of e,rfl⟩,by rw[<- J.length];exact z.int j h⟩
   ·rename_i g;obtain⟨ob,Y,e,J⟩:=j _ _ g;exact .inl ⟨_,_,rfl,.inl ⟨Y,.inl (.inr ⟨ob,e⟩),rfl⟩,by rw[<- J.length];exact z.int j h⟩
   ·rename_i I g;obtain⟨l,e,J⟩:=j _ _ g;refine .inr ⟨_,l,rfl,e,?_⟩;have:∀{I:List (Key×U)} {l:List (Key×V)},RKs X.K H I l->I.length=l.length:=by
     intro I
     induction I with
     |nil=>intro l r;cases r;rfl
     |cons p q ih=>intro l r;obtain⟨v,l',rfl,_,J⟩:=r;simp[ih J]
    rw[<- this J];exact z.int j h
   ·exact h.elim
 |repr=>
  refine⟨_,jhJ hr,λF O G H Q L r j h z=>?_⟩
  change jjy F G Q at h
  obtain _|⟨x,_|⟨_,_⟩⟩:=F<;>try exact h.elim
  obtain⟨v,rfl,r1⟩:=r.one;obtain⟨d,h1,Z,h3⟩:=h;exact⟨v,d,rfl,h1.dv j r1,Z,z.str j h3⟩
 |min=>
  refine⟨_,jjc hc,λF O G H Q L r j h z=>?_⟩
  change minU F G Q at h
  obtain _|⟨x,t⟩:=F<;>try exact h.elim
  cases x<;>try exact h.elim
  obtain _|⟨y,t⟩:=t<;>try exact h.elim
  cases y<;>try exact h.elim
  obtain _|⟨_,_⟩:=t<;>try exact h.elim
  obtain⟨v,v',rfl,r1,r2⟩:=r.two;cases r1;cases r2;exact⟨_,_,rfl,z.int j h⟩
 |max=>
  refine⟨_,jjd hc,λF O G H Q L r j h z=>?_⟩
  change maxU F G Q at h
  unfold maxU at h;split at h<;>first|exact h.elim|skip
  obtain⟨v,v',rfl,r1,r2⟩:=r.two;cases r1;cases r2;exact⟨_,_,rfl,z.int j h⟩
 |sum=>exact⟨λ_ _ _=>False,λ_ _ _ _ _ _ _ _ _ h=>h.elim,λ_ _ _ _ _ _ _ _ h _=>h.elim⟩
 |any=>exact⟨λ_ _ _=>False,λ_ _ _ _ _ _ _ _ _ h=>h.elim,λ_ _ _ _ _ _ _ _ h _=>h.elim⟩
 |all=>
  refine⟨_,jkb hc,λF O G H Q L r j h z=>?_⟩
  change allU F G Q at h
  obtain _|⟨x,t⟩:=F<;>try exact h.elim
  cases x<;>try exact h.elim
  all_goals obtain _|⟨_,_⟩:=t<;>try exact h.elim
  obtain⟨v,rfl,r1⟩:=r.one;cases r1;unfold allU at h;dsimp only at h;split at h
  ·rename_i g;obtain⟨Y,e,J⟩:=j.lst g;split at h
   ·rename_i ns en;have:=J.bools en;subst this;exact⟨_,ns,rfl,.of e,z.bl j h⟩
   ·exact h.elim
  ·exact h.elim
 |sorted=>exact⟨λ_ _ _=>False,λ_ _ _ _ _ _ _ _ _ h=>h.elim,λ_ _ _ _ _ _ _ _ h _=>h.elim⟩
 |int=>
  refine⟨_,jji.or je4,λF O G H Q L r j h z=>?_⟩
  change intU F G Q at h
  obtain _|⟨x,t⟩:=F<;>try exact h.elim
  cases x<;>try exact h.elim
  all_goals obtain _|⟨_,_⟩:=t<;>try exact h.elim
  all_goals obtain⟨v,rfl,r1⟩:=r.one
  all_goals cases r1
  ·exact .inl (.inr ⟨_,rfl,z.int j h⟩)
  ·exact .inl (.inl ⟨_,rfl,z.int j h⟩)
  ·obtain⟨n,h1,Z,h⟩:=h;exact .inr ⟨_,n,rfl,h1,Z,z.int j h⟩
 |str=>
  refine⟨_,jfL.or (jjb (X:=X)),λF O G H Q L r j h z=>?_⟩
  change strU F G Q at h
  obtain _|⟨x,t⟩:=F<;>try exact h.elim
  cases x<;>try exact h.elim
  all_goals obtain _|⟨_,_⟩:=t<;>try exact h.elim
  all_goals obtain⟨v,rfl,r1⟩:=r.one
  all_goals cases r1
  ·exact .inr ⟨_,rfl,z.str j h⟩
  ·exact .inl ⟨_,rfl,h.1,z.str j h.2⟩
 |isi=>
  refine⟨_,jgv,λF O G H Q L r j h z=>?_⟩
  change jhC F G Q at h
  obtain _|⟨x,_|⟨y,t⟩⟩:=F<;>try exact h.elim
  cases y<;>try exact h.elim
  obtain _|⟨_,_⟩:=t<;>try exact h.elim
  rename_i t;obtain⟨v,v',rfl,r1,r2⟩:=r.two;cases r2;unfold jhC at h;dsimp only at h;split at h
  ·rename_i b eb;obtain⟨tv,h1,Z⟩:=jmd r1 j eb;exact⟨v,t,tv,b,rfl,h1,Z,z.bl j h⟩
  ·exact h.elim
def jkc   b:YbS (bltN b)=some (bltV b):=by
 cases b with
 |len=>exact PySem.boot_len
 |repr=>exact(by with_unfolding_all rfl)
 |min=>exact PyProof.Rows.boot_min
 |max=>exact PyProof.Rows.boot_max
 |sum=>exact PyProof.Rows.boot_sum
 |any=>exact PyProof.Rows.boot_any
 |all=>exact PyProof.Rows.boot_all
 |sorted=>exact PyProof.Rows.boot_sorted
 |int=>exact PyProof.Rows.boot_int
 |str=>exact PyProof.Rows.boot_str
 |isi=>exact YdA
def joJ   b:bltN b ≠ "__name__" /\ (bltN b==("__debug__" : Str))=false:=by cases b<;>decide
def jo4       (hb:BlU X b)(hg:Gl X (bltN b))(O:X.mg (bltN b)=none)(ha:PA X (e::es) (lA X ts))
  (L:YaC (e::es) X.env=(false,eval e X.env)::YaC es X.env) (y:(backTo pos (YaC es X.env)).any (·.1)=false) :
  PE X (.Call (.Name (bltN b) p) (e::es) [] pos) (lE X λJ G Q E=>ts J G (λus I=>bltU b us I Q) E):=by
 obtain⟨r,h1,h2⟩:=hb;have j:∀F H z,lE X (λJ G Q E=>ts J G (λus I=>bltU b us I Q) E) F H z->tCB r (lA X ts) F H z:=λF H z h=>lE.many h λus vs G H' Q rs hG q lv=>h2 us vs G H' Q z rs hG q lv;have hv:=jkc b;obtain⟨Z,Y⟩:=joJ b;cases b
 all_goals first
  |exact(jdt h1 hg O hv ha Z Y L y).imp j
  |exact(jcJ h1 hg O hv ha Z Y L y).imp j
noncomputable def mthN  : Mth->Str
 |.append => "append" |.extend => "extend" |.insert => "insert" |.pop => "pop" |.reverse => "reverse" |.index => "index" |.join => "join" |.get => "get" |.split => "split" |.setd => "setdefault"
section
variable {X:Cx}
def RUs.mk        (r:RU K H u v)(j:RUs K H us vs):RUs K H (u::us) (v::vs):=⟨v,vs,rfl,r,j⟩
structure MtK (X:Cx)(m:Mth)(T id:String):Prop where
 pa:PlainAttrs T
 sl:Slot T (mthN m) id
 ty:typeOf (.builtin id)=pure (.type "method_descriptor")
def MtU  (X:Cx)(m:Mth):Prop:=∀x F T j,mtU m x F=some (T,j)->MtK X m T j/\(∀v H1,RU X.K H1 x v->HR X.K H1 F->tyV X.K T v H1)/\
 ∃r,MtR X j r/\∀z v y G H Q I,RU X.K H x v->RUs X.K H z y->HR X.K H G->jbh m x z G Q->LV X H G Q I->r v y H I
def jhQ     (g:G a=some (.lst us)):∀v H1,RU X.K H1 (.loc a) v->HR X.K H1 G->tyV X.K "list" v H1:=λv H1 r y=>by
 cases r;obtain⟨j,e,_⟩:=y.lst g;exact .inl ⟨rfl,j,.of e⟩
def jiy  : MtU X .append:=by
 intro x G1 T id h;dsimp only[mtU]at h;cases x<;>try (cases h;done)
 dsimp only at h;split at h
 ·rename_i g;cases h;refine⟨⟨YcZ,PySem.F.slot_list_append,PySem.F.type_list_append⟩,jhQ g,_,jfq,λj v I G H Q Q0 Y J F h Z=>?_⟩;cases Y;dsimp only[jbh]at h;obtain _|⟨_,_|⟨_,_⟩⟩:=j<;>try exact h.elim
  unfold jgz at h;dsimp only at h;split at h
  ·rename_i z;obtain⟨O,e,r⟩:=F.lst z;obtain⟨y,rfl,L⟩:=J.one;refine⟨_,O,y,rfl,rfl,e,by rw[<- r.length];exact h.1,?_⟩
   exact Z.wl z (r.append (RUs.mk (us:=[]) (vs:=[]) L rfl)) F (w:=.non) rfl h.2
  ·exact h.elim
 ·cases h
def jix  : MtU X .extend:=by
 intro x G1 T id h;dsimp only[mtU]at h;cases x<;>try (cases h;done)
 dsimp only at h;split at h
 ·rename_i g;cases h;refine⟨⟨YcZ,PySem.F.slot_list_extend,PySem.F.type_list_extend⟩,jhQ g,_,jiz,λI v vs G H Q Q0 rx O j h lv=>?_⟩;cases rx;dsimp only[jbh]at h;obtain _|⟨y0,t⟩:=I<;>try exact h.elim
  cases y0<;>try exact h.elim
  obtain _|⟨_,_⟩:=t<;>try exact h.elim
  unfold jgn at h;dsimp only at h;split at h
  ·rename_i z Y;obtain⟨ws,e,r⟩:=j.lst z;obtain⟨L,J,F⟩:=j.lst Y;obtain⟨y,rfl,Z⟩:=O.one;cases Z;refine⟨_,_,ws,L,rfl,rfl,e,J,by rw[<- r.length,<- F.length];exact h.1,?_⟩
   exact lv.wl z (r.append F) j (w:=.non) rfl h.2
  ·exact h.elim
 ·cases h
def jnS  : MtU X .pop:=by
 intro x G1 T id h;dsimp only[mtU]at h;cases x<;>try (cases h;done)
 dsimp only at h;split at h
 ·rename_i g;cases h;refine⟨⟨YcZ,PySem.F.slot_list_pop,PySem.F.type_list_pop⟩,jhQ g,_,MtR.or (mt_pop (X:=X)) jjU,λus v vs G H Q Q0 Z O I h Y=>?_⟩;cases Z;dsimp only[jbh]at h;obtain _|⟨y0,t⟩:=us
  ·unfold popU at h;dsimp only at h;split at h
   ·rename_i j;obtain⟨L,e,r⟩:=I.lst j;cases O;split at h
    ·rename_i u J;obtain⟨y,F,z⟩:=r.get J;rw[r.length]at F;exact .inl ⟨_,L,y,rfl,rfl,e,F,Y.wl j r.dropLast I z h⟩
    ·exact h.elim
   ·exact h.elim
  ·cases y0<;>try exact h.elim
   obtain _|⟨_,_⟩:=t<;>try exact h.elim
   unfold popU at h;dsimp only at h;split at h
   ·rename_i j;obtain⟨L,e,r⟩:=I.lst j;obtain⟨y,rfl,z⟩:=O.one;cases z;obtain⟨h1,h2,h⟩:=h;split at h
    ·rename_i k ek;split at h
     ·rename_i u J;obtain⟨y,F,z⟩:=r.get J;exact .inr ⟨_,L,_,k,y,rfl,rfl,e,h1,h2,by rw[<- r.length];exact ek,F,Y.wl j (r.erase k) I z h⟩
     ·exact h.elim
    ·exact h.elim
   ·exact h.elim
 ·cases h
def jl3  : MtU X .join:=by
 intro x G1 T id h;dsimp only[mtU]at h;split at h<;>first|contradiction|skip
 cases h;refine⟨⟨PySem.F.plainAttrs_str,PySem.F.slot_str_join,PySem.F.type_str_join⟩,λv H1 r j=>by cases r;rfl,_,mt_join,λus v vs G H Q Q0 Y L j h Z=>?_⟩
 cases Y;dsimp only[jbh]at h;unfold jma at h;split at h<;>first|exact h.elim|skip
 ·rename_i I;cases I;obtain⟨y,rfl,O⟩:=L.one;cases O;split at h
  ·rename_i F;obtain⟨ws,e,r⟩:=j.lst F;split at h
   ·rename_i J z;have:=r.strs z;subst this;exact⟨_,_,J,rfl,rfl,.inl (.of e),h.1,h.2.1,Z.str j h.2.2⟩
   ·exact h.elim
  ·exact h.elim
def RKs.put   [DecidableEq κ](r:RU K H u v):∀{kvs } {l:List (κ×V)},RKs K H kvs l->RKs K H (dPut kvs k u) (putK l k v):=by
 intro kvs l h;have any:∀{kvs:List (κ×U)} {l:List (κ×V)},RKs K H kvs l->(kvs.any λj=>decide (j.1=k))=l.any λj=>decide (j.1=k):=by
  intro kvs
  induction kvs with
  |nil=>intro l h;cases h;rfl
  |cons p q z=>intro l h;obtain⟨w,J,rfl,_,F⟩:=h;grind
 have repl:∀{kvs:List (κ×U)} {l:List (κ×V)},RKs K H kvs l->RKs K H (kvs.map λj=>if j.1=k then (j.1,u) else j) (l.map λj=>if j.1=k then (j.1,v) else j):=by
  intro kvs
  induction kvs with
  |nil=>intro l h;cases h;rfl
  |cons p q z=>
   intro l h;obtain⟨L,O⟩:=p;obtain⟨w,J,rfl,y,F⟩:=h;simp only[YaO];by_cases e:L=k
   ·rw[if_pos e,if_pos e];exact⟨v,_,rfl,r,z F⟩
   ·rw[if_neg e,if_neg e];exact⟨w,_,rfl,y,z F⟩
 have I:∀{kvs:List (κ×U)} {l:List (κ×V)},RKs K H kvs l->RKs K H (kvs++[(k,u)]) (l++[(k,v)]):=by
  intro kvs
  induction kvs with
  |nil=>intro l h;cases h;exact⟨v,[],rfl,r,rfl⟩
  |cons p q z=>intro l h;obtain⟨L,O⟩:=p;obtain⟨w,J,rfl,y,F⟩:=h;exact⟨w,_,rfl,y,z F⟩
 unfold dPut putK
 grind
theorem RKs.length     : ∀{kvs:List (κ×U)} {l },RKs K H kvs l->kvs.length=l.length
 |[],_,h=>by cases h;rfl
 |(_,_)::_,_,h=>by obtain⟨v,y,rfl,_,j⟩:=h;simp[j.length]
theorem jeX    : ∀{k:List Key} {bs },RUs K H (k.map Ku) bs->bs=k.map kV
 |[],_,h=>h
 |.inl z::k,_,h=>by
  obtain⟨v,y,rfl,r,j⟩:=h;rw[show v=.int z from r,jeX j];rfl
 |.inr x::k,_,h=>by
  obtain⟨v,y,rfl,r,j⟩:=h;rw[show v=.str x from r,jeX j];rfl
def rGet  : V->List V->Hp->VK->Prop:=λx j H Q=>∃a y d o,x=.ref a/\j=[y,d]/\DGet H a y o/\Q (o.getD d) H
def jkJ  (hu:X.A.units+1<cLine):MtR X "dict.get" rGet:=by
 intro j s σ H x Z Y us Q I O z h;obtain⟨a,y,d,o,rfl,rfl,g,q⟩:=h;cases(show Y=Ya1 a from O);obtain⟨u,r,rfl,J,rr⟩:=Vals.two z;exact joC hu I g J rr λw' s' L F=>⟨_,_,L,F,q⟩
def jid   [DecidableEq κ](k:κ)(y:RKs K H kvs l)(rd:RU K H d w):RU K H ((dGet kvs k).getD d) ((valV l k).getD w):=by
 have j:=jcW k y;cases e:dGet kvs k with
 |none=>rw[e]at j;rw[show valV l k=none from j];exact rd
 |some u=>rw[e]at j;obtain⟨v,F,z⟩:=j;rw[F];exact z
def jnT  (hu:X.A.units+1<cLine):MtU X .get:=by
 intro x G1 T id h;dsimp only[mtU]at h;split at h<;>first|contradiction|skip
 have O:∀(z:List U) (v:V) (I:List V) (G:Gp) (H:Hp) (Q:K1) (F:VK) (a:Addr),RU X.K H (.loc a) v->RUs X.K H z I->HR X.K H G->getU (.loc a) z G Q->LV X H G Q F->rGet v I H F:=λz v I G H Q F a Z Y j h J=>by
  cases Z;obtain _|⟨y,_|⟨w,_|⟨_,_⟩⟩⟩:=z<;>try exact h.elim
  unfold getU at h;dsimp only at h;obtain⟨y',ja,rfl,ry,za⟩:=Y;obtain⟨w',rfl,L⟩:=za.one;split at h<;>first|exact h.elim|skip
  ·rename_i xa g2;split at h<;>first|exact h.elim|skip
   rename_i k ek;obtain⟨l,e,rk⟩:=j _ _ g2;have:=jfw ry ek;subst this;exact⟨_,_,_,_,rfl,rfl,.k e,J.here (jid k rk L) j h⟩
  ·rename_i xa g2;obtain⟨k,rfl,h⟩:=h;obtain⟨l,e,rk⟩:=j _ _ g2;obtain⟨b,bs,rfl,eb,rb⟩:=ry;rw[jeX rb]at eb;exact⟨_,_,_,_,rfl,rfl,.t e eb,J.here (jid k rk L) j h⟩
 split at h<;>first|contradiction|skip
 ·rename_i g;cases h;refine⟨⟨Yeu,Ycy,YeN⟩,λv H1 r j=>?_,_,jkJ hu,λz v I G H Q F Z Y j h J=>O z v I G H Q F _ Z Y j h J⟩;cases r;obtain⟨l,e,_⟩:=j _ _ g;exact .inr (.inr (.inl ⟨rfl,.inl ⟨l,e⟩⟩))
 ·rename_i g;cases h;refine⟨⟨Yeu,Ycy,YeN⟩,λv H1 r j=>?_,_,jkJ hu,λz v I G H Q F Z Y j h J=>O z v I G H Q F _ Z Y j h J⟩;cases r;obtain⟨l,e,_⟩:=j _ _ g;exact .inr (.inr (.inl ⟨rfl,.inr ⟨l,e⟩⟩))
def jkI  (hu:X.A.units+1<cLine) m:MtU X m:=by
 cases m with
 |append=>exact jiy
 |extend=>exact jix
 |insert=>intro x y T j h;cases h
 |pop=>exact jnS
 |reverse=>intro x y T j h;cases h
 |index=>intro x y T j h;cases h
 |join=>exact jl3
 |split=>intro x y T j h;cases h
 |setd=>intro x y T j h;cases h
 |get=>exact jnT hu
variable {m:Mth}{o e:Expr}{es:List Expr}{to:UE}{ts:UA}{apos cpos:Pos}
def jmC (hm:MtU X m)(ho:PE X o (lE X to))(ha:PA X (e::es) (lA X ts))(L:YcR o (mthN m) X.env (eval o X.env)=eval o X.env)
  (za:((backTo cpos (YaC (e::es) X.env)).all (λx=>!x.1)&&(backToKw cpos (keywordEach [] X.env)).all (λx=>x.1.isSome)
   && decide ((e::es).length+([]:List Keyword).length+(if ([]:List Keyword).isEmpty then 0 else 1)<30))=true)
  (O:(apos.endLine==cpos.line)=true) (hs:YaC (e::es) X.env=(false,eval e X.env)::YaC es X.env) (ja:(backTo cpos (YaC es X.env)).any (·.1)=false) :
  PE X (.Call (.Attribute o (mthN m) apos) (e::es) [] cpos) (lE X λY G Q E=>to Y G (λx j=>match mtU m x j with|some _=>ts Y j (λus y=>jbh m x us y Q) E|none=>False) E):=by
 intro F s σ H Q0 I h;obtain⟨Y,G,Q,E,xa,hG,h,lv,lx⟩:=h;refine PySem.wpAny_Call_method_late L za O rfl (thn (ho F s σ H (λv H1=>∃x j T id,RU X.K H1 x v/\HR X.K H1 j/\Fr H G H1 j/\mtU m x j=some (T,id)/\ts Y j (λus y=>jbh m x us y Q) E) I
  ⟨Y,G,_,E,xa,hG,h,λx v j H1 rx z f1 Z=>?_,lx⟩) λv s1 ⟨xv,H1,I1,r1,x,j,T,id,rx,z,f1,em,Z⟩=>?_)
 ·dsimp only at Z;split at Z
  ·rename_i p ep;exact⟨x,j,p.1,p.2,rx,z,f1,ep,Z⟩
  ·exact Z.elim
 ·obtain⟨k,ya,r,va,wa⟩:=hm x j T id em;obtain⟨t1,t2⟩:=jkj I1 r1 (ya xv H1 rx z);refine⟨T,id,k.pa,k.sl,k.ty,t1,t2,?_⟩;have hA:=ha cpos F s1 σ H1 (λvs H2=>∃us y,RUs X.K H2 us vs/\HR X.K H2 y/\Fr H1 j H2 y/\jbh m x us y Q) I1 ⟨Y,j,_,E,xa.ts (f1.ts hG),z,Z,λus vs y H2 rs J f2 h2=>⟨us,y,rs,J,f2,h2⟩,lx.fr f1⟩;rw[hs]at hA ⊢;refine Ye1 (by simp_all) (Calls.evalArgs_plain ?_)
  exact thn hA λus s2 ⟨vs,H2,I2,r2,ws,y,rs,J,f2,h2⟩=>va F s2 σ H2 xv vs v us Q0 I2 r1 r2 (wa ws xv vs y H2 Q Q0 (rx.ts (f2.ts z)) rs J h2 (lv.fr (f1.trans f2)))
def jlb (hm:MtU X m)(ho:PE X o (lE X to))(F:YcR o (mthN m) X.env (eval o X.env)=eval o X.env)(J:(apos.endLine==cpos.line)=true) :
  PE X (.Call (.Attribute o (mthN m) apos) [] [] cpos) (lE X λς G Q E=>to ς G (λx j=>match mtU m x j with|some _=>jbh m x [] j Q|none=>False) E):=by
 intro z s σ H Q0 I h;obtain⟨ς,G,Q,E,ja,hG,h,lv,lx⟩:=h;refine PySem.wpAny_Call_method0_late F J (thn (ho z s σ H (λv H1=>∃x j T O,RU X.K H1 x v/\HR X.K H1 j/\Fr H G H1 j/\mtU m x j=some (T,O)/\jbh m x [] j Q) I
  ⟨ς,G,_,E,ja,hG,h,λx v j H1 Y y Z L=>?_,lx⟩) λv s1 ⟨xv,H1,I1,r1,x,j,T,O,Y,y,Z,em,L⟩=>?_)
 ·dsimp only at L;split at L
  ·rename_i p ep;exact⟨x,j,p.1,p.2,Y,y,Z,ep,L⟩
  ·exact L.elim
 ·obtain⟨k,za,r,xa,va⟩:=hm x j T O em;obtain⟨t1,t2⟩:=jkj I1 r1 (za xv H1 Y y);exact⟨T,O,k.pa,k.sl,k.ty,t1,t2,Ye1 rfl (PySem.evalArgs_none (xa z s1 σ H1 xv [] v [] Q0 I1 r1 .nil (va [] xv [] j H1 Q Q0 Y rfl y L (lv.fr Z))))⟩
end
end Z

namespace L2
open PySem PySem.Spec PyProof.Rows

def iSeq  (K:Yae)(y:TE):TI:=λz H R=>y z H λx H1=>∃a,x=.ref a/\(((∃j,SqL K H1 a j)/\R (Itl K a) H1)\/((∃j,SqT K H1 a j)/\R (Itt K a) H1))
def jnn    (hl:PE X l Y):PI X tg l (iSeq X.K Y):=by
 intro y s σ H R I h;refine thn (hl y s σ H _ I h) λv s1 ⟨x,H1,j,r1,q1⟩=>?_;obtain⟨a,e,⟨⟨L,F⟩,q⟩|⟨⟨L,F⟩,q⟩⟩:=q1
 ·subst e;cases r1;obtain⟨z,O,p,J⟩:=j.list F;refine Yde p.isList ?_;refine⟨s1.heap.objs.size,[s1.heap.objs.size],_,_,H1,rfl,j.kept (t':=s1.toks) λb o e=>Yad _ e,jhT a _,⟨_,Yay _ rfl,rfl,rfl⟩,λb Z=>?_,q⟩;have e:b=s1.heap.objs.size:=by simp_all
  subst e;exact j.fpOk (Yac _) (j.hok.fresh (Yac _))
 ·subst e;cases r1;obtain⟨z,O,p,J⟩:=j.tuple F;refine wpAny_pyIter_tuple (show s1.heap.IsTuple a z.toArray from p) ?_;refine⟨s1.heap.objs.size,[s1.heap.objs.size],_,_,H1,rfl,j.kept (t':=s1.toks) λb o e=>Yad _ e,jho a _,⟨_,Yay _ rfl,rfl,rfl⟩,λb Z=>?_,q⟩;have e:b=s1.heap.objs.size:=by simp_all
  subst e;exact j.fpOk (Yac _) (j.hok.fresh (Yac _))
def PI.imp    (h:PI X tg iter t)(i:∀y H R,t' y H R->t y H R):PI X tg iter t':=λj s y H R I q=>h j s y H R I (i y H R q)
def PG.imp    (h:PG X j t)(i:∀v z H Q,t' v z H Q->t v z H Q):PG X j t':=λy s z H v u Q I r q=>h y s z H v u Q I r (i v z H Q q)
def PGs.imp    (h:PGs X ts t)(i:∀v y H Q,t' v y H Q->t v y H Q):PGs X ts t':=λj s y H v u Q I r q=>h j s y H v u Q I r (i v y H Q q)
def PIfs.imp    (h:PIfs X ifs t)(i:∀y H Q,t' y H Q->t y H Q):PIfs X ifs t':=λj s y H Q I q=>h j s y H Q I (i y H Q q)
end L2
namespace Z
open PySem L2
abbrev UI:=Sg->Gp->(List U->(Gp->Prop)->Gp->Prop)->KX->Prop
def jgB  (K:Yae)(J:L2.It)(H:Hp)(G:Gp)(xs:List U)(ok:Gp->Prop):Prop:=∀i y z,TS H y->HR K y z->ok z->
 (∀u,xs[i]?=some u->J.go i y/\∀v j,J.yld i y v j->RU K j u v/\HR K j z/\Fr y z j z)/\(i=xs.length->J.stop i y)
def jgB.mono    {H H2:Hp}(h:jgB K J H G xs ok)(t:TS H H2):jgB K J H2 G2 xs ok:=λi z j y=>h i z j (t.trans y)
section
variable (X:Cx)
def lI (t:UI):TI:=λI H R=>∃F G Q E,SR X.K H F I/\HR X.K H G/\t F G Q E/\(∀z ok y j J,HR X.K j y->Fr H G j y->jgB X.K J j y z ok->Q z ok y->R J j)/\LX X I H G E
def lG (K:Yae)(t:U->Sg->(Sg->Prop)->Prop):TG:=λv F H I=>∃u z k,RU K H u v/\SR K H z F/\t u z k/\∀j y,SR K H j y->k j->I y H
def lGs  (K:Yae)(t:List U->Sg->(Sg->Prop)->Prop):TGs:=λI J H L=>∃z F k,RUs K H z I/\SR K H F J/\t z F k/\∀y j,SR K H y j->k y->L j H
end
section
variable {X:Cx}{tg:Expr}{pos:Pos}{te ta tb:UE}
def u_ie   (hl:PE X l (lE X te)):PI X tg l (lI X λς G Q E=>te ς G (λx G1=>itU x G1 λxs ok=>Q xs ok G1) E):=by
 refine(jnn hl).imp λσ H R h=>?_;obtain⟨ς,G,Q,E,za,hG,h,lv,lx⟩:=h;refine⟨ς,G,_,E,za,hG,h,λx v G1 H1 rx I f1 L=>?_,lx⟩;dsimp only at L;unfold itU at L;split at L
 ·obtain⟨a,z,rfl,ea,rs⟩:=rx;refine⟨a,rfl,.inr ⟨⟨z,.of ea⟩,lv _ _ _ H1 _ I f1 (λi H' G' f hr _=>?_) L⟩⟩;have e':H' a=some (.tup z):=f a _ ea;refine⟨λu Z=>?_,λe=>⟨z,.of e',by rw[e,rs.length];lia⟩⟩
  obtain⟨w,Y,j⟩:=rs.get Z;refine⟨⟨z,w,.of e',Y⟩,λv xa y=>?_⟩;obtain⟨rfl,y⟩:=y;have:=y z (.of e');rw[Y]at this;cases this;exact⟨j.ts f,hr,Fr.refl _ _⟩
 ·cases rx;rename_i a;split at L
  ·rename_i us Z;obtain⟨z,sq,rs⟩:=I.ls Z;refine⟨_,rfl,.inl ⟨⟨z,sq⟩,lv _ _ _ H1 _ I f1 (λi H' G' f hr ok=>?_) L⟩⟩;obtain⟨J,F,O⟩:=hr.ls ok;refine⟨λu Z=>?_,λe=>⟨J,F,by rw[e,O.length];lia⟩⟩
   obtain⟨w,Y,j⟩:=O.get Z;refine⟨⟨J,w,F,Y⟩,λv xa y=>?_⟩;obtain⟨rfl,y⟩:=y;have:=y J F;rw[Y]at this;cases this;exact⟨j,hr,Fr.refl _ _⟩
  lia
 lia
def jjw      lo n:jgB K (Itr lo n) H G (rngU lo n) λ_=>True:=by
 intro i L O f F _;have J:(rngU lo n).length=n:=by simp[rngU]
 refine⟨λu j=>?_,λe=>by rw[J]at e;exact Yec e.symm⟩
 have z:i<n:=by grind
 refine⟨z,λv I y=>?_⟩;obtain⟨rfl,rfl⟩:=y;have:(rngU lo n)[i]?=some (.int (lo+i)):=by simp[rngU,Yau,YdC z]
 rw[this]at j;cases j;exact⟨rfl,F,Fr.refl _ _⟩
def u_r1 {a:Expr}{p:Pos}(O:Gl X "range")(Y:X.mg "range" = none)(ha:PE X a (lE X ta))(hs:YaC [a] X.env=[(false,eval a X.env)]):PI X tg (.Call (.Name "range" p) [a] [] pos) (lI X λJ G Q E=>ta J G (λx z=>match x with
   |.int j=>-(2 ^ 62)<=j/\j<2 ^ 62/\Q (rngU 0 j.toNat) (λ_=>True) z
   |_=>False) E):=by
 refine(jih O Y (jdA ha jfX hs) hs).imp λσ H R h=>?_;obtain⟨J,G,Q,E,F,hG,h,lv,lx⟩:=h;refine⟨J,G,λL z=>match L with|[x]=>(match x with|.int j=>-(2 ^ 62)<=j/\j<2 ^ 62/\Q (rngU 0 j.toNat) (λ_=>True) z|_=>False)|_=>False,E,F,hG,h,λL vs z H1 rs I Z y=>?_,lx⟩
 dsimp only at y;split at y
 ·obtain⟨v,rfl,r⟩:=rs.one;split at y
  ·cases r;exact⟨_,rfl,y.1,y.2.1,lv _ _ z H1 _ I Z (jjw 0 _) y.2.2⟩
  lia
 lia
theorem jbS  : ∀{n i } {xs } {u:U},(jc4 n xs)[i]?=some u->∃x,xs[i]?=some x/\u=.tup [.int ((n+i:Nat):Int),x]
 |_,_,[],_,h=>by simp[jc4]at h
 |n,0,x::xs,_,h=>by
  simp[jc4]at h
  simp_all
 |n,i+1,_::xs,_,h=>by
  obtain⟨x,j,y⟩:=jbS (n:=n+1) (i:=i) (xs:=xs) (by simpa[jc4]using h)
  grind
theorem jbm  : ∀n (xs:List U),(jc4 n xs).length=xs.length
 |_,[]=>rfl
 |n,_::xs=>by simp[jc4,jbm (n+1) xs]
def jmD      (hg:Gl X "enumerate")(hm:X.mg "enumerate" = none)(ha:PE X l (lE X ta))(hs:YaC [l] X.env=[(false,eval l X.env)]) :
  PI X (.Tuple ja x1 va) (.Call (.Name "enumerate" p) [l] [] pos) (lI X λς G Q E=>ta ς G (λx Z=>enI x Z λxs ok=>Q xs ok Z) E):=by
 refine(jjJ hg hm (jdA ha jfX hs) hs).imp λσ H R h=>?_;obtain⟨ς,G,Q,E,za,hG,h,lv,lx⟩:=h;refine⟨ς,G,λus Z=>match us with|[x]=>enI x Z λxs ok=>Q xs ok Z|_=>False,E,za,hG,h,λus vs Z H1 rs I f1 Y=>?_,lx⟩
 dsimp only at Y;split at Y
 ·obtain⟨v,rfl,r⟩:=rs.one;unfold enI at Y;split at Y
  ·obtain⟨a,ws,rfl,ea,rr⟩:=r;refine⟨a,rfl,.inl ⟨⟨ws,ea⟩,lv _ _ _ H1 _ I f1 (λi H' G' f hr _=>?_) Y⟩⟩;have e':H' a=some (.tup ws):=f a _ ea;refine⟨λu eu=>?_,λe=>⟨ws,e',by rw[e,jbm,rr.length]⟩⟩
   obtain⟨x,ex,rfl⟩:=jbS eu;obtain⟨w,ew,j⟩:=rr.get ex;refine⟨⟨ws,w,e',ew⟩,λv xa y=>?_⟩;obtain⟨ys,z,q,hq,O,rfl,J,rfl⟩:=y;rw[e']at hq;cases hq;rw[ew]at O;cases O;refine⟨⟨q,_,rfl,jaj,⟨_,_,rfl,by rw[Ycs];rfl,⟨_,_,rfl,(j.ts f).ts (TS.new J),rfl⟩⟩⟩,hr.newT J,Fr.new J⟩
  ·cases r;split at Y
   ·rename_i us eu;obtain⟨vs,sq,rs⟩:=I.ls eu;refine⟨_,rfl,.inr ⟨⟨vs,sq⟩,lv _ _ _ H1 _ I f1 (λi H' G' f hr ok=>?_) Y⟩⟩;obtain⟨L,F,rr⟩:=hr.ls ok;refine⟨λu eu=>?_,λe=>⟨L,F,by rw[e,jbm,rr.length]⟩⟩
    obtain⟨x,ex,rfl⟩:=jbS eu;obtain⟨w,ew,j⟩:=rr.get ex;refine⟨⟨L,w,F,ew⟩,λv xa y=>?_⟩;obtain⟨z,q,O,rfl,J,rfl⟩:=y;have O:=O L F;rw[ew]at O;cases O;refine⟨⟨q,_,rfl,jaj,⟨_,_,rfl,by rw[Ycs];rfl,⟨_,_,rfl,j.ts (TS.new J),rfl⟩⟩⟩,hr.newT J,Fr.new J⟩
   lia
  lia
 lia
def SR.set        (h:SR K H z σ)(r:RU K H u v) i:SR K H (z.set i (some u)) (σ.set i (some v)):=by
 refine⟨by simp[h.1],λj w e=>?_⟩
 by_cases y:j=i
 ·subst y;by_cases F:j<z.length
  ·rw[YbA F]at e;cases e;exact⟨v,YbA (by rw[<- h.1];exact F),r⟩
  simp_all
 ·rw[Ya5 (Ne.symm y)]at e ⊢;exact h.2 j w e
def u_tn    (y:X.N.Nodup)(hi:X.N[i]?=some x)(F:Loc X.env.scope x)(z:X.fn x=true\/X.env.scope.names.lookup x=some .local):PG X (.Name x pos) (lG X.K (tgU (.n i))):=by
 refine(jf6 y hi F z).imp λv J H Q h=>?_;obtain⟨u,I,k,r,j,h,q⟩:=h;exact q _ _ (j.set r i) h
def u_tt {j:List Expr}{k n:Nat}{ts:Tgs}(Y:X.calm=true)(h:PGs X j (lGs X.K (tgsU ts)))(O:(Ybn j X.env).length=n)(z:(Ybn j X.env).findIdx? (·.1)=none)(hl:∀us y k,tgsU ts us y k->us.length=n) :
  PG X (.Tuple j k pos) (lG X.K (tgU (.t ts))):=by
 refine(jno Y h O z).imp λv Z H Q h=>?_;obtain⟨u,y,k,r,F,h,q⟩:=h;cases u with
 |tup us=>
  obtain⟨a,J,rfl,e,I⟩:=r;have L:tgsU ts us y k:=h;exact⟨a,J,rfl,.of e,by rw[<- I.length];grind,us,y,k,I,F,L,q⟩
 |_=>exact h.elim
def joQ  : PGs X [] (lGs X.K (tgsU .nil)):=by
 refine jlI.imp λy I H Q h=>?_;obtain⟨z,F,k,r,j,h,q⟩:=h;obtain⟨rfl,h⟩:=h;cases r;exact⟨rfl,q _ _ j h⟩
def joR {e:Expr}{j:List Expr}{t:Tg}{ts:Tgs}(O:PG X e (lG X.K (tgU t)))(h2:PGs X j (lGs X.K (tgsU ts)))(hs:(Ybn (e::j) X.env).map (·.2)=assign e X.env::(Ybn j X.env).map (·.2)) :
  PGs X (e::j) (lGs X.K (tgsU (.cons t ts))):=by
 refine(jjK O h2 hs).imp λvs σ H Q h=>?_;obtain⟨y,Z,k,r,I,h,q⟩:=h;cases y with
 |nil=>exact h.elim
 |cons u y=>
  obtain⟨v,vr,rfl,r1,L⟩:=r;exact⟨v,vr,rfl,u,Z,_,r1,I,h,λz Y F J=>⟨y,z,k,L,F,J,q⟩⟩
end
def lE0  (K:Yae)(t:UE):TE:=λF H I=>∃z G Q,SR K H z F/\HR K H G/\t z G Q (λ_ _=>False)/\∀w v y j,RU K j w v->HR K j y->Fr H G j y->Q w y->I v j
def lT0  (K:Yae)(t:Sg->Gp->(Bool->Gp->Prop)->Prop):TT:=λF H I=>∃z G Q,SR K H z F/\HR K H G/\t z G Q/\∀b y j,HR K j y->Fr H G j y->Q b y->I b j
def LX.no      : LX X σ H G λ_ _=>False:=λ_ _ _ _ _ _ _ _ _ _ h=>h.elim
def lE0.of     (h:PE X e (lE X t)):PE X e (lE0 X.K t):=h.imp λJ H L ⟨z,G,Q,I,F,j,y⟩=>⟨z,G,Q,_,I,F,j,y,LX.no⟩
def lT0.of     (h:PT X e (lT X t)):PT X e (lT0 X.K λj G Q=>t j G Q λ_ _=>False):=h.imp λJ H L ⟨j,G,Q,I,F,y,z⟩=>⟨j,G,Q,_,I,F,y,z,LX.no⟩
mutual
noncomputable def tgS:Tg->List Nat
 |.n i=>[i]
 |.t ts=>tgsS ts
noncomputable def tgsS:Tgs->List Nat
 |.nil=>[]
 |.cons t ts=>tgS t++tgsS ts
end
def Ext  (y z:Sg):Prop:=y.length=z.length/\∀(j:Nat) (w:U),y[j]?=some (some w)->z[j]?=some (some w)
mutual
theorem jhZ {y:Sg}:∀{t:Tg} {u:U} {I:Sg} {k:Sg->Prop},(∀i∈tgS t,∀w,y[i]?≠some (some w))->Ext y I->tgU t u I k->tgU t u I λF=>k F/\Ext y F
 |.n i,u,I,k,hf,he,h=>by
  refine⟨h,by simp[he.1],λj w e=>?_⟩
  have L:j≠i:=λz=>hf i (by simp[tgS]) w (z ▸ e)
  rw[Ya5 (Ne.symm L)]
  exact he.2 j w e
 |.t ts,u,I,k,hf,he,h=>by
  cases u with
  |tup J=>exact jhX (ts:=ts) (us:=J) (λi O=>hf i O) he h
  |_=>exact h
theorem jhX {y:Sg}:∀{ts:Tgs} {us:List U} {z:Sg} {k:Sg->Prop},(∀i∈tgsS ts,∀w,y[i]?≠some (some w))->Ext y z->tgsU ts us z k->tgsU ts us z λj=>k j/\Ext y j
 |.nil,us,z,k,_,he,h=>⟨h.1,h.2,he⟩
 |.cons t ts,us,z,k,hf,he,h=>by
  cases us with
  |nil=>exact h
  |cons u r=>
   have:=jhZ (t:=t) (u:=u) (λi F=>hf i (by simp[tgsS,F])) he h
   refine jdB this λj ⟨J,I⟩=>jhX (λi F=>hf i (by simp[tgsS,F])) I J
theorem jdB:∀{t:Tg} {u:U} {j:Sg} {k k':Sg->Prop},tgU t u j k->(∀j,k j->k' j)->tgU t u j k'
 |.n _,_,_,_,_,h,i=>i _ h
 |.t ts,u,j,_,_,h,i=>by
  cases u with
  |tup y=>exact jgK (ts:=ts) (us:=y) h i
  |_=>exact h
theorem jgK:∀{ts:Tgs} {us:List U} {j:Sg} {k k':Sg->Prop},tgsU ts us j k->(∀j,k j->k' j)->tgsU ts us j k'
 |.nil,_,_,_,_,h,i=>⟨h.1,i _ h.2⟩
 |.cons t ts,us,j,_,_,h,i=>by
  cases us with
  |nil=>exact h
  |cons u r=>exact jdB (t:=t) h λy z=>jgK z i
end
def SR.ext      (h:SR K H y σ)(e:Ext j y):SR K H j σ:=⟨e.1.trans h.1,λi u q=>h.2 i u (e.2 i u q)⟩
theorem SR.pick      (h:SR K H y σ)(pick:List (Option Nat)):SR K H (jbM pick y) (pick.map λo=>o.bind λj=>(σ[j]?).join):=by
 refine⟨by simp[jbM],λi u e=>?_⟩
 unfold jbM at e;rw[Yau]at e ⊢;cases q:pick[i]? with
 |none=>simp_all
 |some o=>
  rw[q]at e;cases o with
  |none=>simp at e
  |some j=>
   simp only[Option.map_some,Option.bind_some,YeO]at e ⊢;have z:y[j]?=some (some u):=by
    grind
   obtain⟨v,F,r⟩:=h.2 j u z
   simp_all
section
variable {K:Yae}{H:Hp}{G:Gp}
def HR.newH  (h:HR K H G)(e:H p=none):HR K (upd H p o) G:=⟨λa y q=>by
 have m:=h a y q;obtain⟨z,j⟩:=m.there;exact m.keep (jad (jai j e)) (TS.new e),h.tab.new e⟩
def TS.hid     (e:H p=some (.lst ys)):TS H (upd H p o):=⟨λa j h=>by
 have:a≠p:=λz=>by lia
 rw[jad this];exact h,λa y h=>by
 have:a≠p:=λz=>by lia
 rw[jad this];exact h⟩
def HR.hid  (h:HR K H G)(e:H p=some (.lst ys))(g:G p=none):HR K (upd H p o) G:=⟨λa j q=>by
 have:a≠p:=λz=>by lia
 exact(h a j q).keep (jad this) (TS.hid e),h.tab.upd (λy z=>by lia) λj z=>by lia⟩
def HR.know  (h:HR K H G)(e:H p=some (.lst ys))(r:RUs K H us ys):HR K H (gup G p (.lst us)):=⟨λa j q=>by
 by_cases z:a=p
 ·subst z;rw[jar]at q;cases q;exact⟨ys,e,r⟩
 ·rw[jbf z]at q;exact h a j q,h.tab⟩
end
section
variable {X:Cx}{pick:List (Option Nat)}{ti:UI}{t:Tg}{tc:Sg->Gp->(Bool->Gp->Prop)->Prop}{te:UE}{σ:St}{H:Hp}{Q0:VK}
abbrev lcD  (pick:List (Option Nat))(ti:UI)(t:Tg)(Y:Sg->Gp->(Bool->Gp->Prop)->Prop)(Z:UE):UE:=λz G Q E=>ti z G (λj ok L=>j.length<=Yai/\jcR ok (λx O k=>tgU t x (jbM pick z) λy=>Y y O (λb F=>if b=true then Z y F (λu G4=>k (some u) G4) (λ_ _=>False) else k none F)) j [] L
   λJ I=>newO I (.lst J) Q) E
structure FrX (D:Addr)(H:Hp)(G:Gp)(H':Hp)(G':Gp):Prop where
 go:∀a o,a≠D->H a=some o->G a=none->(nt:noTb o=true:=by rfl)->H' a=some o/\G' a=none
instance {D:Addr} {H H':Hp} {G G':Gp}:CoeFun (FrX D H G H' G') λ_=>∀a o,a≠D->H a=some o->G a=none->(nt:noTb o=true:=by rfl)->H' a=some o/\G' a=none:=⟨@FrX.go D H G H' G'⟩
def jkL     {H1:Hp}{kk:List U->Gp->Prop}{QQ:St->List V->Hp->Prop}
  (free:∀i∈tgS t,∀w,I[i]?≠some (some w)) (wk:jgB X.K J H1 G1 xs ok) (ka:HR X.K H1 G1) (zd:H1 D=some (.lst vb)) (wc:G1 D=none) (yc:RUs X.K H1 acc0 vb) (yd:SR X.K H1 I qe) (hl:acc0.length+xs.length<=Yai)
  (h1:jcR ok (λx G2 k=>tgU t x I λZ=>tc Z G2 (λb G3=>if b=true then te Z G3 (λu G4=>k (some u) G4) (λ_ _=>False) else k none G3)) xs acc0 G1 kk)
  (kc:∀xb za va L j,SR X.K j I xb->HR X.K j L->FrX D H1 G1 j L->j D=some (.lst va)->L D=none->RUs X.K j za va->kk za L->QQ xb va j) :
  jhn J (lG X.K (tgU t)) (lT0 X.K tc) (emA (lE0 X.K te) D) QQ qe vb H1:=by
 refine⟨λi m Z ys j=>m=xs.length-i/\i<=xs.length/\∃F L,SR X.K j I Z/\HR X.K j L/\FrX D H1 G1 j L/\j D=some (.lst ys)/\L D=none/\RUs X.K j F ys/\F.length<=acc0.length+i/\
  jcR ok (λx G2 k=>tgU t x I λZ=>tc Z G2 (λb G3=>if b=true then te Z G3 (λu G4=>k (some u) G4) (λ_ _=>False) else k none G3)) (xs.drop i) F L kk,⟨xs.length,by simp,YaF _,acc0,G1,yd,ka,⟨λ_ _ _ a b _=>⟨a,b⟩⟩,zd,wc,yc,by lia,by simp_all⟩,?_⟩
 rintro i m Z ys j ⟨rfl,hi,F,L,sr,hr,f,eD,gD',ra,hal,hc⟩;have ts:TS H1 j:=⟨λa zs e=>(f a _ (λz=>by lia) e (ka.tupNone e)).1,λa zs e=>(f a _ (λz=>by lia) e (ka.codNone e)).1⟩
 by_cases Y:i<xs.length
 ·rw[Ybi Y]at hc;obtain⟨ja,hb⟩:=hc;obtain⟨w1,_⟩:=wk i j L ts hr ja;obtain⟨go,yl⟩:=w1 xs[i] (by simp[Y])
  refine .inr ⟨go,λv jd y=>?_⟩;obtain⟨rx,xa,f2⟩:=yl v jd y;have jc:=sr.ts (f2.ts hr);refine⟨xs[i],I,_,rx,jc,jhZ free ⟨rfl,λ_ _ e=>e⟩ hb,λqc vc wa ⟨hk,he⟩=>?_⟩;refine⟨qc,L,_,wa,xa,hk,λb G3 H3 O f3 h3=>?_⟩;have yb:FrX D H1 G1 H3 G3:=⟨λa o n h g nt=>let ⟨a1,a2⟩:=f a o n h g nt;let ⟨b1,b2⟩:=f2 a o a1 a2 nt;f3 a o b1 b2 nt⟩
  have kb:SR X.K H3 I vc:=(wa.ext he).ts (f3.ts xa);obtain⟨xd,qd⟩:=f2 D _ eD gD';obtain⟨zb,jb⟩:=f3 D _ xd qd;have wb:=(ra.ts (f2.ts hr)).ts (f3.ts xa);cases b with
  |false=>
   rw[if_neg Yal]at h3;dsimp only;rw[if_neg Yal];exact⟨xs.length-(i+1),by lia,rfl,Y,F,G3,kb,O,yb,zb,jb,wb,by lia,h3⟩
  |true=>
   rw[if_pos rfl]at h3;dsimp only;rw[if_pos rfl];refine⟨qc,G3,_,wa.ts (f3.ts xa),O,h3,λu v G4 H4 ru wd f4 h4=>?_⟩;obtain⟨ya,xc⟩:=f4 D _ zb jb;have vd:=wb.ts (f4.ts O);have zc:=TS.hid (o:=.lst (ys++[v])) ya;refine⟨ya,by rw[<- ra.length];lia,xs.length-(i+1),by lia,rfl,Y,F++[u],G4,(kb.ts (f4.ts O)).ts zc,wd.hid ya xc,?_,jaj,xc,(vd.append (RUs.mk (us:=[]) (vs:=[]) ru rfl)).ts zc,by grind,h4⟩
   refine⟨λa o n ha ga nt=>?_⟩;obtain⟨x1,x2⟩:=yb a o n ha ga nt;obtain⟨y1,y2⟩:=f4 a o x1 x2 nt;exact⟨by rw[jad n];exact y1,y2⟩
 ·have e:i=xs.length:=by lia
  subst e;rw[YcE]at hc;obtain⟨ja,q⟩:=hc;obtain⟨_,w2⟩:=wk xs.length j L ts hr ja;exact .inl ⟨w2 rfl,kc Z F ys L j sr hr f eD gD' ra q⟩
def jdG  {is:List Nat}(y:is.all (λi=>(pick[i]?).join.isNone)=true) ς:∀i∈is,∀w,(jbM pick ς)[i]?≠some (some w):=λi j w e=>by
 have:=List.all_eq_true.mp y i j;unfold jbM at e;rw[Yau]at e;cases q:pick[i]? with
 |none=>simp_all
 |some o=>
  simp_all
def jkN  (hp:(tgS t).all (λi=>(pick[i]?).join.isNone)=true)(h:lE X (lcD pick ti t tc te) σ H Q0):tLc pick (lI X ti) (lG X.K (tgU t)) (lT0 X.K tc) (lE0 X.K te) σ H Q0:=by
 obtain⟨Z,G,Q,E,z,hG,h,lv,lx⟩:=h;refine⟨Z,G,_,E,z,hG,h,λxs ok G1 H1 J y O wk L=>?_,lx⟩;obtain⟨hl,L⟩:=L;intro D j;refine jkL (acc0:=[]) (jdG hp Z) (wk.mono (TS.new j)) (y.newH j) jaj (y.nope j) rfl (((z.ts (O.ts hG)).ts (TS.new j)).pick pick) (by simp_all) L λxa Y za G' H' sr hr f eD I ra q=>?_
 refine lv (.loc D) (.ref D) _ H' rfl (hr.know eD ra) ?_ (q.at D I);refine⟨λa o ha ga nt=>?_⟩;obtain⟨F,x2⟩:=O a o ha ga nt;obtain⟨y1,y2⟩:=f a o (jai F j) (by rw[jad (jai F j)];exact F) x2 nt
 exact⟨y1,by rw[jbf (jai F j)];exact y2⟩
def lI0  (K:Yae)(t:UI):TI:=λI H R=>∃F G Q,SR K H F I/\HR K H G/\t F G Q (λ_ _=>False)/\∀z ok y j J,HR K j y->Fr H G j y->jgB K J j y z ok->Q z ok y->R J j
def lI0.of    {t:UI}(h:PI X tg e (lI X t)):PI X tg e (lI0 X.K t):=h.imp λJ H R ⟨z,G,Q,I,F,j,y⟩=>⟨z,G,Q,_,I,F,j,y,LX.no⟩
mutual
theorem jhY {is:List Nat}:∀{t:Tg} {u:U} {y:Sg} {k:Sg->Prop},(∀i∈is,i∉tgS t)->(∀i∈is,∀w,y[i]?≠some (some w))->tgU t u y k->tgU t u y λF=>k F/\∀i∈is,∀w,F[i]?≠some (some w)
 |.n j,u,y,k,hf,he,h=>by
  refine⟨h,λi I w e=>?_⟩
  have L:i≠j:=λz=>hf i I (by simp[tgS,z])
  grind
 |.t ts,u,y,k,hf,he,h=>by
  cases u with
  |tup J=>exact jgL (ts:=ts) (us:=J) (λi I=>hf i I) he h
  |_=>exact h
theorem jgL {is:List Nat}:∀{ts:Tgs} {us:List U} {y:Sg} {k:Sg->Prop},(∀i∈is,i∉tgsS ts)->(∀i∈is,∀w,y[i]?≠some (some w))->tgsU ts us y k->tgsU ts us y λj=>k j/\∀i∈is,∀w,j[i]?≠some (some w)
 |.nil,us,y,k,_,he,h=>⟨h.1,h.2,he⟩
 |.cons t ts,us,y,k,hf,he,h=>by
  cases us with
  |nil=>exact h
  |cons u r=>
   have:=jhY (t:=t) (u:=u) (λi F z=>hf i F (by simp[tgsS,z])) he h
   refine jdB this λj ⟨J,I⟩=>jgL (λi F z=>hf i F (by simp[tgsS,z])) I J
end
abbrev lc2D  (pick:List (Option Nat))(ti:UI)(t:Tg)(tc:Sg->Gp->(Bool->Gp->Prop)->Prop)(O:UI)(t2:Tg)(I:Sg->Gp->(Bool->Gp->Prop)->Prop)(te:UE):UE:=λς G Q E=>ti ς G (λxs ok G1=>jgt ok (λx j G2 k=>tgU t x (jbM pick ς) λF=>tc F G2 (λb G3=>if b=true then O F G3 (λZ L G4=>j.length+Z.length<=Yai/\jcR L (λy J k5=>tgU t2 y F λz=>I z J (λb2 Y=>if b2=true then te z Y (λu G7=>k5 (some u) G7) (λ_ _=>False) else k5 none Y)) Z j G4 k) (λ_ _=>False) else k j G3)) xs [] G1
   λus J=>newO J (.lst us) Q) E
def jiD     (hp:(tgS t).all (λi=>(pick[i]?).join.isNone)=true)(qd:(tgS t2).all (λi=>(pick[i]?).join.isNone)=true)(we:(tgS t2).all (λi=>!(tgS t).contains i)=true)(h:lE X (lc2D pick ti t tc kb t2 wa te) σ H Q0) :
  tLc2 pick (lI X ti) (lG X.K (tgU t)) (lT0 X.K tc) (lI0 X.K kb) (lG X.K (tgU t2)) (lT0 X.K wa) (lE0 X.K te) σ H Q0:=by
 obtain⟨ς,G,Q,E,zb,hG,h,lv,lx⟩:=h;refine⟨ς,G,_,E,zb,hG,h,λz ok G1 H1 J I f1 wk h1=>?_,lx⟩;intro D hD;have ka:=jdG hp ς;have Z:=jdG qd ς;have yd:∀i∈tgS t2,i∉tgS t:=λi hi=>by simp_all
 refine⟨λi m τ ys F=>m=z.length-i/\i<=z.length/\∃j Y,SR X.K F (jbM pick ς) τ/\HR X.K F Y/\Fr H1 G1 F Y/\F D=some (.lst ys)/\Y D=none/\RUs X.K F j ys/\
  jgt ok (λx j G2 k=>tgU t x (jbM pick ς) λτ=>tc τ G2 (λb G3=>if b=true then kb τ G3 (λys xb G4=>j.length+ys.length<=Yai/\jcR xb (λy G5 k5=>tgU t2 y τ λva=>wa va G5 (λb2 G6=>if b2=true then te va G6 (λu G7=>k5 (some u) G7) (λ_ _=>False) else k5 none G6)) ys j G4 k) (λ_ _=>False) else k j G3)) (z.drop i) j Y λus G5=>newO G5 (.lst us) Q,
  ⟨z.length,by simp,YaF _,[],G1,((zb.ts (f1.ts hG)).ts (TS.new hD)).pick pick,I.newH hD,Fr.new hD,jaj,I.nope hD,rfl,by simp_all⟩,?_⟩
 rintro i m τ ys F ⟨rfl,hi,j,Y,sr,hr,f,eD,gD',ra,hc⟩;by_cases O:i<z.length
 ·rw[Ybi O]at hc;obtain⟨ja,hb⟩:=hc;obtain⟨w1,_⟩:=wk i F Y (f.ts I) hr ja;obtain⟨go,yl⟩:=w1 z[i] (by simp[O])
  refine .inr ⟨go,λv wd y=>?_⟩;obtain⟨rx,ya,f2⟩:=yl v wd y;have xd:=sr.ts (f2.ts hr);refine⟨z[i],jbM pick ς,_,rx,xd,jhY yd Z (jhZ ka ⟨rfl,λ_ _ e=>e⟩ hb),λxa zd vb ⟨⟨hk,he⟩,ve⟩=>?_⟩;refine⟨xa,Y,_,vb,ya,hk,λb G3 H3 L f3 h3=>?_⟩;have jb:Fr H1 G1 H3 G3:=(f.trans f2).trans f3;have za:SR X.K H3 xa zd:=vb.ts (f3.ts ya);obtain⟨kc,jc⟩:=f2 D _ eD gD';obtain⟨qc,yb⟩:=f3 D _ kc jc;have wb:=(ra.ts (f2.ts hr)).ts (f3.ts ya);cases b with
  |false=>
   rw[if_neg Yal]at h3;dsimp only;rw[if_neg Yal];exact⟨z.length-(i+1),by lia,rfl,O,j,G3,za.ext he,L,jb,qc,yb,wb,h3⟩
  |true=>
   rw[if_pos rfl]at h3;dsimp only;rw[if_pos rfl];refine⟨xa,G3,_,za,L,h3,λzs xb G4 H4 J2 wc f4 je h4=>?_⟩;obtain⟨yc,h4⟩:=h4;obtain⟨jd,ze⟩:=f4 D _ qc yb;refine jkL ve je wc jd ze (wb.ts (f4.ts L)) (za.ts (f4.ts L)) yc h4 λva xc ye G5 H5 xe vd f5 qe vc zc q5=>?_;refine⟨z.length-(i+1),by lia,rfl,O,xc,G5,xe.ext he,vd,⟨λa o ha ga nt=>?_⟩,qe,vc,zc,q5⟩
   obtain⟨x1,x2⟩:=(jb.trans f4) a o ha ga nt;exact f5 a o (jai ha hD) x1 x2 nt
 ·have e:i=z.length:=by lia
  subst e;rw[YcE]at hc;obtain⟨ja,q⟩:=hc;obtain⟨_,w2⟩:=wk z.length F Y (f.ts I) hr ja;refine .inl ⟨w2 rfl,lv (.loc D) (.ref D) _ F rfl (hr.know eD ra) ?_ (q.at D gD')⟩;refine⟨λa o ha ga nt=>?_⟩;obtain⟨x1,x2⟩:=f1 a o ha ga nt;obtain⟨y1,y2⟩:=f a o x1 x2 nt;exact⟨y1,by rw[jbf (jai x1 hD)];exact y2⟩

def u_lc  (J:X.calm=true)(S:CScope X N pick scope)(y:PI X tg iter (lI X ti))(F:(tgS t).all (λi=>(pick[i]?).join.isNone)=true)
  (z:∀cl C s₀ H₀ j,PG (jae X N scope cl C s₀ H₀ j) tg (lG X.K (tgU t))) (hi:∀cl C s₀ H₀ j,PIfs (jae X N scope cl C s₀ H₀ j) ifs (lT0 X.K tc)) (I:∀cl C s₀ H₀ j,PE (jae X N scope cl C s₀ H₀ j) elt (lE0 X.K te))
  (hs:∀x,Yaz iter X.env x=pure x):PE X (.ListComp elt [⟨tg,iter,ifs,0⟩] scope pos) (lE X (lcD pick ti t tc te)):=
 (jpB J S y z hi I hs).imp λ_ _ _ h=>jkN F h
def jo1       (hc:X.calm=true)(S:CScope X N pick scope)(hw:PI X tg iter (lI X ti))(hp:(tgS t).all (λi=>(pick[i]?).join.isNone)=true)(F:(tgS t2).all (λi=>(pick[i]?).join.isNone)=true)(I:(tgS t2).all (λi=>!(tgS t).contains i)=true)
  (hg:∀cl C s₀ H₀ j,PG (jae X N scope cl C s₀ H₀ j) tg (lG X.K (tgU t))) (hi:∀cl C s₀ H₀ j,PIfs (jae X N scope cl C s₀ H₀ j) ifs (lT0 X.K tc)) (he:∀cl C s₀ H₀ j,PE (jae X N scope cl C s₀ H₀ j) elt (lE0 X.K te))
  (Z:∀cl C s₀ H₀ j,PI (jae X N scope cl C s₀ H₀ j) y i2 (lI0 X.K Y)) (O:∀cl C s₀ H₀ j,PG (jae X N scope cl C s₀ H₀ j) y (lG X.K (tgU t2))) (L:∀cl C s₀ H₀ j,PIfs (jae X N scope cl C s₀ H₀ j) f2 (lT0 X.K J)) (z:∀env x,Yaz i2 env x=pure x)
  (hs:∀x,Yaz iter X.env x=pure x):PE X (.ListComp elt [⟨tg,iter,ifs,0⟩,⟨y,i2,f2,0⟩] scope pos) (lE X (lc2D pick ti t tc Y t2 J te)):=
 (jnt hc S hw hg hi he Z O L z hs).imp λ_ _ _ h=>jiD hp F I h
end
section
variable {X:Cx}{e:Expr}{te ta tb:UE}{p pos:Pos}
theorem RKs.merges   [DecidableEq κ]:∀{j } {m },RKs K H j m->∀{kvs:List (κ×U)} {l },RKs K H kvs l->RKs K H (j.foldl (λacc y=>dPut acc y.1 y.2) kvs) (m.foldl (λacc y=>putK acc y.1 y.2) l)
 |[],_,h,_,_,h'=>by cases h;exact h'
 |(k,u)::j,_,h,_,_,h'=>by
  obtain⟨v,F,rfl,r,z⟩:=h;exact RKs.merges z (h'.put r)
theorem jgZ    : ∀{ps } {I },RUs K H (ps.map λp=>U.tup [.tup (p.1.map Ku),p.2]) I->∃y ,y.length=I.length/\(∀(j:Nat) q,y[j]?=some q->∃v,I[j]?=some v/\jmx H v q)/\RKs K H ps y
 |[],_,h=>by cases h;exact⟨[],rfl,λj q e=>by simp at e,rfl⟩
 |(k,u)::ps,_,h=>by
  obtain⟨v,vr,rfl,r,L⟩:=h;obtain⟨y,h1,h2,O⟩:=jgZ L;obtain⟨t,ts,rfl,Z,rt⟩:=r;obtain⟨v1,xa,rfl,r1,z⟩:=rt;obtain⟨J,Y,rfl,r2,F⟩:=z;cases F;obtain⟨b,bs,rfl,eb,rb⟩:=r1;have kb:bs=k.map kV:=jeX rb;subst kb;refine⟨(k,J)::y,by simp[h1],λj q e=>?_,J,y,rfl,r2,O⟩
  cases j with
  |zero=>simp at e;subst e;exact⟨_,rfl,t,b,rfl,Z,eb⟩
  |succ j=>exact h2 j q (by simpa using e)
def joY  (hc:X.calm=true)(hu:X.A.units+6<cLine)(hg:Gl X "dict")(hm:X.mg "dict" = none)(ha:PE X e (lE X te))(O:YaC [e] X.env=[(false,eval e X.env)]) :
  PE X (.Call (.Name "dict" p) [e] [] pos) (lE X λF G Q E=>te F G (λx z=>mkPU x z Q) E):=by
 refine(jcJ (jhK hc hu) hg hm PyProof.Rows.boot_dict (jdA ha jfX O) (by decide) (by decide) O rfl).imp λσ H Q0 h=>?_
 obtain⟨F,G,Q,E,J,hG,h,lv,lx⟩:=h;refine⟨F,G,λI z=>match I with|[x]=>mkPU x z Q|_=>False,E,J,hG,h,λI vs z H1 rs j Z y=>?_,lx⟩
 dsimp only at y;split at y
 ·obtain⟨v,rfl,r⟩:=rs.one;unfold mkPU at y;split at y
  ·cases r;split at y
   ·rename_i I g;obtain⟨Y,rfl,q⟩:=y;obtain⟨ws,e,rk⟩:=j.lst g;obtain⟨L,q1,q2,q3⟩:=jgZ rk;refine⟨_,ws,L,rfl,.of e,q1,q2,λd hd=>?_⟩;have rm:RKs X.K H1 (jcv Y) (jdm L):=RKs.merges q3 rfl;exact(lv.fr Z) (.loc d) (.ref d) _ _ rfl (j.newO (mo:=.dT (jcv Y)) hd ⟨jdm L,jaj,rm.ts (TS.new hd)⟩) (Fr.newO hd) (q d _ ⟨j.nope hd,rfl⟩)
   lia
  lia
 lia
def joZ  (hg:Gl X "list")(hm:X.mg "list" = none)(ha:PE X e (lE X te))(he:YaC [e] X.env=[(false,eval e X.env)]) :
  PE X (.Call (.Name "list" p) [e] [] pos) (lE X λI G Q E=>te I G (λx z=>itU x z λxs _=>newO z (.lst xs) Q) E):=by
 refine(jcJ (jfM (X:=X)) hg hm PyProof.Rows.boot_list (jdA ha jfX he) (by decide) (by decide) he rfl).imp λσ H Q0 h=>?_
 obtain⟨I,G,Q,E,L,hG,h,Z,lx⟩:=h;refine⟨I,G,λJ z=>match J with|[x]=>(itU x z λxs _=>newO z (.lst xs) Q)|_=>False,E,L,hG,h,λJ vs z H1 rs j Y y=>?_,lx⟩
 dsimp only at y;split at y
 ·obtain⟨v,rfl,r⟩:=rs.one;unfold itU at y;split at y
  ·obtain⟨a,F,rfl,ea,rr⟩:=r;exact⟨a,F,rfl,.inr (.of ea),λl O=>(Z.fr Y).lst O rr j y⟩
  ·cases r;split at y
   ·rename_i J eu;obtain⟨F,sq,rr⟩:=j.ls eu;exact⟨_,F,rfl,.inl sq,λl O=>(Z.fr Y).lst O rr j y⟩
   lia
  lia
 lia
def joX  (hg:Gl X "tuple")(hm:X.mg "tuple" = none)(ha:PE X e (lE X te))(he:YaC [e] X.env=[(false,eval e X.env)]) :
  PE X (.Call (.Name "tuple" p) [e] [] pos) (lE X λI G Q E=>te I G (λx z=>itU x z λxs _=>Q (.tup xs) z) E):=by
 refine(jcJ (je3 (X:=X)) hg hm PyProof.Rows.boot_tuple (jdA ha jfX he) (by decide) (by decide) he rfl).imp λσ H Q0 h=>?_
 obtain⟨I,G,Q,E,L,hG,h,Z,lx⟩:=h;refine⟨I,G,λJ z=>match J with|[x]=>(itU x z λxs _=>Q (.tup xs) z)|_=>False,E,L,hG,h,λJ vs z H1 rs j O y=>?_,lx⟩
 dsimp only at y;split at y
 ·obtain⟨v,rfl,r⟩:=rs.one;unfold itU at y;split at y
  ·obtain⟨a,F,rfl,Y,rr⟩:=r;exact⟨a,F,rfl,.inr ⟨.of Y,(Z.fr O).here (w:=.tup _) ⟨a,F,rfl,Y,rr⟩ j y⟩⟩
  ·cases r;split at y
   ·rename_i J eu;obtain⟨F,sq,rr⟩:=j.ls eu;exact⟨_,F,rfl,.inl ⟨sq,λl hl=>(Z.fr O).tup hl rr j y⟩⟩
   lia
  lia
 lia
def jls     i n:RUs K H (rngU i n) ((YaA n).map λk:Nat=>V.int (i+(k:Int))):=by
 unfold rngU
 induction (YaA n)with
 |nil=>rfl
 |cons a r j=>exact⟨_,_,rfl,rfl,j⟩
def jmA {J y:Pos}{a:Expr}(hc:X.calm=true)(Y:Gl X "list")(I:X.mg "list" = none)(za:Gl X "range")(ja:X.mg "range" = none)(ha:PE X a (lE X ta))(hs:YaC [a] X.env=[(false,eval a X.env)])
  (Z:YaC [.Call (.Name "range" J) [a] [] y] X.env=[(false,eval (.Call (.Name "range" J) [a] [] y) X.env)]) :
  PE X (.Call (.Name "list" p) [.Call (.Name "range" J) [a] [] y] [] pos) (lE X λO G Q E=>ta O G (λx F=>match x with
   |.int j=>0<=j/\j<=1000000/\newO F (.lst (rngU 0 j.toNat)) Q
   |_=>False) E):=by
 refine(jfi hc Y I za ja (jdA ha jfX hs) hs Z).imp λσ H Q0 h=>?_;obtain⟨O,G,Q,E,xa,hG,h,lv,lx⟩:=h;refine⟨O,G,λus F=>match us with|[x]=>(match x with|.int j=>0<=j/\j<=1000000/\newO F (.lst (rngU 0 j.toNat)) Q|_=>False)|_=>False,E,xa,hG,h,λus vs F H1 rs L f1 z=>?_,lx⟩
 dsimp only at z;split at z
 ·obtain⟨v,rfl,r⟩:=rs.one;split at z
  ·rename_i j;cases r;refine⟨_,rfl,z.1,z.2.1,λl hl=>?_⟩;have:=jls (K:=X.K) (H:=H1) 0 j.toNat;simp only[Int.zero_add]at this;exact(lv.fr f1).lst hl this L z.2.2
  lia
 lia
def u_ty    (z:Gl X x)(j:X.mg x=none)(F:YbS x=some (.type n))(y:x ≠ "__name__")(hd:(x==("__debug__" : Str))=false):PE X (.Name x pos) (lE X λ_ G Q _=>Q (.ty n) G):=
 jcY (u:=.ty n) (jik (v:=.ty n) z j F rfl y hd) λ_=>rfl
def u_gl      (y:Gl X x)(j:X.mg x=some w)(r:RelV v w)(hr:∀H,RU X.K H u v)(hd:(x==("__debug__" : Str))=false):PE X (.Name x pos) (lE X λ_ G Q _=>Q u G):=
 jcY (jij y j r hd) hr
def jmE  : PE X (.Dict [] [] pos) (lE X λ_ G Q _=>newO G (.dT []) Q):=by
 refine jjM.imp λJ H L h p j=>?_;obtain⟨I,G,Q,E,z,y,h,F,lx⟩:=h;exact F (.loc p) (.ref p) _ _ rfl (y.newO (mo:=.dT []) j ⟨[],jaj,rfl⟩) (Fr.newO j) (h.at p (y.nope j))
def jmF  : PE X (.Dict [] [] pos) (lE X λ_ G Q _=>newO G (.dK []) Q):=by
 refine jjN.imp λJ H L h p j=>?_;obtain⟨I,G,Q,E,z,y,h,F,lx⟩:=h;exact F (.loc p) (.ref p) _ _ rfl (y.newO (mo:=.dK []) j ⟨[],jaj,rfl⟩) (Fr.newO j) (h.at p (y.nope j))
theorem RKs.merge    : ∀{j } {m },RKs K H j m->∀{kvs } {l },RKs K H kvs l->RKs K H (j.foldl (λacc y=>dPut acc y.1 y.2) kvs) (jdP l m)
 |[],_,h,_,_,h'=>by cases h;exact h'
 |(k,u)::j,_,h,_,_,h'=>by
  obtain⟨v,F,rfl,r,z⟩:=h;exact RKs.merge z (h'.put r)
def lD  (X:Cx)(t:Sg->Gp->(List (Key×U)->Gp->Prop)->KX->Prop)(j:List (TE×TE)):Prop:=
 ∀σ H ς G Q E (Q0:List (V×V)->Hp->Prop),SR X.K H ς σ->HR X.K H G->t ς G Q E->LX X σ H G E->
  (∀kvs (l:List (Key×V)) G' H',RKs X.K H' kvs l->HR X.K H' G'->Fr H G H' G'->Q kvs G'->Q0 (l.map λy=>(kV y.1,y.2)) H')->jgM j σ H Q0
def jo2      (I:PPs X pos j y Y)(hd:lD X t Y)(L:j.all (·.isSome)=true)(hl:j.length=y.length)(h0:j≠[])
  (O:j.length<=15):PE X (.Dict j y pos) (lE X λZ G Q E=>t Z G (λkvs G1=>kvs.length<=15/\newO G1 (.dK (jcv kvs)) Q) E):=by
 refine(jlL I L hl h0 O).imp λσ H Q0 h p I=>?_;obtain⟨Z,G,Q,E,xa,hG,h,lv,lx⟩:=h;have gp:=hG.nope I;refine hd σ _ Z G _ E _ (xa.ts (TS.new I)) (hG.newH I) h (lx.fr (Fr.new I)) λkvs l G' H' r J f q=>?_;obtain⟨e,g⟩:=f p _ jaj gp;refine⟨e,l,rfl,by rw[<- r.length];exact q.1,?_⟩
 have ts:TS H' (upd H' p (.dK (jdP [] l))):=⟨λa xs h=>by
  have:a≠p:=λz=>by lia
  rw[jad this];exact h,λa xs h=>by
  have:a≠p:=λz=>by lia
  rw[jad this];exact h⟩
 refine lv (.loc p) (.ref p) (gup G' p (.dK (jcv kvs))) _ rfl ⟨λa ob z=>?_,J.tab.upd (λps z=>by lia) λob z=>by lia⟩ ⟨λa o ha ga nt=>?_⟩ (q.2.at p g)
 ·by_cases F:a=p
  ·subst F;rw[jar]at z;cases z;exact⟨_,jaj,(RKs.merge r (kvs:=[]) (l:=[]) rfl).ts ts⟩
  ·rw[jbf F]at z;exact(J a ob z).keep (jad F) ts
 ·have F:a≠p:=jai ha I;obtain⟨x1,x2⟩:=f a o (by rw[jad F];exact ha) ga nt
  exact⟨by rw[jad F];exact x1,by rw[jbf F];exact x2⟩
def jn0  : lD X (λ_ G Q _=>Q [] G) []:=λF H z G Q E I y j h lx q=>q [] [] G H rfl j (Fr.refl _ _) h
def jl8 {tk tv:UE}{t:Sg->Gp->(List (Key×U)->Gp->Prop)->KX->Prop}{I:List (TE×TE)}(hr:lD X t I):lD X (λj G Q E=>tk j G (λx Z=>tv j Z (λy O=>match kU x with
   |some k=>t j O (λkvs G3=>Q ((k,y)::kvs) G3) E
   |none=>False) E) E) ((lE X tk,lE X tv)::I):=by
 intro σ H j G Q E Q0 z hG h lx q;refine⟨j,G,_,E,z,hG,h,λx v Z H1 rx L F h1=>?_,lx⟩;refine⟨j,Z,_,E,z.ts (F.ts hG),L,h1,λy v' O H2 ry J Y h2=>?_,lx.fr F⟩;dsimp only at h2;split at h2
 ·rename_i k ek;have:=jfw rx ek;subst this;refine hr σ H2 j O _ E _ ((z.ts (F.ts hG)).ts (Y.ts L)) J h2 (lx.fr (F.trans Y)) λkvs l G3 H3 r xa f3 h3=>?_;exact q ((k,y)::kvs) ((k,v')::l) G3 H3 ⟨v',l,rfl,ry.ts (f3.ts J),r⟩ xa ((F.trans Y).trans f3) h3
 lia
end
end Z

namespace L2
open PySem
end L2
namespace Z
open PySem L2
structure LD (X:Cx)(H:Hp)(G:Gp)(De:En)(D:Ends):Prop where
 nx:∀ς' σ' G' H',SR X.K H' ς' σ'->HR X.K H' G'->Fr H G H' G'->De.nx ς' G'->D.nx σ' H'
 rt:∀w v G' H',RU X.K H' w v->HR X.K H' G'->Fr H G H' G'->De.rt w G'->D.rt v H'
 ex:∀(pins:List (Addr×Obj)) (e:Value) (s':Shared) (x:XV) ς' σ' G' H',Inv X pins σ' H' s'->SR X.K H' ς' σ'->XAt X H' s' e x->HR X.K H' G'->Fr H G H' G'->De.ex x ς' G'->X.xe e s'
abbrev US:=En->Sg->Gp->Prop
def lS  (X:Cx)(t:US):L2.TS:=λD z H=>∃j y G,SR X.K H y z/\HR X.K H G/\t j y G/\LD X H G j D

def LD.fr  {H1: Hp}(h:LD X H G J D)(f:Fr H G H1 G1):LD X H1 G1 J D:=
 ⟨λy j I F a b c=>h.nx y j I F a b (f.trans c),λw v I F a b c=>h.rt w v I F a b (f.trans c),λz e L x y j I F i a b c d=>h.ex z e L x y j I F i a b c (f.trans d)⟩
def LD.lx  (h:LD X H G Y D)(y:SR X.K H z σ)(L:HR X.K H G):LX X σ H G λx J=>Y.ex x z J:=λj e Z x G' O I a F f q=>h.ex j e Z x z σ G' O I (y.ts (f.ts L)) a F f q
def LD.here  (h:LD X H G z D)(j:SR X.K H y σ)(F:HR X.K H G)(q:z.nx y G):D.nx σ H:=h.nx y σ G H j F (Fr.refl _ _) q
def LD.with    (h:LD X H G J D)(L:∀F y z j,SR X.K j F y->HR X.K j z->Fr H G j z->k F z->I.nx y j)(hr:I.rt=D.rt):LD X H G { J with nx:=k } I:=
 ⟨L,λw v z j a b c d=>by rw[hr];exact h.rt w v z j a b c d,h.ex⟩
section
variable {X:Cx}{st:Stmt}{rest:List Stmt}{pos:Pos}{e:Expr}{te:UE}{t u:US}
def s_nil  : PSs X [] (lS X λD y G=>D.nx y G):=jf5.imp λD J H ⟨I,y,G,j,z,h,F⟩=>F.here j z h
def s_cons  (Z:PS X st (lS X t))(Y:PSs X rest (lS X u)):PSs X (st::rest) (lS X λD z G=>t { D with nx:=λj F=>u D j F } z G):=by
 refine(jeL Z Y).imp λD σ H ⟨O,z,G,y,J,h,I⟩=>?_;exact⟨_,z,G,y,J,h,I.with (λj L F H' a b c d=>⟨O,j,F,a,b,d,I.fr c⟩) rfl⟩
def s_expr  (L:PE X e (lE X te))(hs:YbY e none pos.line X.env=pure false):PS X (.Expr e pos) (lS X λD y G=>te y G (λ_ z=>D.nx y z) λx z=>D.ex x y z):=
 (jlB L hs).imp λD Z H ⟨De,y,G,j,F,h,I⟩=>⟨y,G,_,_,j,F,h,λw v Y O _ J f q=>I.nx y Z Y O (j.ts (f.ts F)) J f q,I.lx j F⟩
def s_ret  (L:PE X e (lE X te)):PS X (.Return (some e) pos) (lS X λD y G=>te y G D.rt λx J=>D.ex x y J):=
 (jnh L).imp λD σ H ⟨Z,y,G,j,z,h,F⟩=>⟨y,G,_,_,j,z,h,λw v Y O r I f q=>F.rt w v Y O r I f q,F.lx j z⟩
def s_if     (Z:PT X c (lT X tc))(ha:PSs X a (lS X t))(Y:PSs X b (lS X u)):PS X (.If c a b pos) (lS X λD y G=>tc y G (λx z=>if x=true then t D y z else u D y z) λx z=>D.ex x y z):=by
 refine(jnk Z ha Y).imp λD σ H ⟨L,y,G,j,F,h,I⟩=>⟨y,G,_,_,j,F,h,λb O H' J f q=>?_,I.lx j F⟩;cases b with
 |true=>rw[if_pos rfl]at q ⊢;exact⟨L,y,O,j.ts (f.ts F),J,q,I.fr f⟩
 |false=>rw[if_neg Yal]at q ⊢;exact⟨L,y,O,j.ts (f.ts F),J,q,I.fr f⟩
def jmv      (h:lS X (λD z G=>te z G (λu F=>tgU g u z λy=>D.nx y F) λx F=>D.ex x z F) D σ H) :
  lE X te σ H λx H1=>lG X.K (tgU g) x σ H1 D.nx:=by
 obtain⟨De,z,G,j,I,h,L⟩:=h;exact⟨z,G,_,_,j,I,h,λw v Z Y r O f q=>⟨w,z,_,r,j.ts (f.ts I),q,λy J hs hk=>L.nx y J Z Y hs O f hk⟩,L.lx j I⟩
def s_asg {tg:Expr}{g:Tg}(I:PE X e (lE X te))(J:PG X tg (lG X.K (tgU g)))(hs:Ybo [tg] e pos.line X.env=pure false)(F:Ya9 [tg] e X.env=pure none)
  (L:(Ybn [tg] X.env).map (·.2)=[assign tg X.env]):PS X (.Assign [tg] e pos) (lS X λD y G=>te y G (λu j=>tgU g u y λz=>D.nx z j) λx j=>D.ex x y j):=
 (jif I J hs F L).imp λ_ _ _ h=>jmv h
def s_lc            
  (hN:X.N.Nodup) (L:X.N[i]?=some y) (hy:X.env.scope.names.lookup y=some .local) (hc:X.calm=true) (S:CScope X N pick scope) (hw:PI X tg iter (lI X ti)) (hp:(tgS g).all (λi=>(pick[i]?).join.isNone)=true)
  (hg:∀cl C s₀ H₀ z,PG (jae X N scope cl C s₀ H₀ z) tg (lG X.K (tgU g))) (hi:∀cl C s₀ H₀ z,PIfs (jae X N scope cl C s₀ H₀ z) ifs (lT0 X.K tc)) (he:∀cl C s₀ H₀ z,PE (jae X N scope cl C s₀ H₀ z) elt (lE0 X.K te))
  (J:YbY (.ListComp elt [⟨tg,iter,ifs,0⟩] scope pos) (some (.Name y py)) I.line X.env=pure true) (hs:∀x,Yaz iter X.env x=pure x) :
  PS X (.Assign [.Name y py] (.ListComp elt [⟨tg,iter,ifs,0⟩] scope pos) I) (lS X λD F G=>lcD pick ti g tc te F G (λu O=>tgU (.n i) u F λZ=>D.nx Z O) λx O=>D.ex x F O):=by
 refine(jpt hN L hy hc S hw hg hi he J hs).imp λD σ H h=>?_;obtain⟨De,F,G,j,Y,h,ld⟩:=h;exact jkN hp ⟨F,G,_,_,j,Y,h,λw v G' H' r hr f q=>ld.nx _ _ G' H' ((j.ts (f.ts Y)).set r i) hr f q,ld.lx j Y⟩
def s_lc2                 
  (hN:X.N.Nodup) (Y:X.N[i]?=some y) (hy:X.env.scope.names.lookup y=some .local) (hc:X.calm=true) (S:CScope X N pick scope) (hw:PI X tg iter (lI X ti)) (hp:(tgS g).all (λi=>(pick[i]?).join.isNone)=true)
  (O:(tgS t2).all (λi=>(pick[i]?).join.isNone)=true) (xa:(tgS t2).all (λi=>!(tgS g).contains i)=true)
  (hg:∀cl C s₀ H₀ j,PG (jae X N scope cl C s₀ H₀ j) tg (lG X.K (tgU g))) (hi:∀cl C s₀ H₀ j,PIfs (jae X N scope cl C s₀ H₀ j) ifs (lT0 X.K tc)) (he:∀cl C s₀ H₀ j,PE (jae X N scope cl C s₀ H₀ j) elt (lE0 X.K te))
  (wa:∀cl C s₀ H₀ j,PI (jae X N scope cl C s₀ H₀ j) F i2 (lI0 X.K ka)) (za:∀cl C s₀ H₀ j,PG (jae X N scope cl C s₀ H₀ j) F (lG X.K (tgU t2))) (ya:∀cl C s₀ H₀ j,PIfs (jae X N scope cl C s₀ H₀ j) f2 (lT0 X.K va)) (ja:∀(env:Env) x,Yaz i2 env x=pure x)
  (L:YbY (.ListComp elt [⟨tg,iter,ifs,0⟩,⟨F,i2,f2,0⟩] scope pos) (some (.Name y py)) J.line X.env=pure true) (hs:∀x,Yaz iter X.env x=pure x) :
  PS X (.Assign [.Name y py] (.ListComp elt [⟨tg,iter,ifs,0⟩,⟨F,i2,f2,0⟩] scope pos) J) (lS X λD I G=>lc2D pick ti g tc ka t2 va te I G (λu Z=>tgU (.n i) u I λha=>D.nx ha Z) λx Z=>D.ex x I Z):=by
 refine(jnj hN Y hy hc S hw hg hi he wa za ya ja L hs).imp λD σ H h=>?_;obtain⟨De,I,G,z,hG,h,ld⟩:=h;exact jiD hp O xa ⟨I,G,_,_,z,hG,h,λw v G' H' r hr f q=>ld.nx _ _ G' H' ((z.ts (f.ts hG)).set r i) hr f q,ld.lx z hG⟩
def jna  : TSet:=λo i v H Q=>∃a j,o=.ref a/\DPut H a i v j/\Q j
def jjt  (hu:X.A.units+1<cLine):PSet X jna:=by
 intro j s σ H o i v Y O u Q I y L z h;obtain⟨a,F,rfl,g,q⟩:=h;cases y;exact ji3 hu I g L z λZ J=>⟨F,J,q⟩
def _root_.L2.PSet.or {t t':TSet}(h:PSet X t)(h':PSet X t'):PSet X λo i v H Q=>t o i v H Q\/t' o i v H Q:=by
 intro j s O H o i v J z u Q I y L F q;rcases q with q|q
 ·exact h j s O H o i v J z u Q I y L F q
 ·exact h' j s O H o i v J z u Q I y L F q
def jln       {Y:Hp->Prop}(rx:RU X.K H x v)(ry:RU X.K H y v')(I:RU X.K H w L)(z:HR X.K H G)(h:setU x y w G k)
  (q:∀G' Z,HR X.K Z G'->Fr H G Z G'->k G'->Y Z):jm9 v v' L H Y\/jna v v' L H Y:=by
 cases x with
 |loc a=>
  cases rx;unfold setU at h;dsimp only at h;split at h
  ·rename_i xs g;obtain⟨vs,e,F⟩:=z.lst g;cases y with
   |int i=>
    cases ry;dsimp only at h;split at h
    ·rename_i j ej;refine .inl ⟨a,vs,i,j,rfl,rfl,e,by rw[<- F.length];exact ej,?_⟩
     exact q _ _ (z.write (mo':=.lst (xs.set j w)) g ⟨_,jaj,(F.set I j).ts (TS.write z g)⟩) (Fr.write g) h.at
    lia
   |_=>lia
  ·rename_i J g;obtain⟨l,e,F⟩:=z a _ g;split at h
   ·rename_i k' O;have:=jfw ry O;subst this;refine .inr ⟨a,_,rfl,DPut.k e (by rw[<- F.length];exact h.1),?_⟩
    exact q _ _ (z.write (mo':=.dK (dPut J k' w)) g ⟨_,jaj,(F.put I).ts (TS.write z g)⟩) (Fr.write g) h.2.at
   lia
  ·rename_i J g;obtain⟨l,e,F⟩:=z a _ g;cases y with
   |tup ys=>
    obtain⟨b,ws,rfl,eb,rb⟩:=ry;dsimp only at h;split at h
    ·rename_i k' O;have:=jg9 rb O;subst this;refine .inr ⟨a,_,rfl,DPut.t e eb (by rw[<- F.length];exact h.1),?_⟩
     exact q _ _ (z.write (mo':=.dT (dPut J k' w)) g ⟨_,jaj,(F.put I).ts (TS.write z g)⟩) (Fr.write g) h.2.at
    lia
   |_=>lia
  lia
 |_=>exact h.elim
def s_set {o i:Expr}{to ti:UE}{j:Pos}(hu:X.A.units+1<cLine)(he:PE X e (lE X te))(ho:PE X o (lE X to))(hi:PE X i (lE X ti))(hs:Ybo [.Subscript o i j] e pos.line X.env=pure false)(hw:Ya9 [.Subscript o i j] e X.env=pure none)
  (h1:(Ybn [.Subscript o i j] X.env).map (·.2)=[assign (.Subscript o i j) X.env]) (ha:∀v,assign (.Subscript o i j) X.env v=(do
   let ov <- holding [v] (eval o X.env)
   let iv <- holding [v,ov] (eval i X.env)
   standAt j
   holding [v,ov,iv] (setItem ov iv v)
   release [v,ov,iv] [])):PS X (.Assign [.Subscript o i j] e pos) (lS X λD z G=>te z G (λv L=>to z L (λx G2=>ti z G2 (λy G3=>setU x y v G3 λG4=>D.nx z G4) λx L=>D.ex x z L) λx L=>D.ex x z L) λx L=>D.ex x z L):=by
 refine(jif he (jnp ho hi (PSet.or jjs (jjt hu)) ha) hs hw h1).imp λD σ H ⟨De,z,G,Y,hG,h,ld⟩=>?_;refine⟨z,G,_,_,Y,hG,h,λw v L H1 za O f1 h1=>?_,ld.lx Y hG⟩;have I:=Y.ts (f1.ts hG);refine⟨z,L,_,_,I,O,h1,λx vx G2 H2 rx J f2 h2=>?_,(ld.fr f1).lx I O⟩;have F:=I.ts (f2.ts O);refine⟨z,G2,_,_,F,J,h2,λy vy G3 H3 ry xa f3 h3=>?_,(ld.fr (f1.trans f2)).lx F J⟩;have Z:=F.ts (f3.ts J);exact jln (rx.ts (f3.ts J)) ry ((za.ts (f2.ts O)).ts (f3.ts J)) xa h3 λG' H' hr f q=>ld.nx z σ G' H' (Z.ts (f.ts xa)) hr (((f1.trans f2).trans f3).trans f) q
def IpU  (X:Cx)(o:Yen):Prop:=∃r:TIp,PIp X o r/\∀x y v j G H Q z,RU X.K H x v->RU X.K H y j->HR X.K H G->jjW o x y G Q->LV X H G Q z->r v j H z
def joi   o:IpU X o:=by
 cases o with
 |Add=>
  refine⟨_,(OpR.or (jmg (X:=X)) jgi),λx y v J G H Q L F z j h I=>?_⟩;cases x<;>try exact h.elim
  ·cases y<;>try exact h.elim
   cases F;cases z;exact .inl ⟨_,_,rfl,rfl,I.int j h⟩
  ·cases y<;>try exact h.elim
   cases F;cases z;exact .inr ⟨_,_,rfl,rfl,h.1,I.str j h.2⟩
 |Sub=>
  refine⟨_,jme (X:=X),λx y v J G H Q L F z j h I=>?_⟩;cases x<;>try exact h.elim
  cases y<;>try exact h.elim
  cases F;cases z;exact⟨_,_,rfl,rfl,I.int j h⟩
 |Mult=>
  refine⟨_,jmf (X:=X),λx y v J G H Q L F z j h I=>?_⟩;cases x<;>try exact h.elim
  cases y<;>try exact h.elim
  cases F;cases z;exact⟨_,_,rfl,rfl,h.1,I.int j h.2⟩
 |_=>exact⟨λ_ _ _ _=>False,λ_ _ _ _ _ _ _ _ _ _ _ _ h=>h.elim,λ_ _ _ _ _ _ _ _ _ _ _ h _=>h.elim⟩
def s_aug      (hN:X.N.Nodup)(hi:X.N[i]?=some x)(hx:Loc X.env.scope x)(hf:X.fn x=true\/X.env.scope.names.lookup x=some .local)(he:PE X e (lE X te)) :
  PS X (.AugAssign (.Name x za) o e pos) (lS X λD F G=>slot F i λx=>te F G (λy I=>jjW o x y I λz Y=>D.nx (F.set i (some z)) Y) λx I=>D.ex x F I):=by
 obtain⟨r,h1,h2⟩:=joi (X:=X) o;refine(jnm hN hi hx he h1 hf).imp λD σ H ⟨De,F,G,j,L,h,ld⟩=>?_;dsimp only at h;unfold slot at h;split at h
 ·rename_i u eu;obtain⟨v,ev,ru⟩:=j.2 i u eu;refine⟨v,ev,F,G,_,_,j,L,h,λy vy I H1 ry J Z h1=>?_,ld.lx j L⟩;exact h2 u y v vy I H1 _ _ (ru.ts (Z.ts L)) ry J h1 λw vw Y H2 O xa f2 q=>ld.nx _ _ Y H2 (((j.ts (Z.ts L)).ts (f2.ts J)).set O i) xa (Z.trans f2) q
 lia
def _root_.L2.PGet.or {t t':V->V->Hp->VK->Prop}(h:PGet X t)(h':PGet X t'):PGet X λo i H Q=>t o i H Q\/t' o i H Q:=by
 intro j s L H o i F z Q I y J q;rcases q with q|q
 ·exact h j s L H o i F z Q I y J q
 ·exact h' j s L H o i F z Q I y J q
def s_par2        (hc:X.calm=true)(hN:X.N.Nodup)(hi:X.N[i]?=some x)(hj:X.N[j]?=some y)(Y:i≠j)
  (hx:X.env.scope.names.lookup x=some .local) (hy:X.env.scope.names.lookup y=some .local) (ha:PA X [a,b] (lA X ts))
  (hw:Ya9 [.Tuple [.Name x px,.Name y py] kt pt] (.Tuple [a,b] k2 F) X.env=pure (some [x,y])) (hs:Ybo [.Tuple [.Name x px,.Name y py] kt pt] (.Tuple [a,b] k2 F) pos.line X.env=pure false) :
  PS X (.Assign [.Tuple [.Name x px,.Name y py] kt pt] (.Tuple [a,b] k2 F) pos) (lS X λD J G=>ts J G (λus I=>us.length=[i,j].length/\D.nx (([i,j].zip us).foldl (λs p=>s.set p.1 (some p.2)) J) I) λx I=>D.ex x J I):=by
 refine(jni hc hN hi hj Y hx hy ha hw hs).imp λD σ H ⟨De,J,G,z,Z,h,ld⟩=>?_;refine⟨J,G,_,_,z,Z,h,λus vs I H1 L O f1 h1=>?_,ld.lx z Z⟩;obtain⟨h1,h2⟩:=h1
 match us,h1,h2,L with
 |[u,w],_,h2,L=>
  obtain⟨v,v',rfl,r1,r2⟩:=L.two;exact⟨v,v',rfl,ld.nx _ _ I H1 (((z.ts (f1.ts Z)).set r1 i).set r2 j) O f1 h2⟩
def s_par3        (hc:X.calm=true)(hN:X.N.Nodup)(hi:X.N[i]?=some x)(hj:X.N[j]?=some y)(hl:X.N[l]?=some z)(va:i≠j)(ja:i≠l)(xa:j≠l)
  (hx:X.env.scope.names.lookup x=some .local) (hy:X.env.scope.names.lookup y=some .local) (hz:X.env.scope.names.lookup z=some .local) (ha:PA X [a,b,c] (lA X ts))
  (hw:Ya9 [.Tuple [.Name x px,.Name y py,.Name z pz] kt pt] (.Tuple [a,b,c] k2 I) X.env=pure (some [x,y,z])) (hs:Ybo [.Tuple [.Name x px,.Name y py,.Name z pz] kt pt] (.Tuple [a,b,c] k2 I) pos.line X.env=pure false) :
  PS X (.Assign [.Tuple [.Name x px,.Name y py,.Name z pz] kt pt] (.Tuple [a,b,c] k2 I) pos) (lS X λD O G=>ts O G (λus J=>us.length=[i,j,l].length/\D.nx (([i,j,l].zip us).foldl (λs p=>s.set p.1 (some p.2)) O) J) λx J=>D.ex x O J):=by
 refine(jlz hc hN hi hj hl hx hy hz ha hw hs).imp λD σ H ⟨De,O,G,F,hG,h,ld⟩=>?_;refine⟨O,G,_,_,F,hG,h,λus vs J H1 L za f1 Y=>?_,ld.lx F hG⟩;obtain⟨Y,h2⟩:=Y
 match us,Y,h2,L with
 |[u,w,q],_,h2,L=>
  obtain⟨v,vr,rfl,r1,L⟩:=L;obtain⟨v',Z,rfl,r2,r3⟩:=L.two;refine⟨v,v',Z,rfl,?_⟩;rw[YdW _ _ (Ne.symm xa),YdW _ _ (Ne.symm ja),YdW _ _ (Ne.symm va)];exact ld.nx _ _ J H1 ((((F.ts (f1.ts hG)).set r1 i).set r2 j).set r3 l) za f1 h2
def s_for       (hp:Ydj (model X.prog X.w) X.A X.env X.xe)(hc:X.calm=true)(hi:PI X tg iter (lI X ti))(hg:PG X tg (lG X.K (tgU g)))(hb:PSs X body (lS X tb))
  (hs:∀x,Yaz iter X.env x=pure x):PS X (.For tg iter body [] pos) (lS X λD ς G=>ti ς G (λxs ok G1=>forL ok (λx z I k=>tgU g x z λj=>tb { D with nx:=k } j I) xs ς G1 D.nx) λx G1=>D.ex x ς G1):=by
 refine(jnl hp hc hi hg hb hs).imp λD σ H ⟨De,ς,G,ja,hG,h,ld⟩=>?_;refine⟨ς,G,_,_,ja,hG,h,λxs ok G1 H1 J xa f1 wk h1=>?_,ld.lx ja hG⟩;refine⟨λi m Y H'=>m=xs.length-i/\i<=xs.length/\∃F L,SR X.K H' F Y/\HR X.K H' L/\Fr H1 G1 H' L/\forL ok (λx z I k=>tgU g x z λj=>tb { De with nx:=k } j I) (xs.drop i) F L De.nx,⟨xs.length,by simp,YaF _,ς,G1,ja.ts (f1.ts hG),xa,Fr.refl _ _,by simp_all⟩,?_⟩
 rintro i m Y H' ⟨rfl,hi',F,L,sr,hr,f,hc'⟩;by_cases za:i<xs.length
 ·rw[Ybi za]at hc';obtain⟨O,va⟩:=hc';obtain⟨w1,_⟩:=wk i H' L (f.ts xa) hr O;obtain⟨go,yl⟩:=w1 xs[i] (by simp[za])
  refine .inr ⟨go,λZ H2=>∃j I,SR X.K H2 j Z/\HR X.K H2 I/\Fr H1 G1 H2 I/\forL ok (λx z I k=>tgU g x z λj=>tb { De with nx:=k } j I) (xs.drop (i+1)) j I De.nx,λZ H2 q=>⟨xs.length-(i+1),by lia,rfl,za,q⟩,λv wa y=>?_⟩
  obtain⟨rx,ha,f2⟩:=yl v wa y;refine⟨xs[i],F,_,rx,sr.ts (f2.ts hr),va,λj Z ya hk=>?_⟩;have f3:=(f1.trans f).trans f2;refine⟨_,j,L,ya,ha,hk,(ld.fr f3).with (λka xb G3 H3 a b c d=>⟨ka,G3,a,b,(f.trans f2).trans c,d⟩) rfl⟩
 ·have e:i=xs.length:=by lia
  subst e;rw[YcE]at hc';obtain⟨O,q⟩:=hc';exact .inl ⟨(wk xs.length H' L (f.ts xa) hr O).2 rfl,ld.nx F Y L H' sr hr (f1.trans f) q⟩
def s_wh      (hp:Ydj (model X.prog X.w) X.A X.env X.xe)(hc:PT X c (lT X tc))(hb:PSs X body (lS X tb)) :
  PS X (.While c body [] pos) (lS X λD ς G=>∃W:Nat->Sg->Gp->Prop,(∃m,W m ς G)/\∀m z G1,W m z G1->
   tc z G1 (λt Z=>if t=true then tb { D with nx:=λj F=>∃I,I<m/\W I j F } z Z else D.nx z Z) λx G1=>D.ex x z G1):=by
 refine(jjE hp hc hb).imp λD σ H ⟨De,ς,G,ja,hG,h,ld⟩=>?_;obtain⟨W,⟨m0,w0⟩,xa⟩:=h;refine⟨λm J H'=>∃j F,SR X.K H' j J/\HR X.K H' F/\Fr H G H' F/\W m j F,⟨m0,ς,G,ja,hG,Fr.refl _ _,w0⟩,?_⟩;rintro m J H' ⟨j,F,sr,hr,f,w⟩;refine⟨j,F,_,_,sr,hr,xa m j F w,λb Z H2 za f2 q=>?_,(ld.fr f).lx sr hr⟩;cases b with
 |true=>
  rw[if_pos rfl]at q ⊢;refine⟨λL Y=>∃y O,SR X.K Y y L/\HR X.K Y O/\Fr H G Y O/\∃I,I<m/\W I y O,λL Y ⟨y,O,a,b,c,I,hm,w'⟩=>⟨I,hm,y,O,a,b,c,w'⟩,?_⟩;exact⟨_,j,Z,sr.ts (f2.ts hr),za,q,(ld.fr (f.trans f2)).with (λy L O Y a b c d=>⟨y,O,a,b,(f.trans f2).trans c,d⟩) rfl⟩
 |false=>
  rw[if_neg Yal]at q ⊢;exact ld.nx j J Z H2 (sr.ts (f2.ts hr)) za (f.trans f2) q
end
structure Ctx where
 N:List Str
 sc:List (Str×YbJ)
noncomputable def kd  (c:Ctx)(x:Str)(k:YbJ):Bool:=c.sc.lookup x==some k
def glo  (c:Ctx)(x:Str):Bool:=kd c x .globalImplicit && !(x==("__debug__" : Str))
noncomputable def nm1  : Expr->List Str
 |.Name x _=>[x]
 |_=>[]
def nm2  : Expr->List Str
 |.Tuple j _ _=>j.flatMap nm1
 |e=>nm1 e
def jfZ  : Expr->List Str
 |.Tuple j _ _=>j.flatMap nm2
 |e=>nm1 e
noncomputable def jhR  : List String:=["bool", "int", "str", "list", "tuple", "dict"]
def cOkS  (c:Ctx)(N:List Str)(pick:List (Option Nat))(scope:Scope):Bool:=
 decide (scope.kind=.function)&&scope.names.all (λy=>y.2 != .cell||scope.names.lookup y.1==some .cell)&&scope.names.all (λy=>y.2 != .local||scope.names.lookup y.1==some .local)
  && scope.names.all (λy=>y.2 != .free||(scope.names.lookup y.1==some .free&&(kd c y.1 .cell||kd c y.1 .free)))
  && pick.length==N.length&&(N.zip pick).all (λp=>match p.2 with|none=>true|some j=>c.N[j]?==some p.1&&scope.names.lookup p.1==some .free)&&decide N.Nodup
noncomputable def jkG  : Expr->Bool
 |.Call (.Name _ _) [] [] _=>false
 |_=>true
noncomputable def e0  : Expr:=.Name "" ⟨0,0,0,0⟩
def hd  : List Expr->Expr
 |[]=>e0
 |e::_=>e
def c0  : Expr->Expr
 |.BinOp l _ _ _=>l
 |.UnaryOp _ x _=>x
 |.IfExp t _ _ _=>t
 |.Compare l _ _ _=>l
 |.Subscript v _ _=>v
 |.Attribute v _ _=>v
 |.Call f _ _ _=>f
 |.ListComp e _ _ _=>e
 |.FormattedValue v _ _ _=>v
 |_=>e0
def c1  : Expr->Expr
 |.BinOp _ _ r _=>r
 |.IfExp _ b _ _=>b
 |.Subscript _ s _=>s
 |_=>e0
def c2  : Expr->Expr
 |.IfExp _ _ b _=>b
 |_=>e0
noncomputable def cl  : Expr->List Expr
 |.BoolOp _ j _=>j
 |.Compare _ _ j _=>j
 |.Call _ j _ _=>j
 |.List j _=>j
 |.Tuple j _ _=>j
 |.Dict _ j _=>j
 |.JoinedStr j _=>j
 |_=>[]
noncomputable def kk  : Expr->Nat
 |.Constant _ k _=>k
 |.Tuple _ k _=>k
 |_=>0
def oe  : Option Expr->Expr
 |some e=>e
 |none=>e0
def dk  : Expr->List Expr
 |.Dict j _ _=>j.map oe
 |_=>[]
def gen1  : Expr->Ydt
 |.ListComp _ (g::_) _ _=>g
 |_=>⟨e0,e0,[],0⟩
def gen2  : Expr->Ydt
 |.ListComp _ (_::g::_) _ _=>g
 |_=>⟨e0,e0,[],0⟩
noncomputable def scp  : Expr->Scope
 |.ListComp _ _ s _=>s
 |_=>⟨.module,[],false,false,[]⟩
def s0  : Expr->Expr
 |.Slice (some e) _ _ _=>e
 |_=>e0
def s1  : Expr->Expr
 |.Slice _ (some e) _ _=>e
 |_=>e0
def s2  : Expr->Expr
 |.Slice _ _ (some e) _=>e
 |_=>e0
noncomputable def nmA  (c:Ctx)(i:Nat):Str:=c.N.getD i ""
noncomputable def boU  : Bool->PySem.BoolOp
 |true=>.And
 |false=>.Or
noncomputable def jbi  : Es->Nat
 |.nil=>0
 |.cons _ j=>jbi j+1
noncomputable def jfc  : Tgs->Nat
 |.nil=>0
 |.cons _ ts=>jfc ts+1
noncomputable def isT  : Tg->Bool
 |.t _=>true
 |.n _=>false
noncomputable def isLc  : E->Bool
 |.lc ..=>true
 |.lc2 ..=>true
 |_=>false
def cc  (c:Ctx)(pick:List (Option Nat))(h:Expr):Ctx:=⟨jfZ (gen1 h).target++(pick.filterMap id).filterMap (λj=>c.N[j]?),(scp h).names⟩
def cc2  (c:Ctx)(pick:List (Option Nat))(h:Expr):Ctx:=⟨jfZ (gen1 h).target++jfZ (gen2 h).target++(pick.filterMap id).filterMap (λj=>c.N[j]?),(scp h).names⟩
mutual
noncomputable def unTg (c:Ctx):Tg->Expr->Expr
 |.n i,h=>.Name (nmA c i) h.pos
 |.t ts,h=>.Tuple (jfa c ts (cl h)) (kk h) h.pos
noncomputable def jfa (c:Ctx):Tgs->List Expr->List Expr
 |.nil,_=>[]
 |.cons t ts,hs=>unTg c t (hd hs)::jfa c ts hs.tail
end
def okN  (c:Ctx)(i:Nat):Bool:=decide (i<c.N.length)&&(kd c (nmA c i) .local||kd c (nmA c i) .cell)
mutual
noncomputable def okTg (c:Ctx):Tg->Bool
 |.n i=>okN c i
 |.t ts=>jlY c ts
noncomputable def jlY (c:Ctx):Tgs->Bool
 |.nil=>true
 |.cons t ts=>okTg c t&&jlY c ts
end
section
variable (T:Tab)
noncomputable def fnN (n:Nat):Str:=match T.funs[n]? with
 |some d=>d.name
 |none => ""
mutual
noncomputable def unE (c:Ctx):E->Expr->Expr
 |.v i,h=>.Name (nmA c i) h.pos
 |.non,h=>.Constant .none (kk h) h.pos
 |.bl b,h=>.Constant (.bool b) (kk h) h.pos
 |.int i,h=>.Constant (.int i) (kk h) h.pos
 |.str x,h=>.Constant (.str x) (kk h) h.pos
 |.g n,h=>.Name (T.gn.getD n "") h.pos
 |.ty n,h=>.Name (Yb5 n) h.pos
 |.bin o a b,h=>.BinOp (unE c a (c0 h)) o (unE c b (c1 h)) h.pos
 |.neg a,h=>.UnaryOp .USub (unE c a (c0 h)) h.pos
 |.not a,h=>.UnaryOp .Not (unE c a (c0 h)) h.pos
 |.bop k a es,h=>.BoolOp (boU k) (unE c a (hd (cl h))::unEs c es (cl h).tail) h.pos
 |.cmp o a b,h=>.Compare (unE c a (c0 h)) [o] [unE c b (hd (cl h))] h.pos
 |.cmp2 o p a b d,h=>.Compare (unE c a (c0 h)) [o,p] [unE c b (hd (cl h)),unE c d (hd (cl h).tail)] h.pos
 |.tup es,h=>.Tuple (unEs c es (cl h)) (kk h) h.pos
 |.lst es,h=>.List (unEs c es (cl h)) h.pos
 |.dic es,h=>.Dict (unK c es (dk h)) (unV c es (cl h)) h.pos
 |.dicT,h=>.Dict [] [] h.pos
 |.ix a b,h=>.Subscript (unE c a (c0 h)) (unE c b (c1 h)) h.pos
 |.sl a lo hi,h=>.Subscript (unE c a (c0 h)) (.Slice (unO c lo (s0 (c1 h))) (unO c hi (s1 (c1 h))) none (c1 h).pos) h.pos
 |.rev a b,h=>.Subscript (unE c a (c0 h)) (.Slice none none (some (unE c b (s2 (c1 h)))) (c1 h).pos) h.pos
 |.call n es,h=>.Call (.Name (fnN T n) (c0 h).pos) (unEs c es (cl h)) [] h.pos
 |.blt b es,h=>.Call (.Name (bltN b) (c0 h).pos) (unEs c es (cl h)) [] h.pos
 |.meth m o es,h=>.Call (.Attribute (unE c o (c0 (c0 h))) (mthN m) (c0 h).pos) (unEs c es (cl h)) [] h.pos
 |.lc pick t it ifs d,h=>.ListComp (unE (cc c pick h) d (c0 h)) [⟨unTg (cc c pick h) t (gen1 h).target,unI c it (gen1 h).iter,unEs (cc c pick h) ifs (gen1 h).ifs,0⟩] (scp h) h.pos
 |.lc2 pick t it ifs t2 it2 ifs2 d,h=>.ListComp (unE (cc2 c pick h) d (c0 h)) [⟨unTg (cc2 c pick h) t (gen1 h).target,unI c it (gen1 h).iter,unEs (cc2 c pick h) ifs (gen1 h).ifs,0⟩,⟨unTg (cc2 c pick h) t2 (gen2 h).target,unI (cc2 c pick h) it2 (gen2 h).iter,unEs (cc2 c pick h) ifs2 (gen2 h).ifs,0⟩] (scp h) h.pos
 |.mkP d,h=>.Call (.Name "dict" (c0 h).pos) [unE c d (hd (cl h))] [] h.pos
 |.mkL d,h=>.Call (.Name "list" (c0 h).pos) [unE c d (hd (cl h))] [] h.pos
 |.mkT d,h=>.Call (.Name "tuple" (c0 h).pos) [unE c d (hd (cl h))] [] h.pos
 |.rngL d,h=>.Call (.Name "list" (c0 h).pos) [.Call (.Name "range" (c0 (hd (cl h))).pos) [unE c d (hd (cl (hd (cl h))))] [] (hd (cl h)).pos] [] h.pos
noncomputable def unO (c:Ctx):Eo->Expr->Option Expr
 |.no,_=>none
 |.so d,h=>some (unE c d h)
noncomputable def unEs (c:Ctx):Es->List Expr->List Expr
 |.nil,_=>[]
 |.cons d es,hs=>unE c d (hd hs)::unEs c es hs.tail
noncomputable def unK (c:Ctx):Es->List Expr->List (Option Expr)
 |.cons d (.cons _ es),hs=>some (unE c d (hd hs))::unK c es hs.tail
 |_,_=>[]
noncomputable def unV (c:Ctx):Es->List Expr->List Expr
 |.cons _ (.cons d es),hs=>unE c d (hd hs)::unV c es hs.tail
 |_,_=>[]
noncomputable def unF (c:Ctx):Es->List Expr->List Expr
 |.nil,_=>[]
 |.cons d es,hs=>(match d with
  |.str x=>.Constant (.str x) (kk (hd hs)) (hd hs).pos
  |d=>.FormattedValue (unE c d (c0 (hd hs))) (-1) none (hd hs).pos)::unF c es hs.tail
noncomputable def unI (c:Ctx):It->Expr->Expr
 |.e d,h=>unE c d h
 |.r1 d,h=>.Call (.Name "range" (c0 h).pos) [unE c d (hd (cl h))] [] h.pos
 |.enum d,h=>.Call (.Name "enumerate" (c0 h).pos) [unE c d (hd (cl h))] [] h.pos
end
mutual
noncomputable def okE (c:Ctx):E->Expr->Bool
 |.v i,_=>decide (i<c.N.length)&&(kd c (nmA c i) .local||kd c (nmA c i) .cell||kd c (nmA c i) .free) && !(nmA c i==("__debug__" : Str)) && !(nmA c i==("__classdict__" : Str))
 |.non,_=>true
 |.bl _,_=>true
 |.int _,_=>true
 |.str _,_=>true
 |.g n,_=>decide (n<T.gs.length)&&decide (n<T.gn.length)&&glo c (T.gn.getD n "")
 |.ty n,_=>jhR.contains n&&glo c (Yb5 n)
 |.bin _ a b,h=>okE c a (c0 h)&&okE c b (c1 h)
 |.neg a,h=>okE c a (c0 h)
 |.not a,h=>okE c a (c0 h)
 |.bop _ a es,h=>okE c a (hd (cl h))&&okEs c es (cl h).tail
 |.cmp o a b,h=>okE c a (c0 h)&&okE c b (hd (cl h)) && !behindInMarks o (unE T c b (hd (cl h)))
 |.cmp2 o p a b d,h=>okE c a (c0 h)&&okE c b (hd (cl h))&&okE c d (hd (cl h).tail) && !lastMarks [o,p] [unE T c b (hd (cl h)),unE T c d (hd (cl h).tail)]
 |.tup es,h=>okEs c es (cl h)
 |.lst es,h=>okEs c es (cl h)
 |.dic es,h=>okD c es (dk h) (cl h)&&decide (jbi es<=30)
 |.dicT,_=>true
 |.ix a b,h=>okE c a (c0 h)&&okE c b (c1 h)
 |.sl a lo hi,h=>okE c a (c0 h)&&okO c lo (s0 (c1 h))&&okO c hi (s1 (c1 h))
 |.rev a b,h=>okE c a (c0 h)&&okE c b (s2 (c1 h))
 |.call n es,h=>decide (n<T.funs.length)&&glo c (fnN T n)&&okEs c es (cl h)
 |.blt b es,h=>decide (0<jbi es)&&glo c (bltN b)&&okEs c es (cl h)
 |.meth _ o es,h=>okE c o (c0 (c0 h))&&okEs c es (cl h)&&((c0 h).pos.endLine==h.pos.line)&&decide (jbi es<30)&&jkG (unE T c o (c0 (c0 h)))
 |.lc pick t it ifs d,h=>cOkS c (cc c pick h).N pick (scp h)&&(tgS t).all (λi=>(pick[i]?).join.isNone)&&okTg (cc c pick h) t&&okI c t it (gen1 h).iter&&okEs (cc c pick h) ifs (gen1 h).ifs&&decide (jbi ifs<=1)&&okE (cc c pick h) d (c0 h)
 |.lc2 pick t it ifs t2 it2 ifs2 d,h=>cOkS c (cc2 c pick h).N pick (scp h)&&((tgS t).all (λi=>(pick[i]?).join.isNone)&&((tgS t2).all (λi=>(pick[i]?).join.isNone)&&((tgS t2).all (λi=>!(tgS t).contains i)&&(okTg (cc2 c pick h) t&&(okTg (cc2 c pick h) t2&&(okI c t it (gen1 h).iter&&(okI (cc2 c pick h) t2 it2 (gen2 h).iter&&(okEs (cc2 c pick h) ifs (gen1 h).ifs&&(okEs (cc2 c pick h) ifs2 (gen2 h).ifs&&(decide (jbi ifs<=1)&&(decide (jbi ifs2<=1)&&okE (cc2 c pick h) d (c0 h))))))))))))
 |.mkP d,h=>glo c "dict" && okE c d (hd (cl h))
 |.mkL d,h=>glo c "list" && okE c d (hd (cl h))
 |.mkT d,h=>glo c "tuple" && okE c d (hd (cl h))
 |.rngL d,h=>glo c "list" && glo c "range" && okE c d (hd (cl (hd (cl h))))
noncomputable def okO (c:Ctx):Eo->Expr->Bool
 |.no,_=>true
 |.so d,h=>okE c d h
noncomputable def okEs (c:Ctx):Es->List Expr->Bool
 |.nil,_=>true
 |.cons d es,hs=>okE c d (hd hs)&&okEs c es hs.tail
noncomputable def okD (c:Ctx):Es->List Expr->List Expr->Bool
 |.nil,_,_=>true
 |.cons d (.cons f es),hs,gs=>okE c d (hd hs)&&okE c f (hd gs)&&okD c es hs.tail gs.tail
 |.cons _ .nil,_,_=>false
noncomputable def okF (c:Ctx):Es->List Expr->Bool
 |.nil,_=>true
 |.cons d es,hs=>(match d with
  |.str x=>decide (x.length<=10000)
  |d=>okE c d (c0 (hd hs)))&&okF c es hs.tail
noncomputable def okI (c:Ctx)(t:Tg):It->Expr->Bool
 |.e d,h=>okE c d h
 |.r1 d,h=>glo c "range" && okE c d (hd (cl h))
 |.enum d,h=>isT t&&glo c "enumerate" && okE c d (hd (cl h))
end
noncomputable def jku  (ts:List Expr):Nat:=(ts.head?.map (·.pos.line)).getD 0
def jal  (c:Ctx)(ts:List Expr):List Str:=ts.filterMap fun
  |.Name y j=>if c.sc.lookup y==some .local&&j.line==jku ts then some y else none
  |_=>none
noncomputable def jha  : Expr->Bool
 |.Starred ..=>true
 |_=>false
def swapped  (c:Ctx)(ts vs:List Expr):Bool:=
 (ts.length==2||ts.length==3)&&vs.length==ts.length && !(vs.any jha)&&(jal c ts).length==ts.length&&(jal c ts).eraseDups.length==(jal c ts).length && !(vs.all (YfM 8)) && !(vs.all (constantsAlone 8))
def jc1  (c:Ctx)(ts vs:List Expr):Bool:=
 !(ts.length==2||ts.length==3)||vs.length != ts.length||(!(vs.any jha)&&((jal c ts).length != ts.length||(jal c ts).eraseDups.length != (jal c ts).length||vs.all (YfM 8)))
noncomputable def lcSw  (c:Ctx)(y:Str)(j p:Pos)(s:Scope):Bool:=c.sc.lookup y==some .local&&j.line==p.line && !(s.names.any λ(n,k)=>n==y&&(k == .local||k == .cell))
def q0  : Stmt->Expr
 |.Expr e _=>e
 |.Assign _ e _=>e
 |.Return (some e) _=>e
 |.AugAssign _ _ e _=>e
 |.If e _ _ _=>e
 |.While e _ _ _=>e
 |.For _ e _ _ _=>e
 |_=>e0
def q1  : Stmt->Expr
 |.Assign (t::_) _ _=>t
 |.AugAssign t _ _ _=>t
 |.For t _ _ _ _=>t
 |_=>e0
def qr  : Stmt->Expr
 |.Raise (some e) _ _=>e
 |_=>e0
def hTy  : Stmt->Expr
 |.Try _ (.ExceptHandler (some t) _ _ _::_) _ _ _=>t
 |_=>e0
noncomputable def hBd  : Stmt->List Stmt
 |.Try _ (.ExceptHandler _ _ b _::_) _ _ _=>b
 |_=>[]
noncomputable def hPs  : Stmt->Pos
 |.Try _ (.ExceptHandler _ _ _ p::_) _ _ _=>p
 |_=>⟨0,0,0,0⟩
noncomputable def qa  : Stmt->List Stmt
 |.Try a _ _ _ _=>a
 |.If _ a _ _=>a
 |.While _ a _ _=>a
 |.For _ _ a _ _=>a
 |_=>[]
noncomputable def qb  : Stmt->List Stmt
 |.If _ _ b _=>b
 |_=>[]
noncomputable def qh  : List Stmt->Stmt
 |[]=>.Pass ⟨0,0,0,0⟩
 |s::_=>s
noncomputable def unNs  (c:Ctx):List Nat->List Expr->List Expr
 |[],_=>[]
 |i::is,hs=>.Name (nmA c i) (hd hs).pos::unNs c is hs.tail
noncomputable def unCs  : List Nat->List Expr->List Expr
 |[],_=>[]
 |k::ks,hs=>.Name (clsN k) (hd hs).pos::unCs ks hs.tail
section
variable (c:Ctx)(n:Nat)
def unHL:HL->Expr->Expr
 |.v i,h=>.Name (nmA c i) h.pos
 |.isiV,h=>.Call (.Name "isinstance" (c0 h).pos) [.Name (nmA c n) (hd (cl h)).pos,.Name "ValueError" (hd (cl h).tail).pos] [] h.pos
 |.is1 k,h=>.Call (.Name "isinstance" (c0 h).pos) [.Name (nmA c n) (hd (cl h)).pos,.Name (clsN k) (hd (cl h).tail).pos] [] h.pos
 |.isi ks,h=>.Call (.Name "isinstance" (c0 h).pos) [.Name (nmA c n) (hd (cl h)).pos,.Tuple (unCs ks (cl (hd (cl h).tail))) (kk (hd (cl h).tail)) (hd (cl h).tail).pos] [] h.pos
def jfV:Bool×HL->Expr->Expr
 |(true,l),h=>.UnaryOp .Not (unHL c n l (c0 h)) h.pos
 |(false,l),h=>unHL c n l h
noncomputable def jgF:List (Bool×HL)->List Expr->List Expr
 |[],_=>[]
 |a::r,hs=>jfV c n a (hd hs)::jgF r hs.tail
def jgG (k:Bool)(a:Bool×HL):List (Bool×HL)->Expr->Expr
 |[],h=>jfV c n a h
 |b::r,h=>.BoolOp (boU k) (jfV c n a (hd (cl h))::jgF c n (b::r) (cl h).tail) h.pos
def unHA:HA->Expr->Expr
 |.str x,h=>.Constant (.str x) (kk h) h.pos
 |.att f,h=>.Attribute (.Name (nmA c n) (c0 h).pos) f h.pos
noncomputable def jjo:List HA->List Expr->List Expr
 |[],_=>[]
 |a::r,hs=>unHA c n a (hd hs)::jjo r hs.tail
def unHV:HV->Expr->Expr
 |.cond k a as,h=>jgG c n k a as h
 |.one a,h=>unHA c n a h
 |.bl b,h=>.Constant (.bool b) (kk h) h.pos
 |.tup as,h=>.Tuple (jjo c n as (cl h)) (kk h) h.pos
 |.lst as,h=>.List (jjo c n as (cl h)) h.pos
def jla (i:Nat)(e:HV)(h:Stmt):Stmt:=.Assign [.Name (nmA c i) (q1 h).pos] (unHV c n e (q0 h)) h.pos
def unHS:HS->Stmt->Stmt
 |.asg i e,h=>jla c n i e h
 |.ifa k a as i e,h=>.If (jgG c n k a as (q0 h)) [jla c n i e (qh (qa h))] [] h.pos
noncomputable def jfW:List HS->List Stmt->List Stmt
 |[],_=>[]
 |s::r,hs=>unHS c n s (qh hs)::jfW r hs.tail
end
section
variable (cs:List Nat)(c:Ctx)
def okC (k:Nat):Bool:=decide (1<=k)&&decide (k<6)&&cs.contains k&&glo c (clsN k)
def okHL:HL->Bool
 |.v i=>decide (i<c.N.length)&&(kd c (nmA c i) .local||kd c (nmA c i) .cell||kd c (nmA c i) .free) && !(nmA c i==("__debug__" : Str)) && !(nmA c i==("__classdict__" : Str))
 |.isiV=>glo c "isinstance" && glo c "ValueError"
 |.is1 k=>glo c "isinstance" && okC cs c k
 |.isi j=>glo c "isinstance" && j.all (okC cs c)&&decide (j.length<=8)
def jdI (as:List (Bool×HL)):Bool:=as.all λp=>okHL cs c p.2
def okHA  : HA->Bool
 |.str _=>true
 |.att f=>fldN.contains f
def okHV:HV->Bool
 |.cond _ a j=>okHL cs c a.2&&jdI cs c j
 |.one a=>okHA a
 |.bl _=>true
 |.tup j=>j.all okHA&&decide (j.length<=8)
 |.lst j=>j.all okHA&&decide (j.length<=8)
def okHS (n:Nat):HS->Bool
 |.asg i e=>okN c i&&decide (i≠n)&&okHV cs c e
 |.ifa _ a j i e=>okHL cs c a.2&&jdI cs c j&&okN c i&&decide (i≠n)&&okHV cs c e
end
mutual
noncomputable def unS (c:Ctx):S->Stmt->Stmt
 |.expr d,h=>.Expr (unE T c d (q0 h)) h.pos
 |.asg t d,h=>.Assign [unTg c t (q1 h)] (unE T c d (q0 h)) h.pos
 |.asgC i d,h=>.Assign [.Name (nmA c i) (q1 h).pos] (unE T c d (q0 h)) h.pos
 |.setS o i d,h=>.Assign [.Subscript (unE T c o (c0 (q1 h))) (unE T c i (c1 (q1 h))) (q1 h).pos] (unE T c d (q0 h)) h.pos
 |.par is es,h=>.Assign [.Tuple (unNs c is (cl (q1 h))) (kk (q1 h)) (q1 h).pos] (.Tuple (unEs T c es (cl (q0 h))) (kk (q0 h)) (q0 h).pos) h.pos
 |.aug i o d,h=>.AugAssign (.Name (nmA c i) (q1 h).pos) o (unE T c d (q0 h)) h.pos
 |.ite t a b,h=>.If (unE T c t (q0 h)) (unSs c a (qa h)) (unSs c b (qb h)) h.pos
 |.fr t it b,h=>.For (unTg c t (q1 h)) (unI T c it (q0 h)) (unSs c b (qa h)) [] h.pos
 |.wh t b,h=>.While (unE T c t (q0 h)) (unSs c b (qa h)) [] h.pos
 |.ret d,h=>.Return (some (unE T c d (q0 h))) h.pos
 |.raise k es,h=>.Raise (some (.Call (.Name (clsN k) (c0 (qr h)).pos) (unEs T c es (cl (qr h))) [] (qr h).pos)) none h.pos
 |.tr b k n hs,h=>.Try (unSs c b (qa h)) [.ExceptHandler (some (.Name (clsN k) (hTy h).pos)) (some (nmA c n)) (jfW c n hs (hBd h)) (hPs h)] [] [] h.pos
noncomputable def unSs (c:Ctx):Ss->List Stmt->List Stmt
 |.nil,_=>[]
 |.cons s r,hs=>unS c s (qh hs)::unSs c r hs.tail
end
def okA (c:Ctx):Tg->E->Stmt->Bool
 |.n i,.lc ..,_=>!(kd c (nmA c i) .local)
 |.n i,.lc2 ..,_=>!(kd c (nmA c i) .local)
 |.t _,.lc ..,_=>false
 |.t _,.lc2 ..,_=>false
 |.t ts,.tup es,h=>jc1 c (jfa c ts (cl (q1 h))) (unEs T c es (cl (q0 h)))
 |_,_,_=>true
noncomputable def okNs  (c:Ctx):List Nat->Bool
 |[]=>true
 |i::is=>decide (i<c.N.length)&&kd c (nmA c i) .local && !(is.contains i)&&okNs c is
mutual
noncomputable def okS (c:Ctx):S->Stmt->Bool
 |.expr d,h=>okE T c d (q0 h) && !isLc d
 |.asg t d,h=>okE T c d (q0 h)&&okTg c t&&okA T c t d h
 |.asgC i d,h=>isLc d&&okE T c d (q0 h)&&decide (i<c.N.length)&&lcSw c (nmA c i) (q1 h).pos (q0 h).pos (scp (q0 h))
 |.setS o i d,h=>okE T c d (q0 h)&&okE T c o (c0 (q1 h))&&okE T c i (c1 (q1 h))
 |.par is es,h=>okEs T c es (cl (q0 h))&&okNs c is&&swapped c (unNs c is (cl (q1 h))) (unEs T c es (cl (q0 h)))
 |.aug i _ d,h=>okN c i&&okE T c d (q0 h)
 |.ite t a b,h=>okE T c t (q0 h)&&okSs c a (qa h)&&okSs c b (qb h)
 |.fr t it b,h=>okTg c t&&okI T c t it (q0 h)&&okSs c b (qa h)
 |.wh t b,h=>okE T c t (q0 h)&&okSs c b (qa h)
 |.ret d,h=>okE T c d (q0 h)
 |.raise k es,h=>okC T.cs c k&&decide (0<jbi es)&&okEs T c es (cl (qr h))
 |.tr b k n hs,h=>okSs c b (qa h)&&decide (k=0)&&glo c (clsN k)&&decide (n<c.N.length)&&kd c (nmA c n) .local && !(nmA c n==("__debug__" : Str)) && !(nmA c n==("__classdict__" : Str)) && !hs.isEmpty&&hs.all (okHS T.cs c n)
noncomputable def okSs (c:Ctx):Ss->List Stmt->Bool
 |.nil,_=>true
 |.cons s r,hs=>okS c s (qh hs)&&okSs c r hs.tail
end
end
def lSp  (K:Yae)(t:List U->Gp->K1->KX->Prop):Sp:=λI H J E0=>∃z G Q E,RUs K H z I/\HR K H G/\t z G Q E/\(∀w v y j,RU K j w v->HR K j y->Fr H G j y->Q w y->J v j)/\
 ∀x y j C F,XD K j C F x->HR K j y->Fr H G j y->E x y->E0 (.ref C) (some F) j
def FnU  (P:Program)(w:World)(K:Yae)(mg:Str->Option Value)(base:Heap)(k:Nat)(d:Fun)(t:List U->Gp->K1->KX->Prop):Prop:=
 ∃(f:Addr) (fd:YeZ),FnOk P w K mg base (CX1 P w) (k+2) f fd d.ps (lSp K t)/\mg d.name=some (.ref f)/\Ybv K (.ref f)=true/\Binds K fd d.ps []
noncomputable def jcT  : List Str:=["len", "repr", "min", "max", "sum", "all", "any", "sorted", "int", "str", "isinstance", "range", "enumerate", "list", "tuple", "bool", "dict", "ValueError", "set", "zip"]
structure Cok (T:Tab)(k:Nat)(X:Cx)(c:Ctx):Prop where
 hN:X.N=c.N
 nd:c.N.Nodup
 loc:∀x,kd c x .local=true->X.env.scope.names.lookup x=some .local
 cel:∀x,kd c x .cell=true->X.env.scope.names.lookup x=some .cell/\X.fn x=true
 fre:∀x,kd c x .free=true->X.env.scope.names.lookup x=some .cell\/X.env.scope.names.lookup x=some .free
 glb:∀x,kd c x .globalImplicit=true->Gl X x
 room:Room k X.A
 calm:X.calm=true
 po:Ydj (model X.prog X.w) X.A X.env X.xe
 blt:∀x∈jcT,X.mg x=none
 fns:∀(n:Nat) (d:Fun),T.funs[n]?=some d->FnU X.prog X.w X.K X.mg X.base k d (jab T k n)
 gls:∀(n:Nat) (x:Str) (u:U),T.gn[n]?=some x->T.gs[n]?=some u->∃v w,X.mg x=some w/\RelV v w/\∀H,RU X.K H u v
 room2:Room (k+2) X.A
 cls:∀n∈T.cs,1<=n->∃C,XCls X.K (gK X.K) (clsN n) (clsF n) C
 mgK:∀x v,gK X.K x=some v->X.mg x=some v
structure Cos (T:Tab)(k:Nat)(X:Cx)(c:Ctx):Prop extends Cok T k X c where
 sc:X.env.scope.names=c.sc
 kind:X.env.scope.kind=.function
 stk:X.stack=X.env::X.outer/\X.env.frame=some X.env.locals
section
variable {T:Tab}{k:Nat}{X:Cx}{c:Ctx}
def Cok.hu  (h:Cok T k X c):X.A.units+1<cLine:=jpQ h.room
def Cok.vis  (h:Cok T k X c)(v:(kd c x .local||kd c x .cell||kd c x .free)=true):Vis X.env.scope x:=by
 simp only[Ycu]at v;rcases v with(v|v)|v
 ·exact .inl (h.loc x v)
 ·exact .inr (.inl (h.cel x v).1)
 ·rcases h.fre x v with z|z
  ·exact .inr (.inl z)
  ·exact .inr (.inr z)
def Cok.store  (h:Cok T k X c)(v:(kd c x .local||kd c x .cell)=true):Loc X.env.scope x/\(X.fn x=true\/X.env.scope.names.lookup x=some .local):=by
 simp only[Ycu]at v;rcases v with v|v
 ·exact⟨.inl (h.loc x v),.inr (h.loc x v)⟩
 ·exact⟨.inr (h.cel x v).1,.inl (h.cel x v).2⟩
def Cok.gl  (h:Cok T k X c)(v:glo c x=true):Gl X x/\(x==("__debug__" : Str))=false:=by
 unfold glo at v;rw[Yaq]at v;exact⟨h.glb x v.1,by lia⟩
end
noncomputable def jfB  : Expr->Bool
 |.BoolOp ..|.BinOp ..|.UnaryOp ..|.IfExp ..|.Dict ..|.ListComp ..|.Compare ..|.Call ..|.Constant ..|.Subscript ..|.Name ..|.List ..|.Tuple ..|.JoinedStr ..=>true
 |_=>false
section
variable {T:Tab}{c:Ctx}
def jaA   ir h:jfB (unE T c ir h)=true:=by cases ir<;>rfl
def jap   (h:jfB e=true) es env:YaC (e::es) env=(false,eval e env)::YaC es env:=by
 cases e<;>first|rfl|cases h
def jmi   (h:jfB e=true):jgC e:=by
 intro o i;cases e<;>first|rfl|cases h
def jfA   (h:jfB e=true) env:∀x,Yaz e env x=pure x:=by
 intro x;cases e<;>first|rfl|cases h
def jdz   it h env:∀x,Yaz (unI T c it h) env x=pure x:=by
 cases it with
 |e d=>exact jfA (jaA d _) env
 |_=>exact λ_=>rfl
def jjX   (h:jfB i=true) env tpos:∀v,assign (.Subscript o i tpos) env v=(holding [v] (eval o env) >>= λa=>holding [v,a] (eval i env) >>= λb=>standAt tpos >>= λ_=>holding [v,a,b] (setItem a b v) >>= λ_=>release [v,a,b] []):=by
 intro v;cases i<;>first|rfl|cases h
def jk9   (q:isLc j=false) h env l:YbY (unE T c j h) none l env=pure false:=by
 cases j<;>first|rfl|cases q
def jk7   (q:isLc j=false) h tg env l:Ybo [tg] (unE T c j h) l env=pure false:=by
 cases j<;>first|rfl|cases q
def jki   ir h x y p env l:Ybo [.Subscript x y p] (unE T c ir h) l env=pure false/\Ya9 [.Subscript x y p] (unE T c ir h) env=pure none:=by
 cases ir<;>exact⟨rfl,rfl⟩
def joN   ir h x p env:Ya9 [.Name x p] (unE T c ir h) env=pure none:=by
 cases ir<;>rfl
def jk8   t h env:(Ybn [unTg c t h] env).map (·.2)=[assign (unTg c t h) env]:=by
 cases t<;>rfl
def jjk   (h:jkG o=true) m env w:YcR o m env w=w:=by
 unfold YcR;split
 ·cases h
 ·rfl
theorem jcX  : ∀j hs env pos ,(backTo pos (YaC (unEs T c j hs) env)).any (·.1)=false/\(backTo pos (YaC (unEs T c j hs) env)).all (λx=>!x.1)=true
 |.nil,_,_,_=>⟨rfl,rfl⟩
 |.cons d j,hs,env,pos=>by
  obtain⟨z,y⟩:=jcX j hs.tail env pos;show(backTo pos (YaC (unE T c d (hd hs)::unEs T c j hs.tail) env)).any (·.1)=false/\(backTo pos (YaC (unE T c d (hd hs)::unEs T c j hs.tail) env)).all (λx=>!x.1)=true;rw[jap (jaA d _)];exact⟨by show(false||(backTo pos (YaC (unEs T c j hs.tail) env)).any (·.1))=false;lia,by show(!false&&(backTo pos (YaC (unEs T c j hs.tail) env)).all (λx=>!x.1))=true;lia⟩
theorem jhP  : ∀j hs ,(unEs T c j hs).length=jbi j
 |.nil,_=>rfl
 |.cons _ j,hs=>congrArg (·+ 1) (jhP j hs.tail)
def ba   (h:(a&&b)=true):a=true/\b=true:=by lia
def bn   (h:(!a)=true):a=false:=by lia
def jiv   (h:decide (i<c.N.length)=true):c.N[i]?=some (nmA c i):=by
 unfold nmA
 simp_all
end
theorem jhW  : ∀{ts } {us } {y } {k },tgsU ts us y k->us.length=jfc ts
 |.nil,us,y,k,h=>by rw[h.1];rfl
 |.cons t ts,us,y,k,h=>by
  cases us with
  |nil=>exact h.elim
  |cons u r=>
   have:∃j,tgsU ts r j k:=tg_some h;obtain⟨j,z⟩:=this;show r.length+1=jfc ts+1;rw[jhW z]
where
 tg_some {t:Tg} {u:U} {ς:Sg} {P:Sg->Prop} (h:tgU t u ς P):∃ς',P ς':=by
  have:=jdB (k':=λ_=>∃ς',P ς') h λς' h'=>⟨ς',h'⟩;exact tg_const this
 tg_const:∀{t:Tg} {u:U} {ς:Sg} {P:Prop},tgU t u ς (λ_=>P)->P
  |.n _,_,_,_,h=>h
  |.t ts,u,ς,P,h=>by
   cases u with
   |tup us=>exact tgs_const (ts:=ts) (us:=us) h
   |_=>exact h.elim
 tgs_const:∀{ts:Tgs} {us:List U} {ς:Sg} {P:Prop},tgsU ts us ς (λ_=>P)->P
  |.nil,_,_,_,h=>h.2
  |.cons t ts,us,ς,P,h=>by
   cases us with
   |nil=>exact h.elim
   |cons u r=>exact tg_const (jdB (t:=t) h λς' h'=>tgs_const h')
section
variable {T:Tab}{k:Nat}{X:Cx}{c:Ctx}
theorem jfY  : ∀ts hs env ,(Ybn (jfa c ts hs) env).length=jfc ts/\(Ybn (jfa c ts hs) env).findIdx? (·.1)=none
 |.nil,_,_=>⟨rfl,rfl⟩
 |.cons t ts,hs,env=>by
  obtain⟨j,y⟩:=jfY ts hs.tail env;have e:Ybn (jfa c (.cons t ts) hs) env=(false,assign (unTg c t (hd hs)) env)::Ybn (jfa c ts hs.tail) env:=by cases t<;>rfl
  rw[e];exact⟨by simp[j,jfc],by simp_all⟩
def Cok.nm   (C:Cok T k X c)(h:decide (i<c.N.length)=true):X.N[i]?=some (nmA c i):=by rw[C.hN];exact jiv h
mutual
theorem sTg (C:Cok T k X c):∀(t:Tg) (h:Expr),okTg c t=true->PG X (unTg c t h) (lG X.K (tgU t))
 |.n _,_,q=>let s:=C.store (ba q).2;u_tn (by rw[C.hN];exact C.nd) (C.nm (ba q).1) s.1 s.2
 |.t ts,h,q=>u_tt C.calm (sTgs C ts (cl h) q) (jfY ts _ X.env).1 (jfY ts _ X.env).2 λj y k q=>jhW q
theorem sTgs (C:Cok T k X c):∀(ts:Tgs) (hs:List Expr),jlY c ts=true->PGs X (jfa c ts hs) (lGs X.K (tgsU ts))
 |.nil,_,_=>joQ
 |.cons t ts,hs,q=>joR (sTg C t (hd hs) (ba q).1) (sTgs C ts hs.tail (ba q).2) (by cases t<;>rfl)
end
def EB  (X:Cx)(I:St):XK:=λy F z=>∀(j:List (Addr×Obj)) (ea:Addr) (s':Shared),Inv X j I z s'->Lies X.s₀.heap.objs.size X.pn z s'.heap ea y F->X.xe (.ref ea) s'
def jib        {J:St}(F:FnOk X.prog X.w X.K X.mg X.base (CX1 X.prog X.w) j f O ps sp)(hr:Room j X.A)(hb:Binds X.K O ps [])
  (I:Inv X pins J H s) (r:Vals vs us) (h:sp vs H Q (EB X J)):wpAny (model X.prog X.w) X.A (call (.ref f) us) (EP X pins J Q) X.xe s:=by
 have hl:(us++[]).length=ps.length:=by rw[YcO,<- r.length];exact F.len _ _ _ _ h
 have y:=hb s us I.kIn hl;rw[YcO]at y;refine wpAny_call (YdF (F.run X.A X.stack s H ⟨us,[]⟩ us vs Q (EB X J) hr I.env0 y r h) λr Z z=>?_);cases r with
 |error e=>
  obtain⟨Y,H',L,dx,rfl,I',l,q⟩:=CX1.back I z;exact q pins Y Z I' l
 |ok fl=>
  cases fl with
  |ret u=>exact I.after z
  |next=>exact Yc1 z
  |brk=>exact Yc1 z
  |cont=>exact Yc1 z
def jh6         {E:KX}(r:RUs X.K H us vs)(I:HR X.K H G)(h:jab T k n us G Q E)(Y:LV X H G Q Q0)(lx:LX X σ H G E):lSp X.K (jab T k n) vs H Q0 (EB X σ):=
 ⟨us,G,Q,E,r,I,h,Y,λx O J C F xd z f q j y L Z l=>lx j (.ref y) L x O J Z ⟨y,C,F,rfl,l,xd⟩ z f q⟩
def jmI         (C:Cok T k X c)(hd:T.funs[n]?=some d)(hx:d.name=x)(hg:glo c x=true)(ha:PA X (e::es) (lA X ts))
  (he:YaC (e::es) X.env=(false,eval e X.env)::YaC es X.env) (O:(backTo pos (YaC es X.env)).any (·.1)=false) :
  PE X (.Call (.Name x p) (e::es) [] pos) (lE X λL G Q E=>ts L G (λus G1=>jab T k n us G1 Q E) E):=by
 obtain⟨f,fd,F,hm,hk,hb⟩:=C.fns n d hd;obtain⟨g1,g2⟩:=C.gl hg;rw[hx]at hm;intro j s y H Q0 I ⟨L,G,Q,E,hς,hG,h,lv,lx⟩;refine Yb8 (jdT I g1 hm ?_ g2);have h':lA X ts y H λz H1=>lSp X.K (jab T k n) z H1 Q0 (EB X y):=⟨L,G,_,E,hς,hG,h,λus z G1 H1 rs J Z h1=>jh6 rs J h1 (lv.fr Z) (lx.fr Z),lx⟩;refine Yff (h₀:=X.base) I.ok.mod.kin hk (thn (ha pos j s y H _ I h') λus s1 ⟨z,H1,Y,r,q⟩=>⟨Y.kIn,?_⟩) he O;exact jib F C.room2 hb Y r q
def jld      (C:Cok T k X c)(hd:T.funs[n]?=some d)(J:d.name=x)(z:glo c x=true) :
  PE X (.Call (.Name x p) [] [] pos) (lE X λ_ G Q E=>jab T k n [] G Q E):=by
 obtain⟨f,Z,F,y,hk,Y⟩:=C.fns n d hd;obtain⟨O,L⟩:=C.gl z;rw[J]at y;intro j s σ H Q0 I ⟨ς,G,Q,E,hς,hG,h,lv,lx⟩;refine Yb8 (jdT I O y ?_ L);exact PySem.W.callWith_K0 I.kIn hk (jib (us:=[]) (vs:=[]) F C.room2 Y I .nil (jh6 (show RUs X.K H [] []from rfl) hG h lv lx))
def Cok.comp     (C:Cok T k X c)(h:cOkS c N pick scope=true):CScope X N pick scope/\∀cl A s₀ H₀ J,Cok T k (jae X N scope cl A s₀ H₀ J) ⟨N,scope.names⟩:=by
 unfold cOkS at h;simp only[Yaq,decide_eq_true_eq]at h;obtain⟨⟨⟨⟨⟨⟨h1,h2⟩,h3⟩,h4⟩,h5⟩,h6⟩,h7⟩:=h;have F:∀y∈scope.names,y.2=.cell->scope.names.lookup y.1=some .cell:=λy I hc=>by
  grind
 refine⟨⟨h1,F,λy I hl=>?_,λy I L=>?_,by lia,λi j x Z Y=>?_⟩,λcl A s₀ H₀ J=>?_⟩
 ·grind
 ·have:=List.all_eq_true.mp h4 y I;rw[L]at this;simp only[bne_self_eq_false,Ye2,Yaq,Ycu,beq_iff_eq]at this;refine⟨this.1,?_⟩;rcases this.2 with z|z
  ·exact .inl (C.cel _ z).1
  ·exact C.fre _ z
 ·have O:(N.zip pick)[i]?=some (x,some j):=by rw[YeE];exact⟨Z,Y⟩
  have:=List.all_eq_true.mp h6 _ (Yas O);rw[C.hN]
  lia
 ·refine⟨rfl,h7,λx z=>?_,λx z=>?_,λx z=>?_,λx z=>?_,C.room,C.calm,Ydj.never,C.blt,C.fns,C.gls,C.room2,C.cls,C.mgK⟩
  ·exact jaD (by decide) (eq_of_beq z)
  ·exact⟨jaD (by decide) (eq_of_beq z),z⟩
  ·exact jbe (eq_of_beq z)
  ·exact glc (eq_of_beq z)
end
end Z

namespace Z
open PySem L2

def HR.newX  (h:HR K H G)(e:H p=none):HR K (upd H p (.xd l)) G:=⟨λa o q=>by
 have m:=h a o q;obtain⟨y,j⟩:=m.there;exact m.keep (jad (jai j e)) (TS.new e),h.tab.new e⟩
def HR.xdNone  (h:HR K H G)(e:H a=some (.xd l)):G a=none:=by
 cases q:G a with
 |none=>rfl
 |some o=>
  have m:=h a o q;cases o with
  |lst y=>obtain⟨_,j,_⟩:=m;lia
  |fro y=>obtain⟨_,_,j,_⟩:=m;lia
  |dK y=>obtain⟨_,j,_⟩:=m;lia
  |dT y=>obtain⟨_,j,_⟩:=m;lia
  |frd _ y=>obtain⟨_,j,_⟩:=m;lia
  |frk _ y=>obtain⟨_,j,_⟩:=m;lia
def XD.fr    (h:XD K H C dx x)(j:HR K H G)(f:Fr H G H' G'):XD K H' C dx x:=by
 obtain⟨J,I,z,l,y,F,r⟩:=h;exact⟨J,I,z,l,(f dx _ y (j.xdNone y)).1,F,r.ts (f.ts j)⟩
def ji8  : ∀k<6,∀f∈clsF k,f∈fldN:=by decide +kernel
def jj9   k:∀f∈clsF k,f∈fldN:=by
 by_cases h:k<6
 ·exact ji8 k h
 ·intro f j;have:clsF k=[]:=by
   unfold clsF;rw[Ybf,YcC (by show clsA.length<=k;simp only[clsA,YaU,Yct];lia)];rfl
  simp_all
def jhl  : ∀i<6,∀j<6,clsN i=clsN j->i=j:=by decide +kernel
def ji7  : ∀i<6,1<=i->clsN i ≠ "PlanError" := by decide +kernel
section
variable {T:Tab}{k:Nat}{X:Cx}{c:Ctx}
def jg1    (h:okC cs c n=true):1<=n/\n<6/\n∈cs/\glo c (clsN n)=true:=by
 unfold okC at h
 simp_all
def s_raise       (C:Cok T k X c)(hn:okC T.cs c n=true)(ha:PA X (e::es) (lA X ts))(he:YaC (e::es) X.env=(false,eval e X.env)::YaC es X.env)(Y:(backTo cpos (YaC es X.env)).any (·.1)=false) :
  PS X (.Raise (some (.Call (.Name (clsN n) p) (e::es) [] cpos)) none pos) (lS X λD F G=>ts F G (λus j=>us.length=(clsF n).length/\D.ex ⟨n,us⟩ F j) λx j=>D.ex x F j):=by
 obtain⟨n1,n2,n3,n4⟩:=jg1 hn;obtain⟨Ca,cl⟩:=C.cls n n3 n1;obtain⟨g1,g2⟩:=C.gl n4;refine(jie (k:=k) cl (jj9 n) C.room2 g1 (C.mgK _ _ cl.m) ha g2 he Y).imp λD σ H ⟨De,F,G,z,O,h,ld⟩=>?_;refine⟨F,G,_,_,z,O,h,λus vs j H1 rs y Z h1=>?_,ld.lx z O⟩;have hl:vs.length=(clsF n).length:=rs.length.symm.trans h1.1;refine⟨hl,λJ ea dx s' hd I l=>?_⟩;have L:Fr H1 j (upd H1 dx (.xd ((clsF n).zip vs))) j:=Fr.new hd;refine ld.ex J (.ref ea) s' ⟨n,us⟩ F σ j _ I ((z.ts (Z.ts O)).ts (L.ts y)) ⟨ea,Ca,dx,rfl,l,n1,n2,cl,_,jaj,?_,?_⟩ (y.newX hd) (Z.trans L) h1.2
 ·exact Ygp (by lia)
 ·rw[List.map_snd_zip (by lia)]
  exact rs.ts (L.ts y)
end
structure HC (T:Tab)(X:Cx)(c:Ctx)(n:Nat)(ea C dx:Addr)(x:XV):Prop where
 hN:X.N=c.N
 nd:c.N.Nodup
 loc:∀y,kd c y .local=true->X.env.scope.names.lookup y=some .local
 cel:∀y,kd c y .cell=true->X.env.scope.names.lookup y=some .cell/\X.fn y=true
 fre:∀y,kd c y .free=true->X.env.scope.names.lookup y=some .cell\/X.env.scope.names.lookup y=some .free
 glb:∀y,kd c y .globalImplicit=true->Gl X y
 blt:∀y∈jcT,X.mg y=none
 cls:∀n∈T.cs,1<=n->∃C,XCls X.K (gK X.K) (clsN n) (clsF n) C
 me:XCls X.K (gK X.K) (clsN x.c) (clsF x.c) C
 lo:1<=x.c
 hi:x.c<6
 pin:XPin X ea C dx
 mgK:∀y v,gK X.K y=some v->X.mg y=some v
 en:n<c.N.length/\kd c (nmA c n) .local=true/\(nmA c n==("__debug__" : Str))=false/\(nmA c n==("__classdict__" : Str))=false
structure HSt (X:Cx)(n:Nat)(ea C dx:Addr)(x:XV)(σ:St)(H:Hp)(ς:Sg)(G:Gp):Prop where
 sr:SR X.K H ς σ
 hr:HR X.K H G
 en:σ[n]?=some (some (.ref ea))
 xd:XD X.K H C dx x
def hB  (X:Cx)(n:Nat)(F C z:Addr)(x:XV)(f:Sg->Option Bool):TE:=λI H Q=>∃y G b,HSt X n F C z x I H y G/\f y=some b/\∀j,HR X.K j G->Fr H G j G->Q (.bl b) j
def hT  (X:Cx)(n:Nat)(F C z:Addr)(x:XV)(f:Sg->Option Bool):TT:=λI H Q=>∃y G b,HSt X n F C z x I H y G/\f y=some b/\∀j,HR X.K j G->Fr H G j G->Q b j
section
variable {T:Tab}{X:Cx}{c:Ctx}{n:Nat}{ea C dx:Addr}{x:XV}
def HSt.fr      (h:HSt X n ea C dx x σ H j G)(hr:HR X.K H' G')(f:Fr H G H' G'):HSt X n ea C dx x σ H' j G':=⟨h.sr.ts (f.ts h.hr),hr,h.en,h.xd.fr h.hr f⟩
def HC.pe  (h:HC T X c n ea C dx x):PE X (.Name (nmA c n) p) (tVar n):=by
 obtain⟨y,j,F,z⟩:=h.en;exact jcI (by rw[h.hN];exact jiv (decide_eq_true y)) (.inl (h.loc _ j)) F z
def HC.gl  (h:HC T X c n ea C dx x)(v:glo c y=true):Gl X y/\(y==("__debug__" : Str))=false:=by
 unfold glo at v;rw[Yaq]at v;exact⟨h.glb y v.1,by lia⟩
def HC.ownC  (h:HC T X c n ea C dx x)(q:okC T.cs c m=true):∃j,XCls X.K (gK X.K) (clsN m) (clsF m) j/\clsN m ≠ "PlanError" /\ ∀p,PE X (.Name (clsN m) p) (tC (.ref j)):=by
 obtain⟨y,J,z,F⟩:=jg1 q;obtain⟨j,cl⟩:=h.cls m z y;obtain⟨L,I⟩:=h.gl F;exact⟨j,cl,ji7 m J y,λp=>jij L (h.mgK _ _ cl.m) rfl I⟩
theorem HC.pcs  (h:HC T X c n ea C dx x):∀{j },j.all (okC T.cs c)=true->∀hs ,∃(xs:List Str) (y:List Addr),xs=j.map clsN/\XMany X (gK X.K) xs y/\y.length=j.length/\PA X (unCs j hs) (λ_ H Q=>Q (y.map .ref) H)
 |[],_,_=>⟨[],[],rfl,.nil,rfl,jei⟩
 |m::j,q,hs=>by
  simp only[Ybj,Yaq]at q;obtain⟨I,cl,L,pe⟩:=h.ownC q.1;obtain⟨xs,y,e,J,F,z⟩:=h.pcs q.2 hs.tail;subst e;exact⟨_,I::y,rfl,.cons cl L J,by simp[F],jbN (pe _) z⟩
def jgh  : YbS "isinstance" = some (.builtin "isinstance"):=YdA
def HC.isiT  (h:HC T X c n ea C dx x)(g1:Gl X "isinstance")(Y:(("isinstance" : Str)==("__debug__" : Str))=false)(Z:XMany X (gK X.K) xs z)(pa:PA X es (λ_ H Q=>Q (z.map .ref) H)) :
  PE X (.Call (.Name "isinstance" p3) [.Name (nmA c n) I,.Tuple es y j] [] O) (λL H Q=>L[n]?=some (some (.ref ea))/\z.length<=8/\∀p,H p=none->(∃l,upd H p (.tup (z.map .ref)) dx=some (.xd l))/\Q (.bl (xs.contains (clsN x.c))) (upd H p (.tup (z.map .ref)))):=by
 have J:X.mg "isinstance" = none:=h.blt _ (by decide)
 have a1:PA X [.Tuple es y j] _:=jbN (jii pa) jei (jap rfl _ _);have a2:PA X [.Name (nmA c n) I,.Tuple es y j] _:=jbN (h.pe) a1 (jap rfl _ _);have cr:=jjg h.me Z h.pin;have hh:YaC [.Name (nmA c n) I,.Tuple es y j] X.env=(false,eval (.Name (nmA c n) I) X.env)::YaC [.Tuple es y j] X.env:=jap rfl _ _;have F:(backTo O (YaC [.Tuple es y j] X.env)).any (·.1)=false:=by rw[jap rfl];rfl
 refine PE.imp (jdt (p:=p3) (pos:=O) cr g1 J jgh a2 (by decide) Y hh F) λL H Q ⟨e1,e2,k⟩=>?_
 refine⟨_,e1,?_,λp F=>⟨p,rfl,jaj,(k p F).1,(k p F).2⟩⟩;rw[Yaa,YbV];lia
def HC.lit  (h:HC T X c n ea C dx x)(q:okHL T.cs c l=true) hx:PE X (unHL c n l hx) (hB X n ea C dx x λI=>litH x I l)/\PT X (unHL c n l hx) (hT X n ea C dx x λI=>litH x I l):=by
 have L:PE X (unHL c n l hx) (hB X n ea C dx x λI=>litH x I l):=by
  have Z:X.mg "isinstance" = none:=h.blt _ (by decide)
  have xa:X.mg "ValueError" = none:=h.blt _ (by decide)
  cases l with
  |v i=>
   have F:((decide (i<c.N.length)&&(kd c (nmA c i) .local||kd c (nmA c i) .cell||kd c (nmA c i) .free) && !(nmA c i==("__debug__" : Str)) && !(nmA c i==("__classdict__" : Str))))=true:=q;obtain⟨⟨⟨h1,h2⟩,h3⟩,h4⟩:=(⟨⟨ba (ba (ba F).1).1,(ba (ba F).1).2⟩,(ba F).2⟩:((_/\_)/\_)/\_);have vis:Vis X.env.scope (nmA c i):=by
    simp only[Ycu]at h2;rcases h2 with(z|z)|z
    ·exact .inl (h.loc _ z)
    ·exact .inr (.inl (h.cel _ z).1)
    ·exact(h.fre _ z).elim (λz=>.inr (.inl z)) λz=>.inr (.inr z)
   refine(jcI (by rw[h.hN];exact jiv h1) vis (bn h3) (bn h4)).imp λσ H Q ⟨I,G,b,st,e,k⟩=>?_
   have e':(match I[i]? with|some (some (U.bl b))=>some b|_=>none)=some b:=e
   split at e'
   ·rename_i b' Y;cases e';obtain⟨v,ev,r⟩:=st.sr.2 i _ Y;cases r;exact⟨_,ev,k H st.hr (Fr.refl _ _)⟩
   lia
  |isiV=>
   have F:(glo c "isinstance" && glo c "ValueError")=true:=q;obtain⟨O,J⟩:=h.gl (ba F).1;obtain⟨g3,g4⟩:=h.gl (ba F).2;refine(jdt (jjf h.me h.pin) O Z jgh (jbN h.pe (jbN (jik (v:=.ty "ValueError") g3 xa (by decide +kernel) rfl (by decide) g4) jei)) (by decide) J rfl rfl).imp λσ H Q ⟨I,G,b,st,e,k⟩=>?_
   cases(show true=b from Yaw e);obtain⟨_,_,_,l,hl,_⟩:=st.xd;exact⟨_,st.en,rfl,⟨l,hl⟩,k H st.hr (Fr.refl _ _)⟩
  |is1 m=>
   have F:(glo c "isinstance" && okC T.cs c m)=true:=q;obtain⟨O,J⟩:=h.gl (ba F).1;obtain⟨C',cl,np,pe⟩:=h.ownC (ba F).2;refine(jdt (jjh h.me cl np h.pin) O Z jgh (jbN h.pe (jbN (pe _) jei)) (by decide) J rfl rfl).imp λσ H Q ⟨I,G,b,st,e,k⟩=>?_
   have Y:decide (x.c=m)=b:=Yaw e;have e2:decide (clsN x.c=clsN m)=b:=by
    rw[<- Y];obtain⟨_,m2,_⟩:=jg1 (ba F).2;by_cases z:x.c=m
    ·simp[z]
    ·have:clsN x.c≠clsN m:=λy=>z (jhl _ h.hi _ m2 y)
     lia
   obtain⟨_,_,_,l,hl,_⟩:=st.xd;exact⟨_,st.en,rfl,⟨l,hl⟩,by rw[e2];exact k H st.hr (Fr.refl _ _)⟩
  |isi ks=>
   have F:(glo c "isinstance" && ks.all (okC T.cs c)&&decide (ks.length<=8))=true:=q;obtain⟨O,J⟩:=h.gl (ba (ba F).1).1;obtain⟨xs,Cs,za,mn,ln,pa⟩:=h.pcs (ba (ba F).1).2 (cl (hd (cl hx).tail));refine PE.imp (h.isiT O J mn pa) λσ H Q ⟨I,G,b,st,e,k⟩=>?_;have Y:ks.contains x.c=b:=Yaw e;have e2:xs.contains (clsN x.c)=b:=by
    rw[<- Y,za];have all:∀m∈ks,m<6:=λm hm=>(jg1 (List.all_eq_true.mp (ba (ba F).1).2 m hm)).2.1;rw[YbL];simp only[List.contains_iff_mem,List.mem_map];constructor
    ·rintro⟨m,hm,em⟩;have:=jhl _ (all m hm) _ h.hi em
     lia
    lia
   refine⟨st.en,?_,λp hp=>⟨?_,?_⟩⟩
   ·lia
   ·obtain⟨_,_,_,l,hl,_⟩:=(st.fr (st.hr.newT hp) (Fr.new hp)).xd;exact⟨l,hl⟩
   ·rw[e2];exact k _ (st.hr.newT hp) (Fr.new hp)
 refine⟨L,?_⟩;have tr:∀j,isTrue (unHL c n l hx) X.env j=(do let v <- j;standAt (unHL c n l hx).pos;holding [v] (truthy v)):=by
  intro j;cases l<;>rfl
 refine(jnd L tr).imp λσ H Q ⟨I,G,b,st,e,k⟩=>?_;exact⟨I,G,b,st,e,λH' a f=>⟨b,rfl,k H' a f⟩⟩
def HC.litN  (h:HC T X c n ea C dx x)(q:okHL T.cs c p.2=true) hx:PE X (jfV c n p hx) (hB X n ea C dx x λj=>lit1 x j p)/\PT X (jfV c n p hx) (hT X n ea C dx x λj=>lit1 x j p):=by
 obtain⟨y,l⟩:=p;cases y with
 |false=>
  obtain⟨F,z⟩:=h.lit q hx;refine⟨PE.imp F λI H Q ⟨j,G,b,st,e,k⟩=>⟨j,G,b,st,?_,k⟩,PT.imp z λI H Q ⟨j,G,b,st,e,k⟩=>⟨j,G,b,st,?_,k⟩⟩ <;>
  ·unfold lit1 at e
   lia
 |true=>
  obtain⟨F,z⟩:=h.lit q (c0 hx);refine⟨PE.imp (jnr F) λI H Q ⟨j,G,b,st,e,k⟩=>⟨j,G,!b,st,?_,λJ a f=>⟨!b,rfl,by simp_all⟩⟩,PT.imp (jky z) λI H Q ⟨j,G,b,st,e,k⟩=>⟨j,G,!b,st,?_,λJ a f=>by simp_all⟩⟩ <;>
  ·unfold lit1 at e;dsimp only at e;split at e
   ·simp_all
   lia
theorem HC.conds  (h : HC T X c n ea C dx x) k : ∀ as (a : Bool × HL) hx hs pos , okHL T.cs c a.2 = true -> jdI T.cs c as = true ->
    PE X (.BoolOp (boU k) (jfV c n a hx :: jgF c n as hs) pos) (hB X n ea C dx x λj => jcB x j k a as) /\ PW X (.BoolOp (boU k) (jfV c n a hx :: jgF c n as hs) pos) (hT X n ea C dx x λj => jcB x j k a as)
  | [], a, hx, hs, pos, q, _ => by
    obtain ⟨Y, O⟩ := h.litN q hx
    cases k with
    | true => exact ⟨jgY Y, pw_and1 O⟩
    | false => exact ⟨jgY Y, pw_or1 O⟩
  | b :: r, a, hx, hs, pos, q, qs => by
    unfold jdI at qs
    simp only [Ybj, Yaq] at qs
    obtain ⟨Y, O⟩ := h.litN q hx
    obtain ⟨r1, r2⟩ := h.conds k r b (hd hs) hs.tail pos qs.1 qs.2
    have L : ∀ {j : Sg} {t y : Bool}, lit1 x j a = some t -> jcB x j k a (b :: r) = some y -> (if t = k then jcB x j k b r else some t) = some y := λ{j t y} e1 Z => by
      have e3 : (match lit1 x j a with | some t => if t = k then jcB x j k b r else some t | none => none) = some y := Z
      lia
    have F : ∀ {j : Sg} {y : Bool}, jcB x j k a (b :: r) = some y -> ∃ t, lit1 x j a = some t := λ{j y} Z => by
      have e3 : (match lit1 x j a with | some t => if t = k then jcB x j k b r else some t | none => none) = some y := Z
      grind
    cases k with
    | true =>
      refine ⟨PE.imp (jnw Y r1) λσ H Q ⟨j, G, y, st, e, kk⟩ => ?_, PW.imp (pw_and O r2) λσ H Q ⟨j, G, y, st, e, kk⟩ => ?_⟩ <;>
      · obtain ⟨t, J⟩ := F e
        have e' := L J e
        first
          | (refine ⟨j, G, t, st, J, λH' I f => ⟨t, rfl, ?_⟩⟩
             cases t with
             | true => exact ⟨j, G, y, st.fr I f, by lia, λz a b => kk z a (f.trans b)⟩
             | false => simp_all)
          | (refine ⟨j, G, t, st, J, λH' I f => ?_⟩
             cases t with
             | true => exact ⟨j, G, y, st.fr I f, by lia, λz a b => kk z a (f.trans b)⟩
             | false => simp_all)
    | false =>
      refine ⟨PE.imp (jpz Y r1) λσ H Q ⟨j, G, y, st, e, kk⟩ => ?_, PW.imp (pw_or O r2) λσ H Q ⟨j, G, y, st, e, kk⟩ => ?_⟩ <;>
      · obtain ⟨t, J⟩ := F e
        have e' := L J e
        first
          | (refine ⟨j, G, t, st, J, λH' I f => ⟨t, rfl, ?_⟩⟩
             cases t with
             | false => exact ⟨j, G, y, st.fr I f, by lia, λz a b => kk z a (f.trans b)⟩
             | true => simp_all)
          | (refine ⟨j, G, t, st, J, λH' I f => ?_⟩
             cases t with
             | false => exact ⟨j, G, y, st.fr I f, by lia, λz a b => kk z a (f.trans b)⟩
             | true => simp_all)
def HC.cond  (h:HC T X c n ea C dx x) k (a:Bool×HL) as hx (q:okHL T.cs c a.2=true)(y:jdI T.cs c as=true) :
  PE X (jgG c n k a as hx) (hB X n ea C dx x λj=>jcB x j k a as)/\PT X (jgG c n k a as hx) (hT X n ea C dx x λj=>jcB x j k a as):=by
 cases as with
 |nil=>exact h.litN q hx
 |cons b r=>let z:=h.conds k (b::r) a (hd (cl hx)) (cl hx).tail hx.pos q y;exact⟨z.1,z.2.pt⟩
def hV  (X:Cx)(n:Nat)(z C y:Addr)(x:XV)(f:Sg->Gp->K1->Prop):TE:=λF H I=>∃j G Q,HSt X n z C y x F H j G/\f j G Q/\LV X H G Q I
theorem jhN      : ∀{l:List (Str×V)} {us },RUs K H us (l.map (·.2))->((l.map (·.1)).zip us).lookup f=some u->∃v,l.lookup f=some v/\RU K H u v
 |[],us,_,e=>by simp at e
 |(y,v)::l,[],r,e=>by simp at e
 |(y,v)::l,w::us,r,e=>by
  obtain⟨I,J,j,r1,F⟩:=r;simp only[YaO,Yfs]at j;obtain⟨rfl,rfl⟩:=j;simp only[YaO,YfT,Ybs]at e ⊢;split at e
  ·lia
  ·rename_i z;obtain⟨I,O,L⟩:=jhN F e
   simp_all
def XD.get      (z:XD K H C dx x)(e:atH x (.att f)=some u):∃l v,H dx=some (.xd l)/\l.lookup f=some v/\RU K H u v:=by
 obtain⟨_,_,_,l,F,y,r⟩:=z;have j:((clsF x.c).zip x.fs).lookup f=some u:=e;rw[<- y]at j;obtain⟨v,J,I⟩:=jhN r j
 simp_all
def HC.at  (h:HC T X c n ea C dx x)(q:okHA a=true) hx:PE X (unHA c n a hx) (λz H O=>∃j G u,HSt X n ea C dx x z H j G/\atH x a=some u/\∀v,RU X.K H u v->O v H):=by
 cases a with
 |str y=>exact PE.imp jkB λz H Q ⟨j,G,u,st,e,k⟩=>by cases e;exact k _ rfl
 |att f=>
  have F:f∈fldN:=by simpa[okHA]using q
  refine PE.imp (jlJ h.me h.pin F h.pe rfl) λz H Q ⟨j,G,u,st,e,k⟩=>?_;obtain⟨l,v,I,L,J⟩:=st.xd.get e;exact⟨_,st.en,rfl,l,v,I,L,k v J⟩
def jmj   a hx es env:YaC (unHA c n a hx::es) env=(false,eval (unHA c n a hx) env)::YaC es env:=by cases a<;>rfl
theorem HC.ats  (h:HC T X c n ea C dx x):∀{as } (_:as.all okHA=true) hs ,PA X (jjo c n as hs) (λz H F=>∃y G us,HSt X n ea C dx x z H y G/\atsH x as=some us/\∀vs,RUs X.K H us vs->F vs H)
 |[],_,_=>λJ j s z H F I ⟨y,G,us,st,e,k⟩=>by cases e;exact jei J j s z H F I (k [] rfl)
 |a::r,q,hs=>by
  simp only[Ybj,Yaq]at q;refine PA.imp (jbN (h.at q.1 (hd hs)) (h.ats q.2 hs.tail) (jmj a _ _ _)) λz H F ⟨y,G,us,st,e,k⟩=>?_;have Y:(match atH x a,atsH x r with|some u,some us=>some (u::us)|_,_=>none)=some us:=e
  split at Y
  ·rename_i u L e1 Z;cases Y;exact⟨y,G,u,st,e1,λv rv=>⟨y,G,L,st,Z,λvs O=>k (v::vs) ⟨v,vs,rfl,rv,O⟩⟩⟩
  lia
theorem jgx  : ∀{as } {us },atsH x as=some us->us.length=as.length
 |[],us,e=>by cases e;rfl
 |a::r,us,e=>by
  have j:(match atH x a,atsH x r with|some u,some us=>some (u::us)|_,_=>none)=some us:=e
  split at j
  ·rename_i u z F y;cases j;simp[jgx y]
  lia
def HC.val  (h:HC T X c n ea C dx x)(q:okHV T.cs c e=true) hx:PE X (unHV c n e hx) (hV X n ea C dx x λF G Q=>hvH x F e G Q):=by
 cases e with
 |cond k a z=>
  have J:(okHL T.cs c a.2&&jdI T.cs c z)=true:=q;refine PE.imp (h.cond k a z hx (ba J).1 (ba J).2).1 λY H Z ⟨F,G,Q,st,e,I⟩=>?_;have j:(match jcB x F k a z with|some b=>Q (.bl b) G|none=>False):=e
  split at j
  ·rename_i b eb;exact⟨F,G,b,st,eb,λH' hr f=>I (.bl b) (.bl b) G H' rfl hr f j⟩
  lia
 |one a=>
  refine PE.imp (h.at (show okHA a=true from q) hx) λY H Z ⟨F,G,Q,st,e,I⟩=>?_;have j:(match atH x a with|some u=>Q u G|none=>False):=e
  split at j
  ·rename_i u O;exact⟨F,G,u,st,O,λv rv=>I.here rv st.hr j⟩
  lia
 |bl b=>exact PE.imp jnv λY H Z ⟨F,G,Q,st,e,I⟩=>I.bl st.hr e
 |tup z=>
  have J:(z.all okHA&&decide (z.length<=8))=true:=q;refine PE.imp (jii (h.ats (ba J).1 (cl hx))) λY H Z ⟨F,G,Q,st,e,I⟩=>?_;have j:(match atsH x z with|some L=>Q (.tup L) G|none=>False):=e
  split at j
  ·rename_i L O;refine⟨F,G,L,st,O,λvs y=>⟨?_,λp hp=>I.tup hp y st.hr j⟩⟩;have:=of_decide_eq_true (ba J).2;rw[<- y.length,jgx O,YbV];lia
  lia
 |lst z=>
  have J:(z.all okHA&&decide (z.length<=8))=true:=q;refine PE.imp (jkC (h.ats (ba J).1 (cl hx))) λY H Z ⟨F,G,Q,st,e,I⟩=>?_;have j:(match atsH x z with|some L=>newO G (.lst L) Q|none=>False):=e
  split at j
  ·rename_i L O;refine⟨F,G,L,st,O,λvs y=>⟨?_,λp hp=>I.lst hp y st.hr j⟩⟩;have:=of_decide_eq_true (ba J).2;rw[<- y.length,jgx O,YbV];lia
  lia
def jiP   e hx y p env l:Ybo [.Name y p] (unHV c n e hx) l env=pure false/\Ya9 [.Name y p] (unHV c n e hx) env=pure none:=by
 cases e with
 |cond k a z=>
  cases z with
  |nil=>
   obtain⟨j,l⟩:=a;cases j<;>cases l<;>exact⟨rfl,rfl⟩
  |cons=>exact⟨rfl,rfl⟩
 |one a=>cases a<;>exact⟨rfl,rfl⟩
 |_=>exact⟨rfl,rfl⟩
def HC.store  (h:HC T X c n ea C dx x)(q:okN c i=true):PG X (.Name (nmA c i) p) (jhF i):=by
 have j:(decide (i<c.N.length)&&(kd c (nmA c i) .local||kd c (nmA c i) .cell))=true:=q;have v:=(ba j).2;simp only[Ycu]at v;rcases v with v|v
 ·exact jf6 (by rw[h.hN];exact h.nd) (by rw[h.hN];exact jiv (ba j).1) (.inl (h.loc _ v)) (.inr (h.loc _ v))
 ·exact jf6 (by rw[h.hN];exact h.nd) (by rw[h.hN];exact jiv (ba j).1) (.inr (h.cel _ v).1) (.inl (h.cel _ v).2)
def HSt.set         (h:HSt X n ea C dx x σ H j G)(hi:i≠n)(r:RU X.K H u v):HSt X n ea C dx x (σ.set i (some v)) H (j.set i (some u)) G:=
 ⟨h.sr.set r i,h.hr,by rw[Ya5 hi];exact h.en,h.xd⟩
def HC.asg  (h:HC T X c n ea C dx x)(qi:okN c i=true)(hi:i≠n)(qe:okHV T.cs c e=true) st :
  PS X (jla c n i e st) (λD O H=>∃(F:Sg) (G:Gp) (k:Sg->Gp->Prop),HSt X n ea C dx x O H F G/\hvH x F e G (λu Z=>k (F.set i (some u)) Z)/\∀j z I y,HSt X n ea C dx x z y j I->Fr H G y I->k j I->D.nx z y):=by
 refine PS.imp (jif (h.val qe (q0 st)) (h.store qi) (jiP e _ _ _ _ _).1 (jiP e _ _ _ _ 0).2 rfl) λD O H ⟨F,G,k,L,hv,J⟩=>?_;exact⟨F,G,_,L,hv,λu v I y r Y f q=>J _ _ I y ((L.fr Y f).set hi r) f q⟩
def hS  (X:Cx)(n:Nat)(J C I:Addr)(x:XV)(hs:List HS):L2.TS:=λD O H=>∃L G k,HSt X n J C I x O H L G/\hsH x hs L G k/\∀j y F z,HSt X n J C I x y z j F->Fr H G z F->k j F->D.nx y z
theorem HC.stmts  (h:HC T X c n ea C dx x):∀{hs } (_:hs.all (okHS T.cs c n)=true) sts ,PSs X (jfW c n hs sts) (hS X n ea C dx x hs)
 |[],_,_=>PSs.imp jf5 λD σ H ⟨z,G,k,st,q,F⟩=>F z σ G H st (Fr.refl _ _) q
 |.asg i e::r,q,sts=>by
  simp only[Ybj,Yaq]at q;have q1:(okN c i&&decide (i≠n)&&okHV T.cs c e)=true:=q.1;refine PSs.imp (jeL (h.asg (ba (ba q1).1).1 (of_decide_eq_true (ba (ba q1).1).2) (ba q1).2 (qh sts)) (h.stmts q.2 sts.tail)) λD σ H ⟨z,G,k,st,hq,F⟩=>?_;exact⟨z,G,λO G1=>hsH x r O G1 k,st,hq,λj y J L I f q'=>⟨j,J,k,I,q',λZ Y G2 H2 st2 f2 q2=>F Z Y G2 H2 st2 (f.trans f2) q2⟩⟩
 |.ifa kk a as i e::r,q,sts=>by
  simp only[Ybj,Yaq]at q;have q1:(okHL T.cs c a.2&&jdI T.cs c as&&okN c i&&decide (i≠n)&&okHV T.cs c e)=true:=q.1;have p1:=jnk (pos:=(qh sts).pos) (h.cond kk a as (q0 (qh sts)) (ba (ba (ba (ba q1).1).1).1).1 (ba (ba (ba (ba q1).1).1).1).2).2 (jly (h.asg (ba (ba (ba q1).1).1).2 (of_decide_eq_true (ba (ba q1).1).2) (ba q1).2 (qh (qa (qh sts))))) jf5;refine PSs.imp (jeL p1 (h.stmts q.2 sts.tail)) λD σ H ⟨z,G,k,st,hq,F⟩=>?_;have za:∀j y J L,HSt X n ea C dx x y L j J->Fr H G L J->hsH x r j J k->hS X n ea C dx x r D y L:=λj y J L I f q'=>⟨j,J,k,I,q',λZ Y G2 H2 st2 f2 q2=>F Z Y G2 H2 st2 (f.trans f2) q2⟩;have xa:(match jcB x z kk a as with|some true=>hvH x z e G λu G1=>hsH x r (z.set i (some u)) G1 k|some false=>hsH x r z G k|none=>False):=hq
  split at xa
  ·rename_i ec;refine⟨z,G,true,st,ec,λL hr f=>?_⟩;refine iteT ?_;exact⟨z,G,λO G1=>hsH x r O G1 k,st.fr hr f,xa,λj y J ja I f' q'=>za j y J ja I (f.trans f') q'⟩
  ·rename_i ec;refine⟨z,G,false,st,ec,λL hr f=>?_⟩;refine iteF ?_;exact za z σ G L (st.fr hr f) f xa
  lia
end
def SR.hide      (h:SR K H j σ) n o:SR K H (j.set n none) (σ.set n o):=by
 refine⟨by simp[h.1],λi u e=>?_⟩
 by_cases z:i=n
 ·subst z;rw[List.getElem?_set]at e;simp only[if_true]at e;split at e<;>cases e
 ·rw[Ya5 (Ne.symm z)]at e ⊢;exact h.2 i u e

def s_try  {T: Tab}{sts:List Stmt}(C:Cos T k X c)(hm:decide (m=0)=true)(hg:glo c (clsN m)=true)(hn:decide (n<c.N.length)=true)(hl:kd c (nmA c n) .local=true)(vb:(nmA c n==("__debug__" : Str))=false)(qd:(nmA c n==("__classdict__" : Str))=false)
  (zb:hs.isEmpty=false) (vc:hs.all (okHS T.cs c n)=true) (hb:∀pins xe ,Ydj (model X.prog X.w) X.A X.env xe->PSs (X.tryC pins xe) b (lS (X.tryC pins xe) tb)) :
  PS X (.Try b [.ExceptHandler (some (.Name (clsN m) pt)) (some (nmA c n)) (jfW c n hs sts) ph] [] [] pos)
   (lS X λD ς G=>tb { D with ex:=λx wb G1=>(m=0\/x.c=m)/\hsH x hs (wb.set n none) G1 λza G2=>D.nx (za.set n none) G2 } ς G):=by
 intro pins s σ H D I ⟨De,ς,G,hς,hG,h0,ld⟩;obtain⟨s0,sr,ka⟩:∃s0 sr,jfW c n hs sts=s0::sr:=by
  cases hs with
  |nil=>cases zb
  |cons a r=>exact⟨_,_,rfl⟩
 have nd:X.N.Nodup:=by rw[C.hN];exact C.nd
 have hi:X.N[n]?=some (nmA c n):=C.toCok.nm hn;have ya:=C.loc _ hl;obtain⟨zd,kb⟩:=C.toCok.gl hg
 let Y:Value->Shared->Prop:=λe wa=>wpAny (model X.prog X.w) X.A (Ygh e X.env) (λ_ O=>wpAny (model X.prog X.w) X.A (Yeh e none) (λ_ Z=>wpAny (model X.prog X.w) X.A (handleBy e X.env [.ExceptHandler (some (.Name (clsN m) pt)) (some (nmA c n)) (jfW c n hs sts) ph]) (SP X pins D) X.xe Z) X.xe O) X.xe wa
 have ha:∀(xa:List (Addr×Obj)) (e:Value) (s':Shared) (x:XV) va j G' F,Inv (X.tryC pins Y) xa j F s'->SR X.K F va j->XAt (X.tryC pins Y) F s' e x->HR X.K F G'->Fr H G F G'->((m=0\/x.c=m)/\hsH x hs (va.set n none) G' λza G2=>De.nx (za.set n none) G2)->Y e s':=by
  intro xa e s' x va j G' F I' yb kc yc f' ⟨hmx,hq⟩;obtain⟨L,C0,dx,rfl,l,xd⟩:=kc;have qc:=xd;obtain⟨x1,x2,xc,lx,vd,yd,rx⟩:=qc;have I0:Inv (X.tryC pins Y) [] j F s':=I'.pins_of λp hp=>absurd hp (by simp)
  refine jkM (X:=X.tryC pins Y) (E:=X.xe) I0 C.stk.1 C.stk.2 l λh' J l'=>?_;refine wpAny_handleBy_cons ?_ (by intro z;cases z)
  refine codeAny_handlers_test ?_;have J':Inv ((X.tryC pins Y).inH (.ref L) []) [] j F { s' with heap:=h' }:=J.hIn λq hq=>absurd hq (by simp)
  have wc:∀s2:Shared,s2={ s' with heap:=h' }->codeAny (model X.prog X.w) (X.A.mark (some (.ref L))) (Code.handlers (.ref L) [.ExceptHandler none (some (nmA c n)) (jfW c n hs sts) ph] X.env)
    (λr O=>match r with
     |.ok f=>wpAny (model X.prog X.w) X.A (do YcH X.env (nmA c n) .none;unbindBehindTheSuite X.env (nmA c n) ph) (λ_ Z=>SP X pins D f Z) X.xe O
     |.error y=>cameBackBy (model X.prog X.w) X.A X.env X.xe y O) s2:=by
   intro s2 jc;subst jc;rw[ka];refine codeAny_handlers_suite_as ?_;refine jfD (X:=X.tryC pins Y) J l' λh2 J2 l2=>?_;obtain⟨oe,g1,g2,g3,⟨vs,g4⟩,g5⟩:=l2.pinned J2;have J3:Inv ((X.tryC pins Y).inH (.ref L) [(L,oe)]) [] j F { s' with heap:=h2 }:=J2.hIn g5
   refine jbj (X:=(X.tryC pins Y).inH (.ref L) [(L,oe)]) (v:=.ref L) J3 nd hi (.inl ya) rfl (λs3 J4=>?_) (.inr ya);have hc:HC T ((X.tryC pins Y).inH (.ref L) [(L,oe)]) c n L C0 dx x:=⟨C.hN,C.nd,C.loc,C.cel,C.fre,C.glb,C.blt,C.cls,xc,x1,x2,⟨oe,vs,by simp only[Cx.inH];simp_all,g2,g3,g4⟩,C.mgK,of_decide_eq_true hn,hl,vb,qd⟩
   have jd:n<j.length:=by
    have:=J3.len;rw[this];exact(List.getElem?_eq_some_iff.mp hi).1
   have zc:HSt ((X.tryC pins Y).inH (.ref L) [(L,oe)]) n L C0 dx x (j.set n (some (.ref L))) F (va.set n none) G':=⟨yb.hide n _,yc,by simp_all,xd⟩
   rw[<- ka];refine YaZ (hc.stmts vc sts [] s3 _ F ⟨λja H2=>D.nx (ja.set n none) H2,λ_ _=>False,λ_ _=>False,λ_ _=>False⟩ J4 ⟨_,G',_,zc,hq,λza ja G2 H2 st2 f2 q2=>?_⟩) (λfl s4 q4=>?_) λ_ _ z=>Yc1 z
   ·exact ld.nx _ _ G2 H2 (st2.sr.hide n none) st2.hr (f'.trans f2) q2
   ·cases fl with
    |next=>
     obtain⟨ja,H2,J5,q5⟩:=q4;exact jiw (X:=X.tryC pins Y) (J5.hOut J.ok) nd hi ya λs5 J6=>⟨ja.set n none,H2,J6.tryOut,q5⟩
    |brk=>obtain⟨_,_,_,z⟩:=q4;lia
    |cont=>obtain⟨_,_,_,z⟩:=q4;lia
    |ret u=>obtain⟨_,_,_,_,_,z⟩:=q4;lia
  obtain⟨oe,vs,he,jb,_⟩:=l'.ob;by_cases m0:m=0
  ·obtain⟨D0,N0,fI,mN,mD,B,_⟩:=xc.ex;have xb:X.mg (clsN m)=some (.ref D0):=by rw[m0];exact C.mgK _ _ B.m
   refine jdT J' zd xb ?_ kb;refine jhw (X:=X) xc B J'.kIn he jb ?_;exact wc _ rfl
  ·exact absurd (of_decide_eq_true hm) m0
 refine wpAny_Try_except (YaZ (hb pins Y Ye9 [] s σ H ⟨D.nx,D.rt,D.bk,D.ct⟩ I.tryIn ⟨_,ς,G,hς,hG,h0,⟨ld.nx,ld.rt,ha⟩⟩) (λfl s1 q1=>?_) λe s1 z=>z);cases fl with
 |next=>
  obtain⟨j,F,J,q⟩:=q1;exact YcV ⟨j,F,J.tryOut,q⟩
 |brk=>obtain⟨j,F,J,q⟩:=q1;exact⟨j,F,J.tryOut,q⟩
 |cont=>obtain⟨j,F,J,q⟩:=q1;exact⟨j,F,J.tryOut,q⟩
 |ret u=>obtain⟨v,j,F,J,r,q⟩:=q1;exact⟨v,j,F,J.tryOut,r,q⟩
section
variable {T:Tab}{k:Nat}
def jl6   b:bltN b∈jcT:=by cases b<;>decide
def jmK  : ∀n∈jhR,YbS (Yb5 n)=some (.type n)/\Yb5 n∈jcT/\Yb5 n ≠ "__name__" := by decide +kernel
abbrev SE  (T:Tab)(k:Nat)(X:Cx)(c:Ctx)(j:E)(h:Expr):Prop:=PE X (unE T c j h) (lE X (den T.gs (jab T k) j).1)/\PT X (unE T c j h) (lT X (den T.gs (jab T k) j).2)
section
variable {X:Cx}{c:Ctx}
def tru    (h:PE X e (lE X t))(y:∀j,isTrue e X.env j=(do let v <- j;standAt e.pos;holding [v] (truthy v))):PE X e (lE X t)/\PT X e (lT X (truT t)):=⟨h,joS h y⟩
def jm2   {rest:List Expr}(j:PE X a (lE X p.1)/\PT X a (lT X p.2))(y:PE X (.BoolOp .And (b::rest) pos) (lE X q.1)/\PW X (.BoolOp .And (b::rest) pos) (lT X q.2)) :
  PE X (.BoolOp .And (a::b::rest) pos) (lE X (comb true p q).1)/\PW X (.BoolOp .And (a::b::rest) pos) (lT X (comb true p q).2):=⟨jo6 j.1 y.1,jmJ j.2 y.2⟩
def jpk   {rest:List Expr}(j:PE X a (lE X p.1)/\PT X a (lT X p.2))(y:PE X (.BoolOp .Or (b::rest) pos) (lE X q.1)/\PW X (.BoolOp .Or (b::rest) pos) (lT X q.2)) :
  PE X (.BoolOp .Or (a::b::rest) pos) (lE X (comb false p q).1)/\PW X (.BoolOp .Or (a::b::rest) pos) (lT X (comb false p q).2):=⟨u_or j.1 y.1,joU j.2 y.2⟩
def se_v    (C:Cok T k X c)(q:okE T c (.v i) h=true):SE T k X c (.v i) h:=tru (joO (C.nm (ba (ba (ba q).1).1).1) (C.vis (ba (ba (ba q).1).1).2) (bn (ba (ba q).1).2) (bn (ba q).2)) λ_=>rfl
def se_g    (C:Cok T k X c)(q:okE T c (.g n) h=true):SE T k X c (.g n) h:=by
 have F:=of_decide_eq_true (ba (ba q).1).1;have h2:=of_decide_eq_true (ba (ba q).1).2;have L:T.gn[n]?=some (T.gn.getD n ""):=by simp_all
 obtain⟨v,w,m,r,Y⟩:=C.gls n _ T.gs[n] L (by simp[F])
 obtain⟨J,z⟩:=C.gl (ba q).2;refine tru (PE.imp (u_gl (u:=T.gs[n]) J m r Y z) λσ H Q0 ⟨O,G,Q,E,j,I,h,Z,lx⟩=>⟨O,G,Q,E,j,I,?_,Z,lx⟩) λ_=>rfl;have y:glU T.gs n λu=>Q u G:=h;unfold glU at y
 simp_all
def jpj    (C:Cok T k X c)(q:okE T c (.ty n) h=true):SE T k X c (.ty n) h:=by
 obtain⟨j,y⟩:=C.gl (ba q).2;obtain⟨t1,t2,t3⟩:=jmK n (by simpa using (ba q).1)
 exact tru (u_ty j (C.blt _ t2) t1 t3 y) λ_=>rfl
def jmY     (F:PPs X h.pos (unK T c es (dk h)) (unV T c es (cl h)) Y)(O:lD X (denD T.gs (jab T k) es) Y)(y:(unK T c es (dk h)).all (·.isSome)=true)(L:(unK T c es (dk h)).length=(unV T c es (cl h)).length)
  (J:(unK T c es (dk h)).length<=15):SE T k X c (.dic es) h:=by
 refine tru ?_ λ_=>rfl
 match es,F,O,y,L,J with
 |.nil,_,_,_,_,_=>exact PE.imp jmF λσ H Q0 ⟨ς,G,Q,E,j,hG,h,lv,lx⟩=>⟨ς,G,Q,E,j,hG,(show([]:List (Key×U)).length<=15/\newO G (.dK (jcv [])) Q from h).2,lv,lx⟩
 |.cons _ .nil,_,_,_,_,_=>exact λZ s σ H Q0 I ⟨ς,G,Q,E,j,hG,h,lv,lx⟩=>(show False from h).elim
 |.cons d (.cons f es),F,O,y,L,J=>exact jo2 F O y L (λz=>nomatch z) J
def jlp     (C:Cok T k X c)(q:okE T c (.call n es) h=true)(y:PA X (unEs T c es (cl h)) (lA X (jbg T.gs (jab T k) es))):SE T k X c (.call n es) h:=by
 refine tru ?_ λ_=>rfl;have F:=of_decide_eq_true (ba (ba q).1).1;have j:T.funs[n]?=some T.funs[n]:=by simp[F]
 have z:T.funs[n].name=fnN T n:=by unfold fnN;rw[j]
 match es,y with
 |.nil,_=>exact jld C j z (ba (ba q).1).2
 |.cons d es,y=>exact jmI C j z (ba (ba q).1).2 y (jap (jaA d _) _ _) (jcX es _ _ _).1
def jmZ     (C:Cok T k X c)(q:okE T c (.blt b es) h=true)(j:PA X (unEs T c es (cl h)) (lA X (jbg T.gs (jab T k) es))):SE T k X c (.blt b es) h:=by
 refine tru ?_ λ_=>rfl;obtain⟨y,z⟩:=C.gl (ba (ba q).1).2
 match es,j,q with
 |.nil,_,q=>exact absurd (of_decide_eq_true (ba (ba q).1).1) (Ybl 0)
 |.cons d es,j,_=>exact jo4 (joI C.room C.calm b) y (C.blt _ (jl6 b)) j (jap (jaA d _) _ _) (jcX es _ _ _).1
def jlo      (hu:X.A.units+1<cLine)(q:okE T c (.meth m o es) h=true)(F:PE X (unE T c o (c0 (c0 h))) (lE X (den T.gs (jab T k) o).1))(y:PA X (unEs T c es (cl h)) (lA X (jbg T.gs (jab T k) es))):SE T k X c (.meth m o es) h:=by
 refine tru ?_ λ_=>rfl;have z:=(ba q).2;have j:=of_decide_eq_true (ba (ba q).1).2;have I:=(ba (ba (ba q).1).1).2
 match es,y,j with
 |.nil,_,_=>exact jlb (jkI hu m) F (jjk z _ _ _) I
 |.cons d es,y,j=>
  refine jmC (jkI hu m) F y (jjk z _ _ _) ?_ I (jap (jaA d _) _ _) (jcX es _ _ _).1;have e:=(jcX (T:=T) (c:=c) (.cons d es) (cl h) X.env h.pos).2;show((backTo h.pos (YaC (unEs T c (.cons d es) (cl h)) X.env)).all (λx=>!x.1)&&_&&decide ((unEs T c (.cons d es) (cl h)).length+0+0<30))=true;rw[e,jhP];exact decide_eq_true j
def jm0    (h:PT X e (lT X (den T.gs (jab T k) d).2)):PIfs X [e] (lT0 X.K (denC T.gs (jab T k) (.cons d .nil))):=by
 refine PIfs.imp (jlG (lT0.of h)) λY H Z ⟨z,G,Q,L,I,F,J⟩=>⟨z,G,λb y=>Q b y,L,I,?_,J⟩;have O:(den T.gs (jab T k) d).2 z G (λb j=>if b=true then Q true j else Q false j) (λ_ _=>False):=F
 have e:(λ(b:Bool) (j:Gp)=>if b=true then Q true j else Q false j)=λb y=>Q b y:=by
  grind
 lia
def jm1  : PIfs X [] (lT0 X.K (denC T.gs (jab T k) .nil)):=PIfs.imp jlH λJ H L ⟨F,G,Q,I,z,j,y⟩=>y true G H z (Fr.refl _ _) j
theorem joa  : ∀j hs ,2*(unK T c j hs).length<=jbi j
 |.nil,_=>Yac _
 |.cons _ .nil,_=>YaF _
 |.cons _ (.cons _ j),hs=>by
  have:=joa j hs.tail;show 2*((unK T c j hs.tail).length+1)<=jbi j+1+1
  lia
def k_le    (h:jbi es<=30):(unK T c es hs).length<=15:=by
 have:=joa (T:=T) (c:=c) es hs
 lia
end
mutual
theorem sE:∀(J:E) {X:Cx} {c:Ctx} {h:Expr},Cok T k X c->okE T c J h=true->SE T k X c J h
 |.v _,_,_,_,C,q=>se_v C q
 |.non,_,_,_,_,_=>tru (jcY (u:=.non) jns λ_=>rfl) λ_=>rfl
 |.bl b,_,_,_,_,_=>tru (jcY (u:=.bl b) jnv λ_=>rfl) λ_=>rfl
 |.int i,_,_,_,_,_=>tru (jcY (u:=.int i) jnu λ_=>rfl) λ_=>rfl
 |.str x,_,_,_,_,_=>tru (jcY (u:=.str x) jkB λ_=>rfl) λ_=>rfl
 |.g _,_,_,_,C,q=>se_g C q
 |.ty _,_,_,_,C,q=>jpj C q
 |.bin o a b,_,_,_,C,q=>tru (jo5 (jnD o) (sE a C (ba q).1).1 (sE b C (ba q).2).1) λ_=>rfl
 |.neg a,_,_,_,C,q=>tru (joW (sE a C q).1) λ_=>rfl
 |.not a,_,_,_,C,q=>⟨joV (sE a C q).1,jmB (sE a C q).2⟩
 |.bop k a es,_,_,h,C,q=>let r:=sB es k C (sE a C (ba q).1) (ba q).2 h.pos;⟨r.1,r.2.pt⟩
 |.cmp o a b,_,_,_,C,q=>⟨jo3 (jeC C.room o) (sE a C (ba (ba q).1).1).1 (sE b C (ba (ba q).1).2).1 (bn (ba q).2),jmG (jeC C.room o) (sE a C (ba (ba q).1).1).1 (sE b C (ba (ba q).1).2).1 (bn (ba q).2)⟩
 |.cmp2 o p a b d,_,_,_,C,q=>⟨jmH (jeC C.room o) (jeC C.room p) (sE a C (ba (ba (ba q).1).1).1).1 (sE b C (ba (ba (ba q).1).1).2).1 (sE d C (ba (ba q).1).2).1 (bn (ba q).2),
   PT.imp (jlc (jeC C.room o) (jeC C.room p) (sE a C (ba (ba (ba q).1).1).1).1 (sE b C (ba (ba (ba q).1).1).2).1 (sE d C (ba (ba q).1).2).1 (bn (ba q).2)) λ_ _ _ ⟨Z,G,Q,E,I,O,h,lv,lx⟩=>⟨Z,G,Q,E,I,O,h,lv,lx⟩⟩
 |.tup es,_,_,_,C,q=>tru (joP (sEs es C q)) λ_=>rfl
 |.lst es,_,_,_,C,q=>tru (jo0 (sEs es C q)) λ_=>rfl
 |.dic es,_,_,h,C,q=>let ⟨_,Y,h2,L,h4⟩:=sD es C h.pos (ba q).1;jmY Y h2 L h4 (k_le (of_decide_eq_true (ba q).2))
 |.dicT,_,_,_,_,_=>tru jmE λ_=>rfl
 |.ix a b,_,_,_,C,q=>tru (u_ix C.hu (sE a C (ba q).1).1 (sE b C (ba q).2).1 (jmi (jaA b _))) λ_=>rfl
 |.sl a lo hi,_,_,_,C,q=>tru (u_sl (sE a C (ba (ba q).1).1).1 (sO lo C (ba (ba q).1).2) (sO hi C (ba q).2)) λ_=>rfl
 |.rev a b,_,_,_,C,q=>tru (joT (sE a C (ba q).1).1 (sE b C (ba q).2).1) λ_=>rfl
 |.call _ es,_,_,_,C,q=>jlp C q (sEs es C (ba q).2)
 |.blt _ es,_,_,_,C,q=>jmZ C q (sEs es C (ba q).2)
 |.meth _ o es,_,_,_,C,q=>jlo C.hu q (sE o C (ba (ba (ba (ba q).1).1).1).1).1 (sEs es C (ba (ba (ba (ba q).1).1).1).2)
 |.lc _ t it ifs d,_,_,_,C,q=>let S:=C.comp (ba (ba (ba (ba (ba (ba q).1).1).1).1).1).1
   tru (u_lc C.calm S.1 (sI it t _ _ C (ba (ba (ba (ba q).1).1).1).2).1 (ba (ba (ba (ba (ba (ba q).1).1).1).1).1).2 (λcl A j y z=>sTg (S.2 cl A j y z) t _ (ba (ba (ba (ba (ba q).1).1).1).1).2)
    (λcl A j y z=>sC ifs (S.2 cl A j y z) (of_decide_eq_true (ba (ba q).1).2) (ba (ba (ba q).1).1).2) (λcl A j y z=>lE0.of (sE d (S.2 cl A j y z) (ba q).2).1) (sI it t ⟨[],[]⟩ e0 C (ba (ba (ba (ba q).1).1).1).2).2) λ_=>rfl
 |.lc2 _ t it ifs t2 it2 ifs2 d,_,_,_,C,q=>let S:=C.comp (ba q).1
   let q1:=(ba q).2;let q2:=(ba q1).2;let q3:=(ba q2).2;let q4:=(ba q3).2;let q5:=(ba q4).2;let q6:=(ba q5).2;let q7:=(ba q6).2;let q8:=(ba q7).2;let q9:=(ba q8).2;let qa:=(ba q9).2;let qb:=(ba qa).2
   tru (jo1 C.calm S.1 (sI it t _ _ C (ba q6).1).1 (ba q1).1 (ba q2).1 (ba q3).1 (λcl A j y z=>sTg (S.2 cl A j y z) t _ (ba q4).1)
    (λcl A j y z=>sC ifs (S.2 cl A j y z) (of_decide_eq_true (ba qa).1) (ba q8).1) (λcl A j y z=>lE0.of (sE d (S.2 cl A j y z) (ba qb).2).1)
    (λcl A j y z=>lI0.of (sI it2 t2 _ _ (S.2 cl A j y z) (ba q7).1).1) (λcl A j y z=>sTg (S.2 cl A j y z) t2 _ (ba q5).1) (λcl A j y z=>sC ifs2 (S.2 cl A j y z) (of_decide_eq_true (ba qb).1) (ba q9).1) (λF=>jdz it2 _ F) (jdz it _ _)) λ_=>rfl
 |.mkP d,_,_,_,C,q=>tru (joY C.calm (by have:=C.room.un;lia) (C.gl (ba q).1).1 (C.blt _ (by decide)) (sE d C (ba q).2).1 (jap (jaA d _) _ _)) λ_=>rfl
 |.mkL d,_,_,_,C,q=>tru (joZ (C.gl (ba q).1).1 (C.blt _ (by decide)) (sE d C (ba q).2).1 (jap (jaA d _) _ _)) λ_=>rfl
 |.mkT d,_,_,_,C,q=>tru (joX (C.gl (ba q).1).1 (C.blt _ (by decide)) (sE d C (ba q).2).1 (jap (jaA d _) _ _)) λ_=>rfl
 |.rngL d,_,_,_,C,q=>tru (jmA C.calm (C.gl (ba (ba q).1).1).1 (C.blt _ (by decide)) (C.gl (ba (ba q).1).2).1 (C.blt _ (by decide)) (sE d C (ba q).2).1 (jap (jaA d _) _ _) rfl) λ_=>rfl
theorem sO:∀(j:Eo) {X:Cx} {c:Ctx} {h:Expr},Cok T k X c->okO T c j h=true->PO X (unO T c j h) (lO X (denO T.gs (jab T k) j))
 |.no,_,_,_,_,_=>u_no
 |.so d,_,_,_,C,q=>u_so (sE d C q).1
theorem sEs:∀(j:Es) {X:Cx} {c:Ctx} {hs:List Expr},Cok T k X c->okEs T c j hs=true->PA X (unEs T c j hs) (lA X (jbg T.gs (jab T k) j))
 |.nil,_,_,_,_,_=>jfX
 |.cons d j,_,_,_,C,q=>jdA (sE d C (ba q).1).1 (sEs j C (ba q).2) (jap (jaA d _) _ _)
theorem sB:∀(j:Es) (b:Bool) {X:Cx} {c:Ctx} {hs:List Expr} {a:Expr} {p:UE×UT},Cok T k X c->PE X a (lE X p.1)/\PT X a (lT X p.2)->okEs T c j hs=true->∀pos:Pos,
  PE X (.BoolOp (boU b) (a::unEs T c j hs) pos) (lE X (denB T.gs (jab T k) b p j).1)/\PW X (.BoolOp (boU b) (a::unEs T c j hs) pos) (lT X (denB T.gs (jab T k) b p j).2)
 |.nil,true,_,_,_,_,_,_,ha,_,_=>⟨jgY ha.1,pw_and1 ha.2⟩
 |.nil,false,_,_,_,_,_,_,ha,_,_=>⟨jgY ha.1,pw_or1 ha.2⟩
 |.cons d j,true,_,_,_,_,_,C,ha,q,pos=>jm2 ha (sB j true C (sE d C (ba q).1) (ba q).2 pos)
 |.cons d j,false,_,_,_,_,_,C,ha,q,pos=>jpk ha (sB j false C (sE d C (ba q).1) (ba q).2 pos)
theorem sC:∀(j:Es) {X:Cx} {c:Ctx} {hs:List Expr},Cok T k X c->jbi j<=1->okEs T c j hs=true->PIfs X (unEs T c j hs) (lT0 X.K (denC T.gs (jab T k) j))
 |.nil,_,_,_,_,_,_=>jm1
 |.cons d .nil,_,_,_,C,_,q=>jm0 (sE d C (ba q).1).2
 |.cons _ (.cons _ es),_,_,_,_,l,_=>absurd l (by show ¬(jbi es+1+1<=1);lia)
theorem sD:∀(j:Es) {X:Cx} {c:Ctx} {hs z:List Expr},Cok T k X c->(p:Pos)->okD T c j hs z=true->∃y,PPs X p (unK T c j hs) (unV T c j z) y/\lD X (denD T.gs (jab T k) j) y/\(unK T c j hs).all (·.isSome)=true/\(unK T c j hs).length=(unV T c j z).length
 |.nil,_,_,_,_,_,_,_=>⟨[],jlD,jn0,rfl,rfl⟩
 |.cons d (.cons f j),_,_,_,_,C,p,q=>let ⟨_,L,J,F,I⟩:=sD j C p (ba q).2;⟨_,jjG (sE d C (ba (ba q).1).1).1 (sE f C (ba (ba q).1).2).1 L,jl8 J,F,congrArg (·+ 1) I⟩
 |.cons _ .nil,_,_,_,_,_,_,q=>nomatch q
theorem sI:∀(j:It) (t:Tg) (ct:Ctx) (y:Expr) {X:Cx} {c:Ctx} {h:Expr},Cok T k X c->okI T c t j h=true->PI X (unTg ct t y) (unI T c j h) (lI X (denI T.gs (jab T k) j))/\∀x,Yaz (unI T c j h) X.env x=pure x
 |.e d,_,_,_,_,_,_,C,q=>⟨u_ie (sE d C q).1,jfA (jaA d _) _⟩
 |.r1 d,_,_,_,_,_,_,C,q=>⟨u_r1 (C.gl (ba q).1).1 (C.blt _ (by decide)) (sE d C (ba q).2).1 (jap (jaA d _) _ _),λ_=>rfl⟩
 |.enum d,.t _,_,_,_,_,_,C,q=>⟨jmD (C.gl (ba (ba q).1).2).1 (C.blt _ (by decide)) (sE d C (ba q).2).1 (jap (jaA d _) _ _),λ_=>rfl⟩
 |.enum _,.n _,_,_,_,_,_,_,q=>nomatch q
end
end

noncomputable def swF  (sb:Bool)(names:List Str)(bk:ScopeKind)(ts vs:List Expr):Sem (Option (List Str)):=
 if (!(ts.length==2||ts.length==3)||vs.length != ts.length||bk != .function)=true then pure none
 else if sb=true then pure none
 else if (names.length != ts.length||names.eraseDups.length != names.length)=true then pure none
 else if vs.all (YfM 8)=true then pure none
 else if vs.all (constantsAlone 8)=true then do unsupported "assign.tuple-of-constant-expressions:order-of-the-stores";pure (some names)
 else pure (some names)
def jeJ  (env:Env)(ts:List Expr):List Str:=ts.filterMap fun
  |.Name y j=>if env.kindOf y==some .local&&j.line==jku ts then some y else none
  |_=>none
def jmS     : Ya9 [.Tuple ts a p] (.Tuple vs b q) env=swF (vs.any jha) (jeJ env ts) env.blockKind ts vs:=by
 have j:jha=fun|.Starred ..=>true|_=>false:=by funext e;cases e<;>rfl
 with_unfolding_all rfl
def jgP  (hk:∀x,env.kindOf x=c.sc.lookup x) ts:jeJ env ts=jal c ts:=by
 unfold jal jeJ;congr 1;funext e;cases e<;>first|rfl|(dsimp only;rw[hk])
def jh2  (hk:∀x,env.kindOf x=c.sc.lookup x)(J:env.blockKind=.function)(h:jc1 c ts vs=true):Ya9 [.Tuple ts a p] (.Tuple vs b q) env=pure none:=by
 rw[jmS,jgP hk,J];unfold swF;unfold jc1 at h;by_cases I:(!(ts.length==2||ts.length==3)||vs.length != ts.length)=true
 ·rw[if_pos (by rw[I];rfl)]
 ·have j:(!(ts.length==2||ts.length==3)||vs.length != ts.length)=false:=by simpa using I
  rw[j]at h;rw[if_neg (by rw[j];decide)]
  simp only[Ye2,Yaq,Yc5]at h;obtain⟨L,F⟩:=h;rw[if_neg (by rw[L];decide)]
  by_cases z:((jal c ts).length != ts.length||(jal c ts).eraseDups.length != (jal c ts).length)=true
  ·rw[if_pos z]
  ·rw[if_neg z];have y:((jal c ts).length != ts.length||(jal c ts).eraseDups.length != (jal c ts).length)=false:=by simpa using z
   rw[y]at F;rw[if_pos (by simpa using F)]
def jh1  (hk:∀x,env.kindOf x=c.sc.lookup x)(hb:env.blockKind=.function)(h:swapped c ts vs=true):Ya9 [.Tuple ts a p] (.Tuple vs b q) env=pure (some (jal c ts)):=by
 rw[jmS,jgP hk,hb];unfold swF;unfold swapped at h;simp only[Yaq,Yc5]at h;obtain⟨⟨⟨⟨⟨⟨h1,Z⟩,I⟩,L⟩,Y⟩,y⟩,O⟩:=h;have z:(!(ts.length==2||ts.length==3)||vs.length != ts.length||(YeT != YeT))=false:=by
  have:(vs.length != ts.length)=false:=by simpa using Z
  rw[h1,this];rfl
 rw[if_neg (by rw[z];decide),if_neg (by rw[I];decide)]
 have F:((jal c ts).length != ts.length||(jal c ts).eraseDups.length != (jal c ts).length)=false:=by
  have j:((jal c ts).length != ts.length)=false:=by simpa using L
  have J:((jal c ts).eraseDups.length != (jal c ts).length)=false:=by simpa using Y
  rw[j,J];rfl
 rw[if_neg (by rw[F];decide),if_neg (by rw[y];decide),if_neg (by rw[O];decide)]
def jgO  (hk:∀x,env.kindOf x=c.sc.lookup x)(z:env.blockKind=.function)(h:lcSw c y j p s=true) :
  YbY (.ListComp elt gs s p) (some (.Name y j)) l env=pure true:=by
 unfold lcSw at h;simp only[Yaq]at h;unfold YbY;dsimp only;show(pure (env.blockKind == .function&&env.kindOf y==some .local&&j.line==p.line && !(s.names.any λ(n,k)=>n==y&&(k == .local||k == .cell))):Sem Bool)=pure true
 grind
def jgN  {c: Ctx}(hk:∀x,env.kindOf x=c.sc.lookup x)(h:(c.sc.lookup y==some .local)=false) :
  Ybo [.Name y j] (.ListComp elt gs s p) l env=pure false:=by
 show(pure (env.blockKind == .function&&env.kindOf y==some .local&&j.line==p.line && !(s.names.any λ(n,k)=>n==y&&(k == .local||k == .cell))):Sem Bool)=pure false
 grind
section
variable {T:Tab}{k:Nat}
def Cos.kindOf    (C:Cos T k X c):∀x,X.env.kindOf x=c.sc.lookup x:=λx=>by
 unfold Env.kindOf;rw[C.sc]
def Cos.block    (C:Cos T k X c):X.env.blockKind=.function:=by
 unfold Env.blockKind;rw[C.kind];rfl
theorem jiu   : ∀(is:List Nat) hs ,(unNs c is hs).length=is.length
 |[],_=>rfl
 |_::is,hs=>congrArg (·+ 1) (jiu is hs.tail)
def sw2     (h:(jal c [.Name x p,.Name y q]).length=2):jal c [.Name x p,.Name y q]=[x,y]:=by
 unfold jal at h ⊢;simp only[Ycq,YfV]at h ⊢;split at h<;>split at h<;>simp_all
def sw3     (h:(jal c [.Name x p,.Name y q,.Name z r]).length=3):jal c [.Name x p,.Name y q,.Name z r]=[x,y,z]:=by
 unfold jal at h ⊢;simp only[Ycq,YfV]at h ⊢;split at h<;>split at h<;>split at h<;>simp_all

def jmU     (C:Cos T k X c)(q:okS T c (.asg t d) h=true)(hs:PE X (unE T c d (q0 h)) (lE X (den T.gs (jab T k) d).1)):PS X (unS T c (.asg t d) h) (lS X (denS T.gs (jab T k) (.asg t d))):=by
 have y:=sTg C.toCok t (q1 h) (ba (ba q).1).2;have q3:=(ba q).2;have j:Ybo [unTg c t (q1 h)] (unE T c d (q0 h)) h.pos.line X.env=pure false/\Ya9 [unTg c t (q1 h)] (unE T c d (q0 h)) X.env=pure none:=by
  cases t with
  |n i=>
   refine⟨?_,joN d _ _ _ _⟩;by_cases z:isLc d=true
   ·cases d with
    |lc=>exact jgN C.kindOf (bn q3)
    |lc2=>exact jgN C.kindOf (bn q3)
    |_=>cases z
   ·exact jk7 (by lia) _ _ _ _
  |t ts=>
   cases d with
   |lc=>cases q3
   |lc2=>cases q3
   |tup F=>exact⟨rfl,jh2 C.kindOf C.block q3⟩
   |_=>exact⟨rfl,rfl⟩
 exact s_asg hs y j.1 j.2 (jk8 t _ _)
def jmT     (C:Cos T k X c)(q:okS T c (.par is es) h=true)(Y:PA X (unEs T c es (cl (q0 h))) (lA X (jbg T.gs (jab T k) es))):PS X (unS T c (.par is es) h) (lS X (denS T.gs (jab T k) (.par is es))):=by
 have Z:=(ba q).2;have L:=(ba (ba q).1).2;have z:=jh1 (a:=kk (q1 h)) (b:=kk (q0 h)) (p:=(q1 h).pos) (q:=(q0 h).pos) C.kindOf C.block Z;unfold swapped at Z;simp only[Yaq,Ycu,beq_iff_eq]at Z;obtain⟨⟨⟨⟨⟨⟨O,y⟩,_⟩,J⟩,_⟩,_⟩,_⟩:=Z;rw[jiu]at O;rw[jhP,jiu]at y;have nd:X.N.Nodup:=by rw[C.hN];exact C.nd
 match is,es,O,y,J,z,L,Y with
 |[i,j],.cons a (.cons b .nil),_,_,J,z,L,Y=>
  have F:=ba L;have I:=ba F.2;refine s_par2 C.calm nd (C.nm (ba (ba F.1).1).1) (C.nm (ba (ba I.1).1).1) (by simp_all) (C.loc _ (ba (ba F.1).1).2) (C.loc _ (ba (ba I.1).1).2) Y ?_ rfl
  rw[<- sw2 J];exact z
 |[i,j,l],.cons a (.cons b (.cons d .nil)),_,_,J,z,L,Y=>
  have F:=ba L;have I:=ba F.2;have u3:=ba I.2;refine s_par3 C.calm nd (C.nm (ba (ba F.1).1).1) (C.nm (ba (ba I.1).1).1) (C.nm (ba (ba u3.1).1).1) (by simp_all) (by simp_all) (by simp_all)
   (C.loc _ (ba (ba F.1).1).2) (C.loc _ (ba (ba I.1).1).2) (C.loc _ (ba (ba u3.1).1).2) Y ?_ rfl
  rw[<- sw3 J];exact z
 |[],_,O,_,_,_,_,_=>simp_all
 |[_],_,O,_,_,_,_,_=>simp_all
 |_::_::_::_::_,_,O,_,_,_,_,_=>simp_all
 |[_,_],.nil,_,y,_,_,_,_=>exact absurd y (by simp[jbi])
 |[_,_],.cons _ .nil,_,y,_,_,_,_=>exact absurd y (by simp[jbi])
 |[_,_],.cons _ (.cons _ (.cons _ _)),_,y,_,_,_,_=>exact absurd y (by simp[jbi])
 |[_,_,_],.nil,_,y,_,_,_,_=>exact absurd y (by simp[jbi])
 |[_,_,_],.cons _ .nil,_,y,_,_,_,_=>exact absurd y (by simp[jbi])
 |[_,_,_],.cons _ (.cons _ .nil),_,y,_,_,_,_=>exact absurd y (by simp[jbi])
 |[_,_,_],.cons _ (.cons _ (.cons _ (.cons _ _))),_,y,_,_,_,_=>exact absurd y (by simp[jbi])
def jlj     (C:Cos T k X c)(q:okS T c (.asgC i d) h=true):PS X (unS T c (.asgC i d) h) (lS X (denS T.gs (jab T k) (.asgC i d))):=by
 have Z:=(ba (ba (ba q).1).1);have hl:=(ba q).2;have hi:=C.nm (ba (ba q).1).2;have hy:=eq_of_beq (ba (ba hl).1).1;cases d with
 |lc pick t O I d=>
  have z:=Z.2;have S:=C.toCok.comp (ba (ba (ba (ba (ba (ba z).1).1).1).1).1).1;exact s_lc (by rw[C.hN];exact C.nd) hi (by rw[C.sc];exact hy) C.calm S.1 (sI O t _ _ C.toCok (ba (ba (ba (ba z).1).1).1).2).1 (ba (ba (ba (ba (ba (ba z).1).1).1).1).1).2
   (λcl A j y F=>sTg (S.2 cl A j y F) t _ (ba (ba (ba (ba (ba z).1).1).1).1).2) (λcl A j y F=>sC I (S.2 cl A j y F) (of_decide_eq_true (ba (ba z).1).2) (ba (ba (ba z).1).1).2)
   (λcl A j y F=>lE0.of (sE d (S.2 cl A j y F) (ba z).2).1) (jgO C.kindOf C.block hl) (jdz O _ _)
 |lc2 pick t O I t2 J L d=>
  have z:=Z.2;have S:=C.toCok.comp (ba z).1;have q1:=(ba z).2;have q2:=(ba q1).2;have q3:=(ba q2).2;have q4:=(ba q3).2;have q5:=(ba q4).2;have q6:=(ba q5).2;have q7:=(ba q6).2;have q8:=(ba q7).2;have q9:=(ba q8).2;have qa:=(ba q9).2;have qb:=(ba qa).2;exact s_lc2 (by rw[C.hN];exact C.nd) hi (by rw[C.sc];exact hy) C.calm S.1 (sI O t _ _ C.toCok (ba q6).1).1 (ba q1).1 (ba q2).1 (ba q3).1
   (λcl A j y F=>sTg (S.2 cl A j y F) t _ (ba q4).1) (λcl A j y F=>sC I (S.2 cl A j y F) (of_decide_eq_true (ba qa).1) (ba q8).1)
   (λcl A j y F=>lE0.of (sE d (S.2 cl A j y F) (ba qb).2).1) (λcl A j y F=>lI0.of (sI J t2 _ _ (S.2 cl A j y F) (ba q7).1).1) (λcl A j y F=>sTg (S.2 cl A j y F) t2 _ (ba q5).1)
   (λcl A j y F=>sC L (S.2 cl A j y F) (of_decide_eq_true (ba qb).1) (ba q9).1) (λY=>jdz J _ Y) (jgO C.kindOf C.block hl) (jdz O _ _)
 |_=>cases Z.1
def jjq     (C:Cos T k X c)(q:okS T c (.raise n es) h=true):PS X (unS T c (.raise n es) h) (lS X (denS T.gs (jab T k) (.raise n es))):=by
 have j:(okC T.cs c n&&decide (0<jbi es)&&okEs T c es (cl (qr h)))=true:=q
 match es,j with
 |.nil,j=>exact absurd (of_decide_eq_true (ba (ba j).1).2) (Ybl 0)
 |.cons d es,j=>exact s_raise C.toCok (ba (ba j).1).1 (sEs (.cons d es) C.toCok (ba j).2) (jap (jaA d _) _ _) (jcX es _ _ _).1
def Cos.tryC    (C:Cos T k X c)(j:Ydj (model X.prog X.w) X.A X.env xe):Cos T k (X.tryC pins xe) c:=
 ⟨⟨C.hN,C.nd,C.loc,C.cel,C.fre,C.glb,C.room,C.calm,j,C.blt,C.fns,C.gls,C.room2,C.cls,C.mgK⟩,C.sc,C.kind,C.stk⟩
mutual
theorem sS:∀(j:S) {X:Cx} {c:Ctx} {h:Stmt},Cos T k X c->okS T c j h=true->PS X (unS T c j h) (lS X (denS T.gs (jab T k) j))
 |.expr d,_,_,_,C,q=>s_expr (sE d C.toCok (ba q).1).1 (jk9 (bn (ba q).2) _ _ _)
 |.asg _ d,_,_,_,C,q=>jmU C q (sE d C.toCok (ba (ba q).1).1).1
 |.asgC _ _,_,_,_,C,q=>jlj C q
 |.setS o i d,_,_,_,C,q=>s_set C.toCok.hu (sE d C.toCok (ba (ba q).1).1).1 (sE o C.toCok (ba (ba q).1).2).1 (sE i C.toCok (ba q).2).1 (jki d _ _ _ _ _ _).1 (jki d _ _ _ _ _ 0).2 rfl (jjX (jaA i _) _ _)
 |.par _ es,_,_,_,C,q=>jmT C q (sEs es C.toCok (ba (ba q).1).1)
 |.aug _ _ d,_,_,_,C,q=>let s:=C.toCok.store (ba (ba q).1).2;s_aug (by rw[C.hN];exact C.nd) (C.nm (ba (ba q).1).1) s.1 s.2 (sE d C.toCok (ba q).2).1
 |.ite t a b,_,_,_,C,q=>s_if (sE t C.toCok (ba (ba q).1).1).2 (sSs a C (ba (ba q).1).2) (sSs b C (ba q).2)
 |.fr t it b,_,_,_,C,q=>s_for C.po C.calm (sI it t _ _ C.toCok (ba (ba q).1).2).1 (sTg C.toCok t _ (ba (ba q).1).1) (sSs b C (ba q).2) (sI it t ⟨[],[]⟩ e0 C.toCok (ba (ba q).1).2).2
 |.wh t b,_,_,_,C,q=>s_wh C.po (sE t C.toCok (ba q).1).2 (sSs b C (ba q).2)
 |.ret d,_,_,_,C,q=>s_ret (sE d C.toCok q).1
 |.raise _ _,_,_,_,C,q=>jjq C q
 |.tr b _ _ _,_,_,_,C,q=>s_try C (ba (ba (ba (ba (ba (ba (ba (ba q).1).1).1).1).1).1).1).2 (ba (ba (ba (ba (ba (ba (ba q).1).1).1).1).1).1).2 (ba (ba (ba (ba (ba (ba q).1).1).1).1).1).2 (ba (ba (ba (ba (ba q).1).1).1).1).2 (bn (ba (ba (ba (ba q).1).1).1).2) (bn (ba (ba (ba q).1).1).2) (bn (ba (ba q).1).2) (ba q).2
   λ_ _ y=>sSs b (C.tryC y) (ba (ba (ba (ba (ba (ba (ba (ba q).1).1).1).1).1).1).1).1
theorem sSs:∀(j:Ss) {X:Cx} {c:Ctx} {hs:List Stmt},Cos T k X c->okSs T c j hs=true->PSs X (unSs T c j hs) (lS X (jat T.gs (jab T k) j))
 |.nil,_,_,_,_,_=>s_nil
 |.cons s r,_,_,_,C,q=>s_cons (t:=denS T.gs (jab T k) s) (u:=jat T.gs (jab T k) r) (sS s C (ba q).1) (sSs r C (ba q).2)
end
end
def jkU  {T:Tab}{n:Nat}(h:T.funs[n]?=some d):(T.funs++T.vf)[n]?=some d:=by
 grind
def jja  {T:Tab}(hd:(T.funs++T.vf)[n]?=some d){E:KX}(h:jab T (k+1) n us G Q E) :
  us.length=d.ps.length/\jat T.gs (jab T k) d.body ⟨λ_ j=>Q .non j,Q,λx _ j=>E x j⟩ (jah d.N.length us) G:=by
 have y:(match (T.funs++T.vf)[n]? with|some d=>us.length=d.ps.length/\jat T.gs (jab T k) d.body ⟨λ_ j=>Q .non j,Q,λx _ j=>E x j⟩ (jah d.N.length us) G|none=>False):=h
 lia
def jng     (e:a=b)(h:PSs X a t):PSs X b t:=e ▸ h
def jh4       (r:RUs K H us vs):SR K H (jah N.length us) (L2.start N vs):=by
 unfold jah L2.start;refine⟨by simp[r.length],λi u e=>?_⟩
 by_cases j:i<us.length
 ·rw[YbG (by simp_all),Yau]at e
  cases q:us[i]? with
  |none=>simp_all
  |some w=>
   rw[q]at e;have:w=u:=by simpa using e
   subst this;obtain⟨v,y,z⟩:=r.get q;have F:i<vs.length:=by rw[<- r.length];exact j
   exact⟨v,by rw[YbG (by simpa using F),Yau,y];rfl,z⟩
 ·rw[Ycd (by simpa using j),YeW]at e
  split at e<;>cases e
structure PF (T:Tab)(P:Program)(w:World)(K:Yae)(mg:Str->Option Value)(base:Heap)(k:Nat):Prop where
 blt:∀x∈jcT,mg x=none
 fns:∀(n:Nat) (d:Fun),T.funs[n]?=some d->FnU P w K mg base k d (jab T k n)
 gls:∀(n:Nat) (x:Str) (u:U),T.gn[n]?=some x->T.gs[n]?=some u->∃v w,mg x=some w/\RelV v w/\∀H,RU K H u v
 cls:∀n∈T.cs,1<=n->∃C,XCls K (gK K) (clsN n) (clsF n) C
 mgK:∀x v,gK K x=some v->mg x=some v
noncomputable def scB  (N ps:List Str)(j:Scope):Bool:=
 decide (j.kind=.function) && !j.isCoroutine && !j.isGenerator&&decide N.Nodup&&(N.take ps.length==ps)&&ps.all (λx=>j.names.lookup x==some .local||j.names.lookup x==some .cell)&&j.names.all (λy=>y.2 != .free)
def jlq    (h:scB N ps j=true):FnScope N ps j:=by
 unfold scB at h;simp only[Yaq,decide_eq_true_eq,Yc5]at h;obtain⟨⟨⟨⟨⟨⟨L,J⟩,z⟩,F⟩,I⟩,Y⟩,Z⟩:=h;refine⟨L,J,z,F,eq_of_beq I,λx O=>?_,λy hy=>?_⟩
 ·simp_all
 grind
noncomputable def jeM  (T:Tab):Nat->List Fun->List Stmt->Bool
 |_,[],[]=>true
 |i,d::ds,st::sts=>scB d.N d.ps (jag st)&&((T.ns.lookup i).isSome||okSs T ⟨d.N,(jag st).names⟩ d.body (jao st))&&jeM T (i+1) ds sts
 |_,_,_=>false
def jfg  (T:Tab)(all:List Stmt):Nat->List Fun->List Stmt->Prop
 |_,[],_=>True
 |i,d::ds,st::sts=>(match T.ns.lookup i with
  |none=>unSs T ⟨d.N,(jag st).names⟩ d.body (jao st)=jao st
  |some _=>False)/\jfg T all (i+1) ds sts
 |_,_::_,[]=>False
theorem jdF {T:Tab}{all:List Stmt}:∀{i:Nat} {ds:List Fun} {sts:List Stmt},jeM T i ds sts=true->jfg T all i ds sts->∀{n:Nat} {d:Fun},ds[n]?=some d->∃st,sts[n]?=some st/\scB d.N d.ps (jag st)=true/\(match T.ns.lookup (i+n)with
  |none=>okSs T ⟨d.N,(jag st).names⟩ d.body (jao st)=true/\unSs T ⟨d.N,(jag st).names⟩ d.body (jao st)=jao st
  |some _=>False)
 |_,[],_,_,_,_,_,e=>by simp at e
 |_,_::_,[],h,_,_,_,_=>by unfold jeM at h;cases h
 |i,d::ds,st::sts,h,g,n,d',e=>by
  unfold jeM at h;unfold jfg at g;simp only[Yaq]at h;cases n with
  |zero=>
   simp at e;subst e;refine⟨st,rfl,h.1.1,?_⟩;have j:=g.1;have F:=h.1.2;rw[Yed];cases q:T.ns.lookup i with
   |none=>rw[q]at j F;exact⟨by simpa using F,j⟩
   |some z=>rw[q]at j;exact j
  |succ n=>
   obtain⟨y,I,q⟩:=jdF h.2 g.2 (n:=n) (by simpa using e)
   rw[show i+1+n=i+(n+1) by lia]at q
   exact⟨y,by simpa using I,q⟩
noncomputable def jgu  (K:Yae)(v:Value)(P:Addr):Bool:=match v with
 |.ref c=>(match K.lookup c with
  |some ⟨.type t,_,.fields vs,_⟩=>t == "code" && (match (vs[11]?:Option Value)with|some (.ref Q)=>Q==P|_=>false)&&(match vs.getD 18 .none with|.str _ _=>true|_=>false)&&(match vs.getD 7 .none with|.int _ _=>true|_=>false)
   && (match vs.getD 9 .none with|.bool _=>true|_=>false)&&(match vs.getD 10 .none with|.int _ _=>true|_=>false)&&c != P
  |_=>false)
 |_=>false
section
variable {T:Tab}{P:Program}{w:World}{K:Yae}{mg:Str->Option Value}{base:Heap}
def jhO  {j n:Nat}{t:List U->Gp->K1->KX->Prop}(z:∀us G Q E,¬t us G Q E):FnOk P w K mg base (CX1 P w) j f J ps (lSp K t):=
 ⟨λI H Q E ⟨_,_,_,_,_,_,h,_⟩=>(z _ _ _ _ h).elim,λA y s H F us I Q E _ _ _ _ ⟨_,_,_,_,_,_,h,_⟩=>(z _ _ _ _ h).elim⟩
def jgW       (F:L2.Fun K d.name d.name st f fd)(h1:scB d.N d.ps (jag st)=true)(h2:okSs T ⟨d.N,(jag st).names⟩ d.body (jao st)=true)(h3:unSs T ⟨d.N,(jag st).names⟩ d.body (jao st)=jao st)
  (J:PF T P w K mg base k) (hd:T.funs[n]?=some d):FnOk P w K mg base (CX1 P w) (k+3) f fd d.ps (lSp K (jab T (k+1) n)):=by
 have S:=jlq h1;refine F.okX S (λvs H Q E ⟨us,G,Q',E',r,hG,h,O,lx⟩=>by rw[<- r.length];exact(jja (jkU hd) h).1) λya A za s H vs Q E hr xa=>?_
 obtain⟨us,G,Q',E',r,hG,h,O,lx⟩:=xa;obtain⟨hl,h⟩:=jja (jkU hd) h;refine⟨_,jng h3 (sSs d.body (k:=k) (c:=⟨d.N,(jag st).names⟩) (hs:=jao st) ⟨⟨rfl,S.nd,λx z=>eq_of_beq z,λx z=>⟨eq_of_beq z,rfl⟩,λx z=>.inr (eq_of_beq z),λx z=>eq_of_beq z,hr.mono (by lia),rfl,jpv,J.blt,J.fns,J.gls,hr,J.cls,J.mgK⟩,rfl,S.kind,rfl,rfl⟩ h2),?_⟩
 exact⟨_,_,G,jh4 r,hG,h,⟨λja L y j a b c q=>O .non .non y j rfl b c q,λw v y j a b c q=>O w v y j a b c q,λva e s' x ja L y j I sr Z Y f q=>by obtain⟨ea,C0,dx,rfl,l,xd⟩:=Z;exact CX1.out1 I l (lx x y j C0 dx xd Y f q)⟩⟩
abbrev Dyn  (T:Tab)(K:Yae)(mg:Str->Option Value)(sts:List Stmt):Prop:=∀(n:Nat) (d:Fun) (st:Stmt),T.funs[n]?=some d->sts[n]?=some st->∃(f:Addr) (fd:YeZ),L2.Fun K d.name d.name st f fd/\mg d.name=some (.ref f)/\Binds K fd d.ps []/\∀z,T.ns.lookup n=some z->jgu K fd.code z.P=true
def jlC  {sts:List Stmt}(y:jeM T 0 T.funs sts=true)(I:jfg T sts 0 T.funs sts)(J:Dyn T K mg sts)(hU:∀t∈tabs,∀t'∈tabs,t.1=t'.1->t=t')(Z:K.In base)(hB:BmAt mg base)
  (hb:∀x∈jcT,mg x=none) (L:∀(n:Nat) x u ,T.gn[n]?=some x->T.gs[n]?=some u->∃v w,mg x=some w/\RelV v w/\∀H,RU K H u v) (hc:∀n∈T.cs,1<=n->∃C,XCls K (gK K) (clsN n) (clsF n) C) (Y:∀x v,gK K x=some v->mg x=some v) :
  ∀k ,PF T P w K mg base k:=by
 intro k
 induction k using Nat.strongRecOn with
 |ind k O=>
  refine⟨hb,λn d hd=>?_,L,hc,Y⟩;obtain⟨st,e,h1,j⟩:=jdF y I hd;obtain⟨f,fd,F,m,b,hz⟩:=J n d st hd e;refine⟨f,fd,?_,m,F.kp,b⟩;rw[Ycs]at j;cases q:T.ns.lookup n with
  |none=>
   rw[q]at j;obtain _|k:=k
   ·exact jhO (n:=n) λ_ _ _ _ h=>h
   ·exact jgW F h1 j.1 j.2 (O k (by lia)) hd
  |some z=>rw[q]at j;exact j.elim
noncomputable def G0  (a:Addr)(ns:List Int):Gp:=λb=>if b=a then some (.fro (ns.map .int)) else none
theorem jiM   : ∀ns:List Int,RUs K H (ns.map .int) (ns.map V.int)
 |[]=>rfl
 |_::r=>⟨_,_,rfl,rfl,jiM r⟩
def law_sp        (hT:∀t∈tabs,t.1∈tb)(j:jkg tb H)(fr:H a=some (.frz o (.lst (ns.map V.int))))(h:jab T k n [.loc a] (G0 a ns) (λu _=>u=.bl true) λ_ _=>False) :
  lSp K (jab T k n) [.ref a] H (λv _=>v=.bl true) λ_ _ _=>False:=by
 refine⟨[.loc a],G0 a ns,_,_,⟨_,_,rfl,rfl,rfl⟩,⟨λb y e=>?_,λt J=>.inl ?_⟩,h,λw v I F r _ _ q=>?_,λ_ _ _ _ _ _ _ _ z=>z.elim⟩
 ·unfold G0 at e;split at e
  ·rename_i z;subst z;cases e;exact⟨o,_,fr,jiM ns⟩
  lia
 ·have:=j t.1
  grind
 ·subst q;exact r
end

def jhs  {T: Tab}{sts:List Stmt}(F:L2.Fun K d.name d.name st f fd)(y:jeM T 0 T.funs sts=true)(j:jfg T sts 0 T.funs sts)(I:Dyn T K mg sts)(Z:∀t∈tabs,∀t'∈tabs,t.1=t'.1->t=t')(z:K.In base)(hB:BmAt mg base)
  (hb:∀x∈jcT,mg x=none) (O:∀(n:Nat) x u ,T.gn[n]?=some x->T.gs[n]?=some u->∃v w,mg x=some w/\RelV v w/\∀H,RU K H u v) (L:∀n∈T.cs,1<=n->∃C,XCls K (gK K) (clsN n) (clsF n) C) (Y:∀x v,gK K x=some v->mg x=some v) (hd:T.funs[n]?=some d) (hs:sts[n]?=some st) (hn:T.ns.lookup n=none) :
  FnOk P w K mg base (CX1 P w) (k+2) f fd d.ps (lSp K (jab T k n)):=by
 cases k with
 |zero=>exact jhO (n:=n) λ_ _ _ _ h=>h
 |succ k=>
  obtain⟨xa,e,h1,J⟩:=jdF y j hd;rw[hs]at e;cases e;rw[Ycs,hn]at J;exact jgW F h1 J.1 J.2 (jlC y j I Z z hB hb O L Y k) hd

def jpR    (h:gK K x=some v):Ybe K YaJ x=some (some v):=by
 unfold gK at h;cases q:Ybe K YaJ x with
 |none=>simp_all
 |some o=>simp_all
def jnV    (X:K.In h)(G:h.Ns YaJ mg):∀x v,gK K x=some v->mg x=some v:=λ_ _ e=>YcY X G (jpR e)
def jor    (h:Ybe K YaJ x=some (some v)):gK K x=some v:=by unfold gK;rw[h];rfl
noncomputable def ksB  : List Str:=["__module__", "__firstlineno__", "__static_attributes__", "__weakref__", "__doc__"]
noncomputable def ksC  : List Str:=["__module__", "__firstlineno__", "__init__", "__static_attributes__", "__doc__"]
def offB  (j:List Str):Bool:=offN.all λy=>!j.contains y
def jkF   {m:Str->Option Value}(h:offB z=true)(j:∀x,x∉z->m x=none):∀y∈offN,m y=none:=λy F=>j y (by
 have:=List.all_eq_true.mp h y F
 simp_all)
def jjn     {hd Y:Bool}(a:Ybe K YaJ "PlanError" = some (some (.ref D)))(z:Ybv K (.ref D)=true)
  (l:K.lookup D=some (YcX "PlanError" q D I bs bmV hd sn sub Y col dd k0 k1 k2 k3 k5 L)) (n:jeq K I=some y) (O:offB y=true) (Z:y.contains ("__init__" : Str)=false):∃F,XBase K (gK K) D F:=by
 obtain⟨m,J,j,_⟩:=jnQ n;exact⟨m,jor a,z,⟨_,_,_,_,_,_,_,_,_,_,_,_,_,_,_,l,J⟩,jkF O j,j _ (by simp_all)⟩
def jk5               (B:XBase K (gK K) D mD)(a:Ybe K YaJ x=some (some (.ref C)))(kp:Ybv K (.ref C)=true)
  (l:K.lookup C=some (YcX x q C N bs (.ref D::bmV) true sn sub ab col dd k0 k1 k2 k3 k5 "ValueError.__new__")) (n:jeq K N=some ks) (h1:offB ks=true) (i:Ybe K N "__init__" = some (some (.ref fI))) (F:L2.Fun K "__init__" j st fI Z) (lf:K.lookup fI=some ⟨.type "function",od,.func Z,za⟩)
  (S:scB (("self" : Str)::fs) ("self" :: fs) (jag st)=true) (b:Binds K Z (("self" : Str)::fs) []) (z:((("self" : Str)::fs).all λy=>(jag st).names.lookup y==some .local)=true)
  (bd:(∃f p1 O J pos,fs=[f]/\jao st=[.Assign [.Attribute (.Name "self" p1) f O] (.Name f J) pos])\/∃f I p1 O J pos q1 q2 q3 L,fs=[f,I]/\f≠I/\jao st=[.Assign [.Attribute (.Name "self" p1) f O] (.Name f J) pos,.Assign [.Attribute (.Name "self" q1) I q2] (.Name I q3) L]):XCls K (gK K) x fs C:=by
 obtain⟨m,hn,Y,xa⟩:=jnQ n;exact⟨jor a,kp,D,N,fI,m,mD,B,⟨_,_,_,_,_,_,_,_,_,_,_,_,l⟩,hn,jkF h1 Y,xa _ _ i,st,j,Z,F,⟨_,_,lf⟩,jlq S,b,λy hy=>eq_of_beq (List.all_eq_true.mp z y hy),bd⟩
def jeZ     : gup (gup G a o) a u=gup G a u:=by funext b;unfold gup;lia
def Sm  (f:Addr)(G j:Gp):Prop:=∀b o,b≠f->G b=some o->j b=some o
def Sa  (G j:Gp):Prop:=∀b o,G b=some o->j b=some o
def Sm.refl    : Sm f G G:=λ_ _ _ h=>h
def Sa.refl   : Sa G G:=λ_ _ h=>h
def Sm.trans    (a:Sm f G G1)(b:Sm f G1 G2):Sm f G G2:=λc o n h=>b c o n (a c o n h)
def Sa.trans   (a:Sa G G1)(b:Sa G1 G2):Sa G G2:=λc o h=>b c o (a c o h)
def Sa.sm    (a:Sa G G'):Sm f G G':=λc o _ h=>a c o h
def Sa.new     (h:G p=none):Sa G (gup G p o):=λc u e=>by
 rw[jbf (λz=>by lia)];exact e
def Sm.put     : Sm f G (gup G f o):=λc u n e=>by rw[jbf n];exact e
def jb1  {G:Gp}(h:G a=some o)(j:G p=none):p≠a:=λz=>by lia
def New.at     (n:New G p o G'):G' p=some o:=by rw[n.eq];exact jar
def New.sa     (n:New G p o G'):Sa G G':=by rw[n.eq];exact Sa.new n.no
def Put.at     (n:Put G p o G'):G' p=some o:=by rw[n.eq];exact jar
def Put.sm     (n:Put G p o G'):Sm p G G':=by rw[n.eq];exact Sm.put
mutual
noncomputable def pd:U->PyData
 |.non=>.none
 |.bl b=>.bool b
 |.int i=>.int i
 |.str x=>.str x
 |.tup j=>.tuple (pds j)
 |.loc _=>.none
 |.fn _=>.none
 |.ty _=>.none
 |.exc _ _=>.none
 |.own _=>.none
 |.clo _ _=>.none
noncomputable def pds:List U->List PyData
 |[]=>[]
 |u::us=>pd u::pds us
end
mutual
noncomputable def bare:U->Bool
 |.non=>true
 |.bl _=>true
 |.int _=>true
 |.str _=>true
 |.tup j=>bares j
 |.loc _=>false
 |.fn _=>false
 |.ty _=>false
 |.exc _ _=>false
 |.own _=>false
 |.clo _ _=>false
noncomputable def bares:List U->Bool
 |[]=>true
 |u::us=>bare u&&bares us
end
mutual
theorem jj2 {G:Gp}:∀{u:U},bare u=true->DU G u (pd u)
 |.non,_=>.non
 |.bl b,_=>.bl b
 |.int i,_=>.int i
 |.str x,_=>.str x
 |.tup _,h=>.tup (jiY h)
 |.loc _,h=>nomatch h
 |.fn _,h=>nomatch h
 |.ty _,h=>nomatch h
 |.exc _ _,h=>nomatch h
 |.own _,h=>nomatch h
 |.clo _ _,h=>nomatch h
theorem jiY {G:Gp}:∀{us:List U},bares us=true->DUs G us (pds us)
 |[],_=>.nil
 |_::_,h=>.cons (jj2 (ba h).1) (jiY (ba h).2)
end
structure Sml (n:Nat)(u:U):Prop where
 b:bare u=true
 l:(pd u).canLay0=true
 d:(pd u).depth<=n
def Sml.int   i:Sml 0 (.int i):=⟨rfl,rfl,Yac _⟩
def Sml.non  : Sml 0 .non:=⟨rfl,rfl,Yac _⟩
def Sml.str   (h:∀c∈x.cps.toList,c<128):Sml 0 (.str x):=⟨rfl,by
 show x.cps.all (λc=>decide (c<0x110000))=true;rw[<- Array.all_toList,List.all_eq_true]
 grind,Yac _⟩
theorem smls   : ∀{us },(∀u∈us,Sml n u)->bares us=true/\YaL (pds us)=true/\YaE (pds us)<=n
 |[],_=>⟨rfl,rfl,YaF _⟩
 |u::us,h=>by
  obtain⟨y,j,F⟩:=smls λv z=>h v (Yaj _ z);have hu:=h u Yav;refine⟨?_,?_,?_⟩
  ·show(bare u&&bares us)=true;rw[hu.b,y];rfl
  ·show((pd u).canLay0&&YaL (pds us))=true;rw[hu.l,j];rfl
  ·show max (pd u).depth (YaE (pds us))<=n;exact Nat.max_le.mpr ⟨hu.d,F⟩
def Sml.tup    (h:∀u∈us,Sml n u):Sml (n+1) (.tup us):=let ⟨y,j,z⟩:=smls h;⟨y,j,YbC z⟩
def Sml.small    (h:Sml n u)(j:n<=100):Small (pd u):=⟨h.l,Yaf h.d j⟩
def jhe       (ga:G a=some (.lst us))(j:G b=some (.lst []))(h:∀u∈us,Sml n u)(L:n<100)(q:k us.isEmpty):eqU (.loc a) (.loc b) G k:=by
 obtain⟨F,z,J⟩:=smls h;have y:lsG G a=some us:=by unfold lsG;rw[ga]
 have I:lsG G b=some []:=by unfold lsG;rw[j]
 refine⟨.list (pds us),.list [],.lst y (jiY F),.lst I .nil,⟨z,?_⟩,⟨rfl,by decide⟩,?_⟩
 ·show YaE (pds us)+1<=100
  lia
 ·have e:YaK (.list (pds us)) (.list [])=us.isEmpty:=by
   show YbM (pds us) []=_;rw[jc3];cases us<;>rfl
  lia
theorem jav     : ∀{xs } (I:Nat->Sg->Gp->Prop) (_:∀j G,I xs.length j G->ok G/\k j G)
  (_:∀i x j G K ,xs[i]?=some x->I i j G->(∀z F,I (i+1) z F->K z F)->ok G/\b x j G K) {j } {G } (_:I 0 j G),forL ok b xs j G k
 |[],_,h0,_,_,_,h=>h0 _ _ h
 |x::_,I,h0,h1,_,_,h=>h1 0 x _ _ _ rfl h λ_ _ J=>jav (λi=>I (i+1)) h0 (λi y j G K e L hk=>h1 (i+1) y j G K e L hk) J
theorem jan     : ∀{xs } (I:Nat->List U->Gp->Prop) (_:∀acc G,I xs.length acc G->ok G/\k acc G)
  (_:∀i x acc G K ,xs[i]?=some x->I i acc G->(∀u j,I (i+1) (acc++[u]) j->K (some u) j)->(∀j,I (i+1) acc j->K none j)->ok G/\b x G K) {acc } {G } (_:I 0 acc G),jcR ok b xs acc G k
 |[],_,h0,_,_,_,h=>h0 _ _ h
 |x::_,I,h0,h1,_,_,h=>h1 0 x _ _ _ rfl h (λ_ _ J=>jan (λi=>I (i+1)) h0 (λi y a G K e z hk F=>h1 (i+1) y a G K e z hk F) J) (λ_ J=>jan (λi=>I (i+1)) h0 (λi y a G K e z hk F=>h1 (i+1) y a G K e z hk F) J)
theorem jfK       f (j:ok G):∀{xs } (_:∀x∈xs,∀K ,K (some (f x)) G->b x G K) {acc } (_:k (acc++xs.map f) G),jcR ok b xs acc G k
 |[],_,acc,q=>⟨j,by simpa using q⟩
 |x::xs,hb,acc,q=>⟨j,hb x Yav _ (jfK f j (λy z=>hb y (Yaj _ z)) (by simpa using q))⟩
theorem jdk       f (j:ok G):∀{xs } (_:∀x∈xs,∀K ,K (f x) G->b x G K) {acc } (_:k (acc++xs.filterMap f) G),jcR ok b xs acc G k
 |[],_,acc,q=>⟨j,by simpa using q⟩
 |x::xs,hb,acc,q=>⟨j,hb x Yav _ (jdk f j (λy z=>hb y (Yaj _ z)) (by
   grind))⟩
def jak   i n:(rngU i n).length=n:=by unfold rngU;simp
def jaC    (h:(rngU 0 n)[i]?=some x):i<n/\x=.int i:=by
 unfold rngU at h;rw[Yau]at h;by_cases j:i<n
 ·rw[YdC j]at h;exact⟨j,by simpa using h.symm⟩
 ·rw[YcC (by simpa using j)]at h
  cases h
def je7   (f:α->y)(l:List α) i:atI (l.map f) i=(atI l i).map f:=by
 unfold atI;rw[Yaa];cases ixN l.length i with
 |none=>rfl
 |some j=>simp
def jfS   (a:α) l:atI (a::l) 0=some a:=jaO (xs:=a::l) (j:=0) rfl
def jcc   (a b:α) l:atI (a::b::l) 1=some b:=jaO (xs:=a::b::l) (j:=1) rfl
def jke   (a b c:α) l:atI (a::b::c::l) 2=some c:=jaO (xs:=a::b::c::l) (j:=2) rfl
def jp4    a b c d (l:List α):atI (a::b::c::d::l) 3=some d:=jaO (xs:=a::b::c::d::l) (j:=3) rfl
def jfR   {l:List α}{r:Int}(h0:0<=r)(z:r<l.length):∃x,x∈l/\atI l r=some x:=by
 obtain⟨j,rfl⟩:=Yax h0;have y:j<l.length:=by lia
 exact⟨l[j],YaM y,jaO (Yah y)⟩
noncomputable def fdU  (c:Addr)(a l t:Int):List (Key×U):=[(.inr "cells",.loc c),(.inr "at",.int a),(.inr "left",.int l),(.inr "turn",.int t)]
structure Fd (G:Gp)(f c:Addr):Prop where
 ex:∃(ns:List Int) (a l t:Int),G f=some (.dK (fdU c a l t))/\G c=some (.lst (ns.map .int))/\ns≠[]
def k_ca  : ¬((Sum.inr ("cells" : Str):Key)=Sum.inr ("at" : Str)):=by decide +kernel
def k_cl  : ¬((Sum.inr ("cells" : Str):Key)=Sum.inr ("left" : Str)):=by decide +kernel
def k_ct  : ¬((Sum.inr ("cells" : Str):Key)=Sum.inr ("turn" : Str)):=by decide +kernel
def k_al  : ¬((Sum.inr ("at" : Str):Key)=Sum.inr ("left" : Str)):=by decide +kernel
def k_at  : ¬((Sum.inr ("at" : Str):Key)=Sum.inr ("turn" : Str)):=by decide +kernel
def k_lt  : ¬((Sum.inr ("left" : Str):Key)=Sum.inr ("turn" : Str)):=by decide +kernel

def jml  : dGet (fdU c a l t) (.inr "cells")=some (.loc c):=by simp[dGet,fdU]
def g_at  : dGet (fdU c a l t) (.inr "at")=some (.int a):=by simp[dGet,fdU,k_ca,-Ycr]
def joq  : dGet (fdU c a l t) (.inr "left")=some (.int l):=by simp[dGet,fdU,k_cl,k_al,-Ycr]
def jkT  : dGet (fdU c a l t) (.inr "turn")=some (.int t):=by simp[dGet,fdU,k_ct,k_at,k_lt,-Ycr]
def jkE   x:dPut (fdU c a l t) (.inr "turn") (.int x)=fdU c a l x:=by simp[dPut,fdU,k_ct,k_at,k_lt,-Ycr]
def p_at   x:dPut (fdU c a l t) (.inr "at") (.int x)=fdU c x l t:=by simp[dPut,fdU,k_ca,Ne.symm k_al,Ne.symm k_at,-Ycr]
def jnx   x:dPut (fdU c a l t) (.inr "left") (.int x)=fdU c a x t:=by simp[dPut,fdU,k_cl,k_al,Ne.symm k_lt,-Ycr]
def jnW   : jcv [((Sum.inr ("cells" : Str):Key),U.loc p),(.inr "at",.int 0),(.inr "left",.int 0),(.inr "turn",.int 0)]=fdU p 0 0 0:=by
 simp[jcv,dPut,fdU,k_ca,k_cl,k_ct,k_al,k_at,k_lt,-Ycr]
def jhd  : (fdU c a l t).length<Yai:=by show 4<Yai;decide
def Fd.put       (p:Put G f (.dK (fdU c a l t)) G')(h:G f=some (.dK kvs))(y:G c=some (.lst (ns.map .int)))(j:ns≠[]):Fd G' f c:=
 ⟨ns,a,l,t,p.at,p.sm _ _ (λz=>by lia) y,j⟩
def Fd.sa    (h:Fd G f c)(s:Sa G G'):Fd G' f c:=let ⟨y,a,l,t,F,z,j⟩:=h.ex;⟨y,a,l,t,s _ _ F,s _ _ z,j⟩
def Fd.new     (h:Fd G f c)(n:New G p o G'):Fd G' f c:=h.sa n.sa
def Fd.away     (h:Fd G f c)(n:New G p o G'):p≠f/\p≠c:=by
 obtain⟨z,a,l,t,y,j,_⟩:=h.ex;exact⟨jb1 y n.no,jb1 j n.no⟩
def Fd.off     (h:Fd G f c)(j:p≠f/\p≠c)(w:Put G p o G'):Fd G' f c:=let ⟨y,a,l,t,I,F,z⟩:=h.ex;⟨y,a,l,t,w.sm _ _ (Ne.symm j.1) I,w.sm _ _ (Ne.symm j.2) F,z⟩
def Sm.wr     (s1:Sm f G G1)(n:G1 p=none)(s2:Sm f G G2)(w:Put G2 p o y):Sm f G y:=λb u j e=>w.sm b u (λz=>by
 have:=s1 _ _ j e
 lia) (s2 b u j e)
def Sm.nw     (s:Sm f G G1)(n:New G1 p o G2):Sm f G G2:=s.trans n.sa.sm
theorem D_v         i:(den gs Δ (.v i)).1 j G Q X=(slot j i λu=>Q u G):=rfl
theorem T_v         i:(den gs Δ (.v i)).2 y G R X=(den gs Δ (.v i)).1 y G (λx j=>truU x j λb=>R b j) X:=rfl
theorem jrs         : (den gs Δ (.non)).1 j G Q X=(Q .non G):=rfl
theorem D_bl         b:(den gs Δ (.bl b)).1 j G Q X=(Q (.bl b) G):=rfl
theorem jrz         i:(den gs Δ (.int i)).1 j G Q X=(Q (.int i) G):=rfl
theorem jrp         x:(den gs Δ (.str x)).1 j G Q X=(Q (.str x) G):=rfl
theorem D_g         n:(den gs Δ (.g n)).1 j G Q X=(glU gs n λu=>Q u G):=rfl
theorem T_g         n:(den gs Δ (.g n)).2 y G R X=(den gs Δ (.g n)).1 y G (λx j=>truU x j λb=>R b j) X:=rfl
theorem D_ty         n:(den gs Δ (.ty n)).1 j G Q X=(Q (.ty n) G):=rfl
theorem T_ty         n:(den gs Δ (.ty n)).2 y G R X=(den gs Δ (.ty n)).1 y G (λx j=>truU x j λb=>R b j) X:=rfl
theorem jrD         o a b:(den gs Δ (.bin o a b)).1 j G Q X=((den gs Δ a).1 j G (λx F=>(den gs Δ b).1 j F (λy z=>binU o x y z Q) X) X):=rfl
theorem jq4         o a b:(den gs Δ (.bin o a b)).2 y G R X=(den gs Δ (.bin o a b)).1 y G (λx j=>truU x j λb=>R b j) X:=rfl
theorem jrt         a:(den gs Δ (.neg a)).1 y G Q X=((den gs Δ a).1 y G (λx j=>negU x j Q) X):=rfl
theorem jrB         o a b:(den gs Δ (.cmp o a b)).1 z G Q X=((den gs Δ a).1 z G (λx F=>(den gs Δ b).1 z F (λy j=>cmpU o x y j λc=>Q (.bl c) j) X) X):=rfl
theorem jq2         o a b:(den gs Δ (.cmp o a b)).2 y G R X=(den gs Δ (.cmp o a b)).1 y G (λx j=>truU x j λb=>R b j) X:=rfl
theorem jqw         o p a b c:(den gs Δ (.cmp2 o p a b c)).1 F G Q X=((den gs Δ a).1 F G (λx J=>(den gs Δ b).1 F J (λy j=>cmpU o x y j λt=>if t=true then (den gs Δ c).1 F j (λz I=>cmpU p y z I λt'=>Q (.bl t') I) X else Q (.bl false) j) X) X):=rfl
theorem jqf         o p a b c:(den gs Δ (.cmp2 o p a b c)).2 y G R X=(den gs Δ (.cmp2 o p a b c)).1 y G (λx j=>truU x j λb=>R b j) X:=rfl
theorem jro         es:(den gs Δ (.tup es)).1 y G Q X=(jbg gs Δ es y G (λus j=>us.length<=Yai/\Q (.tup us) j) X):=rfl
theorem jrx         es:(den gs Δ (.lst es)).1 y G Q X=(jbg gs Δ es y G (λus j=>us.length<=Yai/\newO j (.lst us) Q) X):=rfl
theorem jrA         es:(den gs Δ (.dic es)).1 y G Q X=(denD gs Δ es y G (λkvs j=>kvs.length<=15/\newO j (.dK (jcv kvs)) Q) X):=rfl
theorem jqv         : (den gs Δ (.dicT)).1 j G Q X=(newO G (.dT []) Q):=rfl
theorem jqe         : (den gs Δ (.dicT)).2 y G R X=(den gs Δ (.dicT)).1 y G (λx j=>truU x j λb=>R b j) X:=rfl
theorem D_ix         a b:(den gs Δ (.ix a b)).1 j G Q X=((den gs Δ a).1 j G (λx F=>(den gs Δ b).1 j F (λy z=>ixU x y z Q) X) X):=rfl
theorem T_ix         a b:(den gs Δ (.ix a b)).2 y G R X=(den gs Δ (.ix a b)).1 y G (λx j=>truU x j λb=>R b j) X:=rfl
theorem D_sl         a lo hi:(den gs Δ (.sl a lo hi)).1 j G Q X=((den gs Δ a).1 j G (λx F=>denO gs Δ lo j F (λl y=>denO gs Δ hi j y (λh z=>slU x l h z Q) X) X) X):=rfl
theorem jrq         a b:(den gs Δ (.rev a b)).1 j G Q X=((den gs Δ a).1 j G (λx F=>(den gs Δ b).1 j F (λy z=>revU x y z Q) X) X):=rfl
theorem jqx         n es:(den gs Δ (.call n es)).1 y G Q X=(jbg gs Δ es y G (λus j=>Δ n us j Q X) X):=rfl
theorem jqg         n es:(den gs Δ (.call n es)).2 y G R X=(den gs Δ (.call n es)).1 y G (λx j=>truU x j λb=>R b j) X:=rfl
theorem jrC         b es:(den gs Δ (.blt b es)).1 y G Q X=(jbg gs Δ es y G (λus j=>bltU b us j Q) X):=rfl
theorem jq3         b es:(den gs Δ (.blt b es)).2 y G R X=(den gs Δ (.blt b es)).1 y G (λx j=>truU x j λb=>R b j) X:=rfl
theorem jqu {z:List U}{j:Cl}{y:Sg}{G:Gp}{Q:K1}{X:KX}(m:Mth)(o:E)(I:Es):(den z j (.meth m o I)).1 y G Q X=((den z j o).1 y G (λx F=>match mtU m x F with|some _=>jbg z j I y F (λus J=>jbh m x us J Q) X|none=>False) X):=rfl
theorem D_lc         pick t it ifs e:(den gs Δ (.lc pick t it ifs e)).1 y G Q X=(denI gs Δ it y G (λxs ok I=>xs.length<=Yai/\jcR ok (λx J k=>tgU t x (jbM pick y) λj=>denC gs Δ ifs j J (λb z=>if b=true then (den gs Δ e).1 j z (λu L=>k (some u) L) (λ_ _=>False) else k none z)) xs [] I λus F=>newO F (.lst us) Q) X):=rfl
theorem jry         pick t it ifs t2 it2 ifs2 e:(den gs Δ (.lc2 pick t it ifs t2 it2 ifs2 e)).1 O G Q X=(denI gs Δ it O G (λxs ok Z=>jgt ok (λx acc G2 k=>tgU t x (jbM pick O) λF=>denC gs Δ ifs F G2 (λb Y=>if b=true then denI gs Δ it2 F Y (λys I G4=>acc.length+ys.length<=Yai/\jcR I (λy z L=>tgU t2 y F λj=>denC gs Δ ifs2 j z (λb2 J=>if b2=true then (den gs Δ e).1 j J (λu G7=>L (some u) G7) (λ_ _=>False) else L none J)) ys acc G4 k) (λ_ _=>False) else k acc Y)) xs [] Z λus z=>newO z (.lst us) Q) X):=rfl
theorem jq1         pick t it ifs t2 it2 ifs2 e:(den gs Δ (.lc2 pick t it ifs t2 it2 ifs2 e)).2 y G R X=(den gs Δ (.lc2 pick t it ifs t2 it2 ifs2 e)).1 y G (λx j=>truU x j λb=>R b j) X:=rfl
theorem jrv         e:(den gs Δ (.mkP e)).1 y G Q X=((den gs Δ e).1 y G (λx j=>mkPU x j Q) X):=rfl
theorem jq0         e:(den gs Δ (.mkP e)).2 y G R X=(den gs Δ (.mkP e)).1 y G (λx j=>truU x j λb=>R b j) X:=rfl
theorem jrw         e:(den gs Δ (.mkL e)).1 y G Q X=((den gs Δ e).1 y G (λx j=>itU x j λxs _=>newO j (.lst xs) Q) X):=rfl
theorem jru         e:(den gs Δ (.mkT e)).1 y G Q X=((den gs Δ e).1 y G (λx j=>itU x j λxs _=>Q (.tup xs) j) X):=rfl
theorem jrr         a:(den gs Δ (.not a)).1 y G Q X=((den gs Δ a).1 y G (λx j=>truU x j λb=>Q (.bl (!b)) j) X):=rfl
theorem jqZ         a:(den gs Δ (.not a)).2 y G R X=((den gs Δ a).2 y G (λb j=>R (!b) j) X):=rfl
theorem jqy      : den gs Δ (.bop k a .nil)=den gs Δ a:=rfl
theorem jrE          : (den gs Δ (.bop true a (.cons b es))).1 y G Q X=(den gs Δ a).1 y G (λx j=>truU x j λc=>if c=true then (den gs Δ (.bop true b es)).1 y j Q X else Q x j) X:=rfl
theorem D_or          : (den gs Δ (.bop false a (.cons b es))).1 y G Q X=(den gs Δ a).1 y G (λx j=>truU x j λc=>if c=true then Q x j else (den gs Δ (.bop false b es)).1 y j Q X) X:=rfl
theorem jq5          : (den gs Δ (.bop true a (.cons b es))).2 y G R X=(den gs Δ a).2 y G (λc j=>if c=true then (den gs Δ (.bop true b es)).2 y j R X else R false j) X:=rfl
theorem T_or          : (den gs Δ (.bop false a (.cons b es))).2 y G R X=(den gs Δ a).2 y G (λc j=>if c=true then R true j else (den gs Δ (.bop false b es)).2 y j R X) X:=rfl
theorem O_no        : denO gs Δ .no j G Q X=Q none G:=rfl
theorem O_so {z:List U}{j:Cl}{y:Sg}{G:Gp}{X:KX}{Q:Option Int->Gp->Prop}{e:E}:denO z j (.so e) y G Q X=(den z j e).1 y G (λx F=>match x with|.int i=>Q (some i) F|_=>False) X:=rfl
theorem jrH        : jbg gs Δ .nil j G Q X=Q [] G:=rfl
theorem jqB          : jbg gs Δ (.cons e es) j G Q X=(den gs Δ e).1 j G (λx z=>jbg gs Δ es j z (λxs y=>Q (x::xs) y) X) X:=rfl
theorem jrF       : denC gs Δ .nil j G Q=Q true G:=rfl
theorem jqz         : denC gs Δ (.cons e es) y G Q=(den gs Δ e).2 y G (λb j=>if b=true then denC gs Δ es y j Q else Q false j) (λ_ _=>False):=rfl
theorem jrb        : denD gs Δ .nil j G Q X=Q [] G:=rfl
theorem jqk {F:List U}{j:Cl}{z:Sg}{G:Gp}{X:KX}{Q:List (Key×U)->Gp->Prop}{e f:E}{I:Es}:denD F j (.cons e (.cons f I)) z G Q X=(den F j e).1 z G (λx J=>(den F j f).1 z J (λy L=>match kU x with|some k=>denD F j I z L (λkvs O=>Q ((k,y)::kvs) O) X|none=>False) X) X:=rfl
theorem I_e         : denI gs Δ (.e e) y G Q X=(den gs Δ e).1 y G (λx j=>itU x j λxs ok=>Q xs ok j) X:=rfl
theorem I_r1 {F:List U}{y:Cl}{z:Sg}{G:Gp}{X:KX}{Q:List U->(Gp->Prop)->Gp->Prop}{e:E}:denI F y (.r1 e) z G Q X=(den F y e).1 z G (λx I=>match x with|.int j=>-(2 ^ 62)<=j/\j<2 ^ 62/\Q (rngU 0 j.toNat) (λ_=>True) I|_=>False) X:=rfl
theorem jql         : denI gs Δ (.enum e) y G Q X=(den gs Δ e).1 y G (λx j=>enI x j λxs ok=>Q xs ok j) X:=rfl
theorem jrh        : denF gs Δ .nil j G Q X=Q [] G:=rfl
theorem jqt          : denF gs Δ (.cons e es) j G Q X=(den gs Δ e).1 j G (λx I=>fpU x λz=>denF gs Δ es j I (λF y=>Q (z::F) y) X) X:=rfl
theorem jqi        : denS gs Δ (.expr e) D y G=(den gs Δ e).1 y G (λ_ j=>D.nx y j) λx j=>D.ex x y j:=rfl
theorem jra         : denS gs Δ (.asg t e) D z G=(den gs Δ e).1 z G (λu y=>tgU t u z λj=>D.nx j y) λx y=>D.ex x z y:=rfl
theorem jqj         : denS gs Δ (.asgC i e) D y G=(den gs Δ e).1 y G (λu j=>D.nx (y.set i (some u)) j) λx j=>D.ex x y j:=rfl
theorem jqh        : denS gs Δ (.setS o i e) D z G=(den gs Δ e).1 z G (λv j=>(den gs Δ o).1 z j (λx F=>(den gs Δ i).1 z F (λy J=>setU x y v J λI=>D.nx z I) (λx j=>D.ex x z j)) (λx j=>D.ex x z j)) (λx j=>D.ex x z j):=rfl
theorem jq7         : denS gs Δ (.par is es) D y G=jbg gs Δ es y G (λus j=>us.length=is.length/\D.nx ((is.zip us).foldl (λs p=>s.set p.1 (some p.2)) y) j) λx j=>D.ex x y j:=rfl
theorem jq9          : denS gs Δ (.aug i o e) D j G=slot j i λx=>(den gs Δ e).1 j G (λy F=>jjW o x y F λz I=>D.nx (j.set i (some z)) I) λx F=>D.ex x j F:=rfl
theorem jq8         : denS gs Δ (.ite c a b) D y G=(den gs Δ c).2 y G (λt j=>if t=true then jat gs Δ a D y j else jat gs Δ b D y j) λx j=>D.ex x y j:=rfl
theorem S_fr          : denS gs Δ (.fr t it b) D F G=denI gs Δ it F G (λxs ok j=>forL ok (λx y I k=>tgU t x y λz=>jat gs Δ b { D with nx:=k } z I) xs F j D.nx) λx j=>D.ex x F j:=rfl
theorem jq6        : denS gs Δ (.ret e) D j G=(den gs Δ e).1 j G D.rt λx y=>D.ex x j y:=rfl
theorem jp5         : denS gs Δ (.raise c es) D y G=jbg gs Δ es y G (λus j=>us.length=(clsF c).length/\D.ex ⟨c,us⟩ y j) λx j=>D.ex x y j:=rfl
theorem S_tr          : denS gs Δ (.tr b c n h) D I G=jat gs Δ b { D with ex:=λx j z=>(c=0\/x.c=c)/\hsH x h (j.set n none) z λy F=>D.nx (y.set n none) F } I G:=rfl
theorem jrG       : jat gs Δ .nil D j G=D.nx j G:=rfl
theorem jqA         : jat gs Δ (.cons s r) D z G=denS gs Δ s { D with nx:=λj y=>jat gs Δ r D j y } z G:=rfl
def S_wh         : denS gs Δ (.wh c b) D J G=∃W:Nat->Sg->Gp->Prop,(∃m,W m J G)/\∀m j y,W m j y->(den gs Δ c).2 j y (λt I=>if t=true then jat gs Δ b { D with nx:=λz L=>∃F,F<m/\W F z L } j I else D.nx j I) λx y=>D.ex x j y:=rfl
theorem jqY     : binU .Add (.int i) (.int j) G Q=Q (.int (i+j)) G:=rfl
theorem jqX     : binU .Add (.tup xs) (.tup ys) G Q=(xs.length+ys.length<=Yai/\Q (.tup (xs++ys)) G):=rfl
theorem jeF     : binU .Add (.loc a) (.loc b) G Q=∃xs ys,G a=some (.lst xs)/\G b=some (.lst ys)/\xs.length+ys.length<=Yai/\newO G (.lst (xs++ys)) Q:=rfl
theorem jqS     : binU .Sub (.int i) (.int j) G Q=Q (.int (i-j)) G:=rfl
theorem jqV     : binU .Mult (.int i) (.int j) G Q=(CMul i j/\Q (.int (i*j)) G):=rfl
theorem jqb      : binU .Mult (.loc a) (.int k) G Q=∃xs,G a=some (.lst xs)/\-(2 ^ 63)<=k/\k<2 ^ 63/\xs.length*k.toNat<=Yai/\newO G (.lst (Yag k.toNat xs).flatten) Q:=rfl
theorem jqc     : binU .FloorDiv (.int i) (.int j) G Q=(0<j/\j<1073741824/\Q (.int (i/j)) G):=rfl
theorem jqW     : binU .Mod (.int i) (.int j) G Q=(0<j/\Q (.int (i%j)) G):=rfl
theorem jqT     : binU .Pow (.int i) (.int j) G Q=(CPow i j/\Q (.int (i ^ j.toNat)) G):=rfl
theorem jqU     : negU (.int i) G Q=Q (.int (-i)) G:=rfl
theorem jqR     : cmpU .Eq (.int i) (.int j) G k=k (decide (i=j)):=rfl
theorem jqN     : cmpU .NotEq (.int i) (.int j) G k=k (!decide (i=j)):=rfl
theorem jqP     : cmpU .Eq (.str i) (.str j) G k=k (decide (i=j)):=rfl
theorem jqL     : cmpU .NotEq (.str i) (.str j) G k=k (!decide (i=j)):=rfl
theorem W_lt     : cmpU .Lt (.int i) (.int j) G k=k (decide (i<j)):=rfl
theorem W_le     : cmpU .LtE (.int i) (.int j) G k=k (decide (i<=j)):=rfl
theorem W_gt     : cmpU .Gt (.int i) (.int j) G k=k (decide (j<i)):=rfl
theorem W_ge     : cmpU .GtE (.int i) (.int j) G k=k (decide (j<=i)):=rfl
theorem jqK     : cmpU .NotEq (.tup xs) (.tup ys) G k=eqU (.tup xs) (.tup ys) G λb=>k (!b):=rfl
theorem jqO      : cmpU .Eq (.tup xs) (.tup (y::ys)) G k=eqU (.tup xs) (.tup (y::ys)) G k:=rfl
theorem jp8     : cmpU .Eq (.tup xs) (.tup []) G k=k xs.isEmpty:=rfl
theorem jqM     : cmpU .NotEq (.loc a) (.loc b) G k=eqU (.loc a) (.loc b) G λb=>k (!b):=rfl
theorem jqQ     : cmpU .Eq (.loc a) (.loc b) G k=eqU (.loc a) (.loc b) G k:=rfl
theorem W_in     : cmpU .In x y G k=inU x y G k:=rfl
theorem jqJ     : cmpU .NotIn x y G k=inU x y G λb=>k (!b):=rfl
theorem Y_bl     : truU (.bl b) G k=k b:=rfl
theorem jqF    : truU .non G k=k false:=rfl
theorem jqG     : truU (.int i) G k=k (i != 0):=rfl
theorem jqE     : truU (.tup xs) G k=k (!xs.isEmpty):=rfl
theorem jre     : itU (.tup xs) G k=k xs λ_=>True:=rfl
theorem jqH      : slU (.tup xs) lo hi G Q=Q (.tup (cut xs lo hi)) G:=rfl
theorem jrk     : bltU .len us G Q=lenU us G Q:=rfl
theorem jqn     : bltU .repr us G Q=jjy us G Q:=rfl
theorem jri     : bltU .min us G Q=minU us G Q:=rfl
theorem jrj     : bltU .max us G Q=maxU us G Q:=rfl
theorem jrn     : bltU .all us G Q=allU us G Q:=rfl
theorem jrm     : bltU .int us G Q=intU us G Q:=rfl
theorem jrg     : bltU .str us G Q=strU us G Q:=rfl
theorem jrl     : bltU .isi us G Q=jhC us G Q:=rfl
theorem jqI      : slU (.str x) lo hi G Q=(x.length<=Yai/\Q (.str (Yfl x lo hi)) G):=rfl
theorem jqd      : binU .Add (.bl b) (.int j) G Q=Q (.int ((if b=true then (1:Int) else 0)+j)) G:=rfl
theorem jqa      : binU .Sub (.bl b) (.int j) G Q=Q (.int ((if b=true then (1:Int) else 0)-j)) G:=rfl
theorem jp9      : binU .Sub (.int i) (.bl b) G Q=Q (.int (i-if b=true then (1:Int) else 0)) G:=rfl
theorem jqq     : lenU [.tup xs] G Q=Q (.int xs.length) G:=rfl
theorem jqo     : minU [.int i,.int j] G Q=Q (.int (if j<i then j else i)) G:=rfl
theorem jqp     : maxU [.int i,.int j] G Q=Q (.int (if j>i then j else i)) G:=rfl
theorem jqs     : intU [.bl b] G Q=Q (.int (if b then 1 else 0)) G:=rfl
theorem jqr     : intU [.int i] G Q=Q (.int i) G:=rfl
theorem G_n      : tgU (.n i) u j k=k (j.set i (some u)):=rfl
theorem G_t      : tgU (.t ts) (.tup us) j k=tgsU ts us j k:=rfl
theorem jrf     : tgsU .nil us j k=(us=[]/\k j):=rfl
theorem jqm        : tgsU (.cons t ts) (u::r) y k=tgU t u y λj=>tgsU ts r j k:=rfl
theorem sl_0   {j:Sg}:slot (some u::j) 0 k=k u:=rfl
theorem sl_s   {j:Sg}:slot (o::j) (i+1) k=slot j i k:=rfl
def jdE      : putO G a o Q=Q (gup G a o):=propext ⟨λh=>h.at,λh j p=>by rw[p.eq];exact h⟩
def ix_t       (h:atI xs i=some u):ixU (.tup xs) (.int i) G Q=Q u G:=by unfold ixU;lia
def ix_l        (g:G a=some (.lst xs))(h:atI xs i=some u):ixU (.loc a) (.int i) G Q=Q u G:=by unfold ixU;lia
def ix_d        (g:G a=some (.dK kvs))(h:dGet kvs (.inr x)=some u):ixU (.loc a) (.str x) G Q=Q u G:=by unfold ixU;dsimp only;rw[g];show(match dGet kvs (.inr x)with|some u=>Q u G|none=>False)=_;rw[h]
def jbR       (g:G a=some (.lst xs))(h0:0<=r)(j:r<xs.length)(q:∀u∈xs,Q u G):ixU (.loc a) (.int r) G Q:=by
 obtain⟨u,hu,e⟩:=jfR h0 j;rw[ix_l g e];exact q u hu
def jaP  (j:List Int){r:Int}(g:G a=some (.lst (j.map .int)))(h0:0<=r)(y:r<j.length)(q:∀z∈j,Q (.int z) G):ixU (.loc a) (.int r) G Q:=
 jbR g h0 (by simp_all) λu hu=>by
  grind
theorem jgQ  : ∀j ,jf0 (j.map .str)=some j
 |[]=>rfl
 |x::r=>by show(match jf0 (r.map .str)with|some l=>some (x::l)|none=>none)=_;rw[jgQ r]
def mt_join    : mtU .join (.str z) G=some ("str", "str.join"):=rfl
def job       (g:G a=some (.lst (ys.map .str))):jbh .join (.str z) [.loc a] G Q=(z.length<=16/\(ys.map (·.length)).sum+ys.length<=1048576/\Q (.str (Ycc z ys)) G):=by
 unfold jbh jma;dsimp only;rw[g];dsimp only;rw[jgQ]
def ix_s       (j:x.length<=Yai)(h:atI x.cps.toList i=some c)(q:Q (.str ⟨#[c]⟩) G):ixU (.str x) (.int i) G Q:=by unfold ixU;lia
def jiU  (j:List Str):(j.map U.str).all flat=true:=by simp[flat]
def in_l       (g:G a=some (.lst ys))(j:flat x=true)(z:ys.all flat=true)(q:k (ys.any λy=>eqF y x)):inU x (.loc a) G k:=by
 cases x<;>first|(cases j;done)|(unfold inU;lia)
def jdS      (g:G a=some (.lst xs)):lenU [.loc a] G Q=Q (.int xs.length) G:=by unfold lenU;lia
def jpL      (g:G a=some (.fro xs)):lenU [.loc a] G Q=Q (.int xs.length) G:=by unfold lenU;lia
def it_l      (g:G a=some (.lst xs)):itU (.loc a) G k=k xs λj=>lsG j a=some xs:=by unfold itU;dsimp only;have e:lsG G a=some xs:=(by unfold lsG;rw[g]);rw[e]
def jjm       (g:G a=some (.lst xs)):jbh .append (.loc a) [v] G Q=(xs.length<Yai/\putO G a (.lst (xs++[v])) (Q .non)):=by unfold jbh jgz;dsimp only;rw[g]
def jfr     (g:G a=some (.lst xs)):mtU .append (.loc a) G=some ("list", "list.append"):=by unfold mtU;lia
def jmX         (g:G a=some (.lst xs))(h:ixN xs.length i=some j):setU (.loc a) (.int i) v G Q=putO G a (.lst (xs.set j v)) Q:=by unfold setU;lia
def jju        (g:G a=some (.dK kvs)):setU (.loc a) (.str x) v G Q=(kvs.length<Yai/\putO G a (.dK (dPut kvs (.inr x) v)) Q):=by unfold setU;dsimp only;rw[g];rfl
def jiK   (h:j<n):ixN n (j:Int)=some j:=by unfold ixN;simp_all
noncomputable def jj4  : Nat->Ss->Ss
 |0,s=>s
 |_+1,.nil=>.nil
 |n+1,.cons _ r=>jj4 n r
theorem dr_0   : jj4 0 s=s:=rfl
theorem dr_s     : jj4 (n+1) (.cons s r)=jj4 n r:=rfl
theorem jp7   : jbM [] j=[]:=rfl
theorem jpx    : jbM (none::r) j=none::jbM r j:=rfl
theorem jpw     : jbM (some j::r) y=(y[j]?).join::jbM r y:=rfl
theorem jrc   : kU (.str x)=some (.inr x):=rfl
theorem jrd   : kU (.int i)=some (.inl i):=rfl
def sl_f       (g:G a=some (.fro xs)):slU (.loc a) lo hi G Q=newO G (.lst (cut xs lo hi)) Q:=by unfold slU;dsimp only;have e:lsG G a=some xs:=(by unfold lsG;rw[g]);rw[e]
def jmq   (f:α->j)(xs:List α) lo hi:cut (xs.map f) lo hi=(cut xs lo hi).map f:=by unfold cut;simp_all
def jb9   (xs:List α)(n:Nat):cut xs none (some (n:Int))=xs.take n:=by
 unfold cut;rw[HT.sIx_none,HT.sIx_nat,YeF,Nat.sub_zero,List.take_eq_take_iff]
 lia
def jaX   (xs:List α)(n:Nat):cut xs (some (n:Int)) none=xs.drop n:=by
 unfold cut;rw[HT.sIx_none,HT.sIx_nat];by_cases h:n<=xs.length
 ·rw[Nat.min_eq_left h,Yfa (by simp)]
 ·rw[Nat.min_eq_right (by lia),Yfb (Yac _),Yfb (by lia),List.take_nil]
theorem joM      : ixU (.loc f) (.str "cells") (gup G f (.dK (fdU c a l t))) Q=Q (.loc c) (gup G f (.dK (fdU c a l t))):=ix_d jar jml
theorem jqC      : ixU (.loc f) (.str "at") (gup G f (.dK (fdU c a l t))) Q=Q (.int a) (gup G f (.dK (fdU c a l t))):=ix_d jar g_at
theorem jpU      : ixU (.loc f) (.str "left") (gup G f (.dK (fdU c a l t))) Q=Q (.int l) (gup G f (.dK (fdU c a l t))):=ix_d jar joq
theorem jpT      : ixU (.loc f) (.str "turn") (gup G f (.dK (fdU c a l t))) Q=Q (.int t) (gup G f (.dK (fdU c a l t))):=ix_d jar jkT
theorem jqD      : setU (.loc f) (.str "at") (.int x) (gup G f (.dK (fdU c a l t))) Q=Q (gup G f (.dK (fdU c x l t))):=by rw[jju jar,p_at,jdE,jeZ];exact propext ⟨λh=>h.2,λh=>⟨jhd,h⟩⟩
theorem jpW      : setU (.loc f) (.str "left") (.int x) (gup G f (.dK (fdU c a l t))) Q=Q (gup G f (.dK (fdU c a x t))):=by rw[jju jar,jnx,jdE,jeZ];exact propext ⟨λh=>h.2,λh=>⟨jhd,h⟩⟩
theorem jpV      : setU (.loc f) (.str "turn") (.int x) (gup G f (.dK (fdU c a l t))) Q=Q (gup G f (.dK (fdU c a l x))):=by rw[jju jar,jkE,jdE,jeZ];exact propext ⟨λh=>h.2,λh=>⟨jhd,h⟩⟩
end Z

namespace Y
open PySem L2
noncomputable def nO  : Obj:=⟨.none,none,.fields ⟨[]⟩,⟨[]⟩⟩
noncomputable def tO  (v:List Value):Obj:=⟨.type "tuple",none,.seq ⟨v⟩ 0,⟨[]⟩⟩
noncomputable def sO  (c:Value)(v:List Value):Obj:=⟨c,none,.fields ⟨v⟩,⟨[]⟩⟩
noncomputable def rO  (v:List (Option Value)):Obj:=⟨.type "frame",none,.plain,⟨v⟩⟩
noncomputable def gO  (x q:Str)(s:Stmt):Obj:=⟨.none,none,.func { name:=x,qualname:=q,params:=jbs s,body:=.stmts (jao s),scope:=jag s,globals:=0,closure:=[],defaults:=.none,kwdefaults:=.none },⟨[]⟩⟩
noncomputable def fO  (x q:Str)(s:Stmt)(m:Value)(c:Nat):Obj:=⟨.type "function",none,.func (Ya8 x q (jbs s) (jao s) (jag s) .none .none .none m none (.ref c) .none),⟨[]⟩⟩
noncomputable def kO  (j x q:Str)(t:Nat)(l a f:Int)(r:Nat)(b:Bool)(u v w:Value)(z:Nat):Obj:=⟨.type "code",none,.fields ⟨[.str x t,.str q (t+1),.str j (t+2),.int l 0,.int a 0,.int 0 0,.int 0 0,.int f 0,.ref r,.bool b,.int 181 0,.ref (r+1),.none,u,v,w,.int z 0,.int l 0,.str j (z+1)]⟩,⟨[]⟩⟩
noncomputable def dE  (P:Params)(x:Str)(t:Nat)(v:Value):Yeo:=⟨PyData.keyHash P x,.str x t,v⟩
noncomputable def dO  (e:List Yeo)(n:Nat):Obj:=⟨.type "dict",none,.dict ⟨e⟩ n,⟨[]⟩⟩
noncomputable def cO  (x:Str)(b m:List Value)(n:Nat)(u:List Value)(s:List (Option Value)):Obj:=⟨.type "type",none,.cls { name:=x,bases:=b,mro:=m,ns:=n,qualname:=x,subclasses:=u },⟨s⟩⟩
def tE  : Obj:=tO []
noncomputable abbrev bE  : Ycw:=.nil
noncomputable abbrev bN  (o:Obj)(l r:Ycw):Ycw:=.node o l r
noncomputable abbrev bL  (o:Obj):Ycw:=.node o .nil .nil
end Y
namespace Z
open PySem L2
noncomputable def argB  (ps:List Str)(a:Ygs):Bool:=a.posonlyargs.isEmpty&&(a.args.map (·.arg)==ps)&&a.vararg.isNone&&a.kwonlyargs.isEmpty&&a.kwarg.isNone
def jnY  : ∀{ps:List Str} {us:List Value},us.length=ps.length->ps.Nodup->(ps.filterMap λn=>((ps.zip us).lookup n).map (n,·))=ps.zip us/\∀n∈ps,((ps.zip us).lookup n).isSome=true:=by
 have z:∀{l:List Str} {vs:List Value} {L:List (Str×Value)},vs.length=l.length->l.Nodup->(∀(i:Nat) n v,l[i]?=some n->vs[i]?=some v->L.lookup n=some v)->(l.filterMap λn=>(L.lookup n).map (n,·))=l.zip vs/\∀n∈l,(L.lookup n).isSome=true:=by
  intro l
  induction l with
  |nil=>simp_all
  |cons x l y=>
   intro vs L F j I;obtain _|⟨v,vs⟩:=vs
   ·cases F
   ·have h0:=I 0 x v rfl rfl;obtain⟨Y,O⟩:=y (L:=L) (vs:=vs) (by simp_all) (List.nodup_cons.mp j).2 λi n v a b=>I (i+1) n v a b
    refine⟨?_,λn Z=>?_⟩
    ·simp_all
    grind
 intro ps us F j;refine z F j λi n v a b=>?_;have J:(ps.zip us)[i]?=some (n,v):=YeE.mpr ⟨a,b⟩;have:∀(l:List (Str×Value)),(l.map (·.1)).Nodup->(n,v)∈l->l.lookup n=some v:=by
  intro l
  induction l with
  |nil=>simp_all
  |cons p l y=>
   intro j h;obtain⟨m,u⟩:=p;rw[Ybs];by_cases e:n=m
   ·subst e;rw[beq_self_eq_true];rcases Yap.mp h with h|h
    ·cases h;rfl
    ·exact absurd (List.mem_map.mpr ⟨_,h,rfl⟩) (List.nodup_cons.mp j).1
   ·rw[beq_eq_false_iff_ne.mpr e];rcases Yap.mp h with h|h
    ·cases h;exact absurd rfl e
    ·exact y (List.nodup_cons.mp j).2 h
 exact this _ (by rw[Ygp (by lia)];exact j) (Yas J)
def jgw    (h:argB ps a=true)(nd:ps.Nodup){kV j F:Value}(z:us.length=ps.length) :
  bindArgs (Ya8 x q a b sc .none kV j F an Z ct) ⟨us,[]⟩=pure (ps.zip us):=by
 obtain⟨po,y,va,ko,kd,ka,df⟩:=a;unfold argB at h;simp only[Yaq,List.isEmpty_iff,Option.isNone_iff_eq_none,beq_iff_eq]at h;obtain⟨⟨⟨⟨rfl,rfl⟩,rfl⟩,rfl⟩,rfl⟩:=h;obtain⟨L,I⟩:=jnY z nd;have Y:(List.filter (λn=>(YbF n ((y.map (·.arg)).zip us)).isNone) (y.map (·.arg)))=[]:=List.filter_eq_nil_iff.mpr λn O=>by
  have:=I n O
  simp_all
 have e0:seqItems? YbI=pure none:=rfl;unfold bindArgs;dsimp only;rw[e0];generalize y.map (·.arg)=ns at *;have J:ns.take (ns.length-0)=ns:=by simp_all
 simp[z,L,Y,J]

abbrev FL:=List (Addr×Addr×Value)
noncomputable def refB  (v:Option (Option Value))(f:Addr):Bool:=match v with
 |some (some (.ref a))=>a==f
 |_=>false
def jgU    (h:refB v f=true):v=some (some (.ref f)):=by
 unfold refB at h
 lia
noncomputable def dynB  (T:Tab)(K:Yae):Nat->FL->List Fun->List Stmt->Bool
 |_,[],[],[]=>true
 |i,x::fs,d::ds,s::ss=>refB (Ybe K YaJ d.name) x.1&&YbB K (.ref x.2.1) d.name&&(match T.ns.lookup i with|none=>true|some z=>jgu K (.ref x.2.1) z.P)&&argB d.ps (jbs s)&&dynB T K (i+1) fs ds ss
 |_,_,_,_=>false
noncomputable def lkR  : FL->List Fun->List Stmt->List (Option Obj)
 |x::fs,d::ds,s::ss=>some (Y.fO d.name d.name s x.2.2 x.2.1)::lkR fs ds ss
 |_,_,_=>[]
theorem jiX  {T:Tab}:∀{i } {fs } {ds } {j },dynB T K i fs ds j=true->fs.map (λx=>K.lookup x.1)=lkR fs ds j->∀{n } {d } {s },ds[n]?=some d->j[n]?=some s->
  ∃x:Addr×Addr×Value,Ybe K YaJ d.name=some (some (.ref x.1))/\K.lookup x.1=some (Y.fO d.name d.name s x.2.2 x.2.1)/\YbB K (.ref x.2.1) d.name=true/\(∀z,T.ns.lookup (i+n)=some z->jgu K (.ref x.2.1) z.P=true)/\argB d.ps (jbs s)=true
 |_,_,[],_,_,_,_,_,_,e,_=>by simp at e
 |_,_,_::_,[],_,_,_,_,_,_,e=>by simp at e
 |_,[],_::_,_::_,h,_,_,_,_,_,_=>by unfold dynB at h;cases h
 |i,x::fs,d::ds,s::j,h,g,n,d',s',e1,e2=>by
  unfold dynB at h;simp only[Yaq]at h;obtain⟨⟨⟨⟨O,L⟩,Z⟩,I⟩,J⟩:=h;unfold lkR at g;rw[YaO]at g;injection g with g1 g2
  cases n with
  |zero=>
   cases(Yaw e1:d=d');cases(Yaw e2:s=s');exact⟨x,jgU O,g1,L,λz F=>by lia,I⟩
  |succ n=>
   obtain⟨y,q1,q2,q3,q4,q5⟩:=jiX J g2 (n:=n) e1 e2;exact⟨y,q1,q2,q3,λz F=>q4 z (by rw[show i+1+n=i+(n+1) by lia];exact F),q5⟩
def jlA    (h:scB N ps j=true):ps.Nodup:=by
 have S:=jlq h;rw[<- S.pre];exact S.nd.sublist (Yf9 _ _)
def jgf        (h:K.lookup f=some ⟨c,d,.func j,y⟩):Ybv K (.ref f)=true:=by
 unfold Ybv
 lia
section
variable {T:Tab}{K:Yae}{h:Heap}{mg:Str->Option Value}
def joz   {sts:List Stmt}(X:K.In h)(G:h.Ns YaJ mg)(j:jeM T 0 T.funs sts=true)(y:jfg T sts 0 T.funs sts)(hB:dynB T K 0 fs T.funs sts=true)(L:fs.map (λx=>K.lookup x.1)=lkR fs T.funs sts):Dyn T K mg sts:=by
 intro n d st J I;obtain⟨x,q1,q2,q3,q4,q5⟩:=jiX hB L J I;have F:=jiS (st:=st) q2 q3 (jgf q2);obtain⟨Y,e,O,_⟩:=jdF j y J;cases I.symm.trans e;exact⟨_,_,F,YcY X G q1,F.binds λ_ _ _ _ _ _ us Z=>jgw q5 (jlA O) Z,λz hz=>q4 z (by lia)⟩
def bltB  (K:Yae):Bool:=jcT.all λx=>match Ybe K YaJ x with
 |some none=>true
 |_=>false
def joK  (X:K.In h)(G:h.Ns YaJ mg)(y:bltB K=true):∀x∈jcT,mg x=none:=λx j=>by
 have:=List.all_eq_true.mp y x j;refine PySem.W.mg_none_of X G ?_
 lia
noncomputable def gsB  (K:Yae):List Str->List U->Bool
 |[],[]=>true
 |x::xs,u::us=>(match u,Ybe K YaJ x with
  |.int i,some (some (.int j _))=>i==j
  |.str i,some (some (.str j _))=>i==j
  |_,_=>false)&&gsB K xs us
 |_,_=>false
theorem joo  (X:K.In h)(G:h.Ns YaJ mg):∀{xs } {us },gsB K xs us=true->∀(n:Nat) x u ,xs[n]?=some x->us[n]?=some u->∃v w,mg x=some w/\RelV v w/\∀H,RU K H u v
 |[],_,_,_,_,_,e,_=>by simp at e
 |_::_,[],_,_,_,_,_,e=>by simp at e
 |x::xs,u::us,hb,n,x',u',e1,e2=>by
  unfold gsB at hb;rw[Yaq]at hb;cases n with
  |zero=>
   cases(Yaw e1:x=x');cases(Yaw e2:u=u');have y:=hb.1;split at y
   ·rename_i i j t q;cases eq_of_beq y;exact⟨.int i,_,YcY X G q,⟨_,rfl⟩,λ_=>rfl⟩
   ·rename_i i j t q;cases eq_of_beq y;exact⟨.str i,_,YcY X G q,⟨_,rfl⟩,λ_=>rfl⟩
   lia
  |succ n=>exact joo X G hb.2 n x' u' e1 e2
def CsA  (K:Yae):List Nat->Prop
 |[]=>True
 |n::r=>(∃C,XCls K (gK K) (clsN n) (clsF n) C)/\CsA K r
theorem joD  : ∀{l },CsA K l->∀n∈l,1<=n->∃C,XCls K (gK K) (clsN n) (clsF n) C
 |[],_,_,hn,_=>absurd hn Yak
 |m::r,hc,n,hn,h1=>by
  unfold CsA at hc;rcases Yap.mp hn with rfl|hn
  ·exact hc.1
  ·exact joD hc.2 n hn h1
def all2  {l:Yd7}{sts:List Stmt}{d:Fun}(X:K.In h)(G:h.Ns YaJ mg)(Y:mg "law" = some (.ref fa))(j:jeM T 0 T.funs sts=true)(y:jfg T sts 0 T.funs sts)
  (hU:∀t∈tabs,∀t'∈tabs,t.1=t'.1->t=t') (hB:dynB T K 0 fs T.funs sts=true) (hL:fs.map (λx=>K.lookup x.1)=lkR fs T.funs sts) (hb:bltB K=true) (hg:gsB K T.gn T.gs=true) (hc:CsA K T.cs)
  (hd:T.funs[n]?=some d) (hs:sts[n]?=some st) (hn:T.ns.lookup n=none) (I:d.name = "law") (z:d.ps=[("_law_script" : Str)]) :
  ∃fd ,(∀(s:Shared) v ,BindsTo s fd ⟨[v],[]⟩ [("_law_script",v)])/\∀base ,K.In base->base.Ns YaJ mg->BmAt mg base->FnOk l.prog w K mg base (CX1 l.prog w) (k+2) fa fd ["_law_script"] (lSp K (jab T k n)):=by
 have O:=joz X G j y hB hL;obtain⟨x,q1,q2,q3,q4,q5⟩:=jiX hB hL hd hs;obtain⟨xa,e,L,_⟩:=jdF j y hd;cases hs.symm.trans e;have F:=jiS (st:=st) q2 q3 (jgf q2);rw[I]at q1;cases Y.symm.trans (YcY X G q1);refine⟨Ya8 d.name d.name (jbs st) (jao st) (jag st) .none .none .none x.2.2 none (.ref x.2.1) .none,λs v=>.of_eq ((jgw (us:=[v]) q5 (jlA L) (by rw[z];rfl)).trans (by rw[z];rfl)),λbase J _ Z=>?_⟩
 rw[<- z];exact jhs F j y O hU J Z (joK X G hb) (joo X G hg) (joD hc) (jnV X G) hd hs hn
end

def jp3  (x:Str)(D N b t t':Nat)(u:List Value):Obj:=Y.cO x [.type "ValueError"] (.ref D::bmV) N u [some (.ref b),none,some (.str x t),some (.str x t'),some (.builtin "ValueError.__new__"),some (.bool true)]
def clsO  (x:Str)(C D N b t t':Nat):Obj:=Y.cO x [.ref D] (.ref C::.ref D::bmV) N [] [some (.ref b),none,some (.str x t),some (.str x t'),some (.builtin "ValueError.__new__"),some (.bool true)]
def xb_mk   D N b t t' u (l:K.lookup D=some (jp3 "PlanError" D N b t t' u))(h:(refB (Ybe K YaJ "PlanError") D&&Ybv K (.ref D)&&(jeq K N==some ksB)&&offB ksB && !ksB.contains ("__init__" : Str))=true):∃j,XBase K (gK K) D j:=by
 simp only[Yaq,Yc5]at h;obtain⟨⟨⟨⟨J,I⟩,y⟩,F⟩,z⟩:=h;exact jjn (jgU J) I l (eq_of_beq y) F z
def xc_mk   (B:∃mD,XBase K (gK K) D mD) x qual fs st (C N b t t' fI c:Nat)(m:Value)(l1:K.lookup C=some (clsO x C D N b t t'))(J:K.lookup fI=some (Y.fO "__init__" qual st m c))
  (h:(refB (Ybe K YaJ x) C&&Ybv K (.ref C)&&(jeq K N==some ksC)&&offB ksC&&refB (Ybe K N "__init__") fI&&YbB K (.ref c) qual&&scB (("self" : Str)::fs) ("self" :: fs) (jag st)&&((("self" : Str)::fs).all λy=>(jag st).names.lookup y==some .local)&&argB (("self" : Str)::fs) (jbs st))=true)
  (bd:(∃f I L O pos,fs=[f]/\jao st=[.Assign [.Attribute (.Name "self" I) f L] (.Name f O) pos])\/∃f j I L O pos q1 q2 q3 z,fs=[f,j]/\f≠j/\jao st=[.Assign [.Attribute (.Name "self" I) f L] (.Name f O) pos,.Assign [.Attribute (.Name "self" q1) j q2] (.Name j q3) z]):∃C,XCls K (gK K) x fs C:=by
 obtain⟨mD,B⟩:=B;simp only[Yaq]at h;obtain⟨⟨⟨⟨⟨⟨⟨⟨h1,h2⟩,h3⟩,h4⟩,h5⟩,h6⟩,Z⟩,h8⟩,h9⟩:=h;have F:=jiS (st:=st) J h6 (jgf J);exact⟨C,jk5 B (jgU h1) h2 l1 (eq_of_beq h3) h4 (jgU h5) F J Z (F.binds λ_ _ _ _ _ _ us hl=>jgw h9 (jlA Z) hl) h8 bd⟩
section
local macro_rules
 |`(#[])=>`(.nil)
 |`(#[$x])=>`(.cons $x .nil)
 |`(#[$x,$xs,*])=>`(.cons $x #[$xs,*])
noncomputable abbrev jce  : Nat:=0
noncomputable abbrev jdO  : Nat:=1
noncomputable abbrev jcx  : Nat:=2
noncomputable abbrev jbP  : Nat:=3
noncomputable abbrev jdJ  : Nat:=4
noncomputable abbrev jcK  : Nat:=5
noncomputable abbrev jem  : Nat:=6
noncomputable abbrev jbO  : Nat:=7
noncomputable abbrev jb6  : Nat:=8
noncomputable abbrev jdb  : Nat:=9
noncomputable abbrev jg3  : Nat:=10
noncomputable abbrev jen  : Nat:=11
noncomputable abbrev jdK  : Nat:=12
noncomputable abbrev jel  : Nat:=13
noncomputable abbrev jaa  : Nat:=14
noncomputable abbrev jdL  : Nat:=15
noncomputable abbrev jdM  : Nat:=16
noncomputable abbrev jb4  : Nat:=17
noncomputable abbrev jc2  : Nat:=18
noncomputable abbrev jek  : Nat:=19
noncomputable abbrev jdN  : Nat:=20
noncomputable abbrev jb5  : Nat:=21
noncomputable abbrev jcy  : Nat:=22
noncomputable abbrev jcl  : Nat:=23
noncomputable abbrev jaF  : Nat:=24
noncomputable abbrev jbd  : Nat:=25
noncomputable abbrev jco  : Nat:=26
noncomputable abbrev jdc  : Nat:=27
noncomputable abbrev jcn  : Nat:=28
noncomputable abbrev jcm  : Nat:=29
noncomputable abbrev jcz  : Nat:=30
noncomputable abbrev jdd  : Nat:=31
noncomputable abbrev jb3  : Nat:=32
noncomputable abbrev jbE  : Nat:=33
noncomputable abbrev jbC  : Nat:=34
noncomputable abbrev jbD  : Nat:=35
noncomputable abbrev jb2  : Nat:=36
noncomputable abbrev jl2  : Nat:=37
noncomputable def jez  : Fun:=⟨"is_whole",["thing"],["thing"],#[.ret (.bop true (.blt .isi #[.v 0,.ty "int"]) #[.not (.blt .isi #[.v 0,.ty "bool"])])]⟩
def jd6  : Fun:=⟨"is_within",["thing", "least", "most"],["thing", "least", "most"],#[.ret (.bop true (.call jce #[.v 0]) #[.cmp2 .LtE .LtE (.v 1) (.v 0) (.v 2)])]⟩
noncomputable def jdZ  : Fun:=⟨"length_of",["plan", "period", "beats", "s"],["plan", "period", "beats", "s", "word", "one", "other", "low", "high"],#[.asg (.t #[.n 4,.n 5,.n 6,.n 7,.n 8]) (.ix (.ix (.v 0) (.int 1)) (.v 3)),.ret (.bin .Add (.v 7) (.bin .Mod (.bin .Sub (.bin .Sub (.ix (.v 2) (.v 6)) (.ix (.v 2) (.v 5))) (.v 7)) (.v 1)))]⟩
def jd7  : Fun:=⟨"buffer_of",["plan", "period", "beats", "s"],["plan", "period", "beats", "s"],#[.ret (.bin .Sub (.call jcx #[.v 0,.v 1,.v 2,.v 3]) (.ix (.ix (.ix (.v 0) (.int 1)) (.v 3)) (.int 3)))]⟩
def jfG  : Fun:=⟨"step_of",["plan", "period", "beats", "s"],["plan", "period", "beats", "s", "word", "one", "other", "low", "high"],#[.asg (.t #[.n 4,.n 5,.n 6,.n 7,.n 8]) (.ix (.ix (.v 0) (.int 1)) (.v 3)),.ret (.bin .FloorDiv (.bin .Sub (.bin .Add (.ix (.v 2) (.v 5)) (.call jcx #[.v 0,.v 1,.v 2,.v 3])) (.ix (.v 2) (.v 6))) (.v 1))]⟩
def jcQ  : Fun:=⟨"is_late_row",["thing", "works"],["thing", "works"],#[.ite (.not (.bop true (.blt .isi #[.v 0,.ty "tuple"]) #[.cmp .Eq (.blt .len #[.v 0]) (.v 1)])) #[.ret (.bl false)] .nil,.ret (.blt .all #[.lc [none] (.n 0) (.e (.v 0)) .nil (.bop true (.call jce #[.v 0]) #[.cmp .GtE (.v 0) (.int 0)])])]⟩
def jeA  : Fun:=⟨"is_table",["thing", "works", "many"],["thing", "works", "many"],#[.ite (.not (.bop true (.blt .isi #[.v 0,.ty "tuple"]) #[.cmp .Eq (.blt .len #[.v 0]) (.v 2)])) #[.ret (.bl false)] .nil,.ret (.blt .all #[.lc [none,some 1] (.n 0) (.e (.v 0)) .nil (.call jcK #[.v 0,.v 1])])]⟩
noncomputable def jcP  : Fun:=⟨"late_places",["table"],["table"],#[.ret (.lc2 [none,none,none,none] (.t #[.n 0,.n 1]) (.enum (.v 0)) .nil (.t #[.n 2,.n 3]) (.enum (.v 1)) #[.cmp .Gt (.v 3) (.int 0)] (.tup #[.v 2,.v 0,.v 3]))]⟩
def jb8  : Fun:=⟨"is_late_paper",["thing", "works", "many"],["thing", "works", "many", "table", "chains"],#[.ite (.not (.bop true (.blt .isi #[.v 0,.ty "tuple"]) #[.cmp .Eq (.blt .len #[.v 0]) (.int 2)])) #[.ret (.bl false)] .nil,.asg (.t #[.n 3,.n 4]) (.v 0),(.ret (.bop true (.call jem #[.v 3,.v 1,.v 2]) #[.blt .isi #[.v 4,.ty "tuple"],.cmp .Eq (.blt .len #[.v 4]) (.blt .len #[.call jbO #[.v 3]])]))]⟩
def jdg  : Fun:=⟨"span_holds",["plan", "period", "beats", "many", "table", "s"],["plan", "period", "beats", "many", "table", "s", "word", "one", "other", "low", "high", "step", "buffer"],#[.asg (.t #[.n 6,.n 7,.n 8,.n 9,.n 10]) (.ix (.ix (.v 0) (.int 1)) (.v 5)),.asg (.n 11) (.call jdJ #[.v 0,.v 1,.v 2,.v 5]),.asg (.n 12) (.call jbP #[.v 0,.v 1,.v 2,.v 5]),.ret (.blt .all #[.lc [none,some 4,some 7,some 8,some 11,some 12] (.n 0) (.r1 (.bin .Sub (.v 3) (.v 11))) .nil (.cmp .GtE (.ix (.ix (.v 1) (.bin .Add (.v 0) (.v 4))) (.v 3)) (.bin .Sub (.ix (.ix (.v 1) (.v 0)) (.v 2)) (.v 5)))])]⟩
def jcD  : Ss:=#[.asg (.n 6) (.ix (.ix (.ix (.v 0) (.int 1)) (.v 9)) (.int 2)),.aug 7 .Add (.call jdJ #[.v 0,.v 1,.v 2,.v 9]),.aug 8 .Sub (.call jbP #[.v 0,.v 1,.v 2,.v 9])]
def jhi  : Fun:=⟨"led_to",["plan", "period", "beats", "waiting", "start", "row"],["plan", "period", "beats", "waiting", "start", "row", "work", "turn", "late", "s"],#[.asg (.t #[.n 6,.n 7,.n 8]) (.v 4),.fr (.n 9) (.e (.v 5)) (.cons (.ite (.not (.bop true (.call jce #[.v 9]) #[.cmp .In (.v 9) (.v 3),.cmp .Eq (.ix (.ix (.ix (.v 0) (.int 1)) (.v 9)) (.int 1)) (.v 6)])) #[.ret .non] .nil) jcD),.ret (.tup #[.v 6,.v 7,.v 8])]⟩
def jeB  : Fun:=⟨"is_chain",["plan", "period", "beats", "waiting", "given", "place", "thing"],["plan", "period", "beats", "waiting", "given", "place", "thing", "g", "row"],#[.ite (.not (.bop true (.blt .isi #[.v 6,.ty "tuple"]) #[.cmp .Eq (.blt .len #[.v 6]) (.int 2)])) #[.ret (.bl false)] .nil,.asg (.t #[.n 7,.n 8]) (.v 6),(.ite (.not (.bop true (.call jdO #[.v 7,.int 0,.bin .Sub (.blt .len #[.v 4]) (.int 1)]) #[.blt .isi #[.v 8,.ty "tuple"],.cmp .LtE (.blt .len #[.v 8]) (.g 0)])) #[.ret (.bl false)] .nil),.ret (.cmp .Eq (.call jg3 #[.v 0,.v 1,.v 2,.v 3,.ix (.v 4) (.v 7),.v 8]) (.v 5))]⟩
def jbH  : Ss:=#[.fr (.t #[.n 9,.n 14]) (.enum (.call jbO #[.v 7])) #[.ite (.not (.call jen #[.v 0,.v 1,.v 2,.v 3,.v 4,.v 14,.ix (.v 8) (.v 9)])) #[.raise 1 #[.str "chain",.v 9]] .nil],.ret (.bl true)]
def jbI  : Ss:=(.cons (.fr (.n 13) (.e (.v 3)) #[.ite (.not (.call jdb #[.v 0,.v 1,.v 2,.v 5,.v 7,.v 13])) #[.raise 1 #[.str "span",.v 13]] .nil]) jbH)
def jbJ  : Ss:=(.cons (.fr (.t #[.n 9,.t #[.n 10,.n 11,.n 12]]) (.enum (.v 4)) #[.ite (.cmp .Lt (.ix (.ix (.v 7) (.v 11)) (.v 10)) (.v 12)) #[.raise 1 #[.str "given",.v 9]] .nil]) jbI)
def jdY  : Fun:=⟨"lets_late",["plan", "period", "beats", "waiting", "given", "many", "thing"],["plan", "period", "beats", "waiting", "given", "many", "thing", "table", "chains", "k", "work", "turn", "late", "s", "place"],(.cons (.ite (.not (.call jb6 #[.v 6,.blt .len #[.ix (.v 0) (.int 0)],.v 5])) #[.raise 1 #[.str "shape",.int 0]] .nil) (.cons (.asg (.t #[.n 7,.n 8]) (.v 6)) jbJ))⟩
noncomputable def jex  : Fun:=⟨"_law_feed",["_law_script"],["_law_script"],#[(.ret (.dic #[.str "cells",.bin .Add (.mkL (.sl (.v 0) .no (.so (.int 63)))) (.bin .Mult (.lst #[.int 0]) (.blt .int #[.cmp .Eq (.blt .len #[.v 0]) (.int 0)])),.str "at",.int 0,.str "left",.int 0,.str "turn",.int 0]))]⟩
noncomputable def jey  : Fun:=⟨"_law_draw",["_law_feed_here", "_law_many"],["_law_feed_here", "_law_many", "_law_cell", "_law_mixed", "_law_found"],#[.setS (.v 0) (.str "turn") (.bin .Add (.ix (.v 0) (.str "turn")) (.int 1)),(.ite (.cmp .Eq (.ix (.v 0) (.str "left")) (.int 0)) #[.asg (.n 2) (.ix (.ix (.v 0) (.str "cells")) (.bin .Mod (.ix (.v 0) (.str "at")) (.blt .len #[.ix (.v 0) (.str "cells")]))),.setS (.v 0) (.str "at") (.bin .Add (.ix (.v 0) (.str "at")) (.int 1)),.ite (.cmp .Lt (.v 2) (.bin .Pow (.int 10) (.int 18))) #[.asg (.n 3) (.bin .Mod (.bin .Mult (.bin .Add (.bin .Mod (.v 2) (.int 2147483629)) (.bin .Mult (.int 1013) (.ix (.v 0) (.str "turn")))) (.int 48271)) (.int 2147483647)),.asg (.n 3) (.bin .Mod (.bin .Mult (.bin .Add (.bin .FloorDiv (.v 3) (.int 64)) (.bin .Mult (.int 41) (.ix (.v 0) (.str "turn")))) (.int 69621)) (.int 2147483587)),.ret (.bin .Mod (.bin .FloorDiv (.v 3) (.int 64)) (.v 1))] .nil,.setS (.v 0) (.str "left") (.v 2)] .nil),.asg (.n 4) (.bin .Mod (.ix (.v 0) (.str "left")) (.v 1)),.setS (.v 0) (.str "left") (.bin .FloorDiv (.ix (.v 0) (.str "left")) (.v 1)),.ret (.v 4)]⟩
def jd3  : Fun:=⟨"_law_names",["_law_feed_here", "_law_many"],["_law_feed_here", "_law_many", "_law_menu", "_law_first", "_law_step", "_law_names_here", "_law_signs"],#[.asg (.n 2) (.lst #[.str "a",.str "ab",.str "abc",.str "works",.str "span",.str "apart",.str "none",.str "round",.str "held",.str "zzzzzzzz",.str "undo",.str "b",.str "ba",.str "plan"]),.expr (.meth .append (.v 2) #[.str "x"]),.asg (.n 3) (.call jaa #[.v 0,.int 15]),.asg (.n 4) (.ix (.lst #[.int 1,.int 2,.int 4,.int 7,.int 8,.int 11,.int 13,.int 14]) (.call jaa #[.v 0,.int 8])),.asgC 5 (.lc [none,some 2,some 3,some 4] (.n 0) (.r1 (.v 1)) .nil (.ix (.v 1) (.bin .Mod (.bin .Add (.v 2) (.bin .Mult (.v 3) (.v 0))) (.int 15)))),(.ite (.cmp .Eq (.call jaa #[.v 0,.int 3]) (.int 0)) #[.asgC 6 (.lc [none,some 0] (.n 0) (.r1 (.bin .Add (.int 1) (.call jaa #[.v 0,.int 8]))) .nil (.ix (.str "abcdefghijklmnopqrstuvwxyz") (.call jaa #[.v 1,.int 26]))),.ite (.cmp .NotIn (.meth .join (.str "") #[.v 6]) (.v 5)) #[.setS (.v 5) (.call jaa #[.v 0,.v 1]) (.meth .join (.str "") #[.v 6])] .nil] .nil),.ret (.mkT (.v 5))]⟩
def jd4  : Fun:=⟨"_law_cycle",["_law_feed_here"],["_law_feed_here"],#[.ret (.ix (.lst #[.int 1,.int 2,.int 3,.int 4,.int 5,.int 6,.int 7,.int 8,.int 10,.int 12,.int 30,.int 60,.int 120,.int 600]) (.call jaa #[.v 0,.int 14]))]⟩
def jdh  : Fun:=⟨"_law_number",["_law_feed_here", "_law_cycle_here"],["_law_feed_here", "_law_cycle_here", "_law_way"],#[.asg (.n 2) (.call jaa #[.v 0,.int 6]),.ite (.cmp .Lt (.v 2) (.int 3)) #[.ret (.call jaa #[.v 0,.bin .Add (.v 1) (.int 1)])] .nil,.ite (.cmp .Eq (.v 2) (.int 3)) #[.ret (.ix (.lst #[.int 0,.int 1,.v 1,.bin .Sub (.bin .Mult (.int 2) (.v 1)) (.int 1),.bin .Mult (.int 2) (.v 1)]) (.call jaa #[.v 0,.int 5]))] .nil,.ret (.call jaa #[.v 0,.ix (.lst #[.bin .Add (.bin .Mult (.int 3) (.v 1)) (.int 1),.int 10000]) (.bin .Sub (.v 2) (.int 4))])]⟩
def jev  : Fun:=⟨"_law_span",["_law_feed_here", "_law_one", "_law_other", "_law_cycle_here"],["_law_feed_here", "_law_one", "_law_other", "_law_cycle_here", "_law_low", "_law_more"],#[.asg (.n 4) (.call jb4 #[.v 0,.v 3]),.ite (.cmp .Eq (.call jaa #[.v 0,.int 4]) (.int 0)) #[.ret (.tup #[.str "apart",.v 1,.v 2,.v 4,.call jb4 #[.v 0,.v 3]])] .nil,.asg (.n 5) (.ix (.lst #[.int 0,.int 0,.int 1,.int 2,.bin .FloorDiv (.v 3) (.int 2),.bin .Sub (.v 3) (.int 1),.bin .Mult (.int 3) (.v 3),.int 9999]) (.call jaa #[.v 0,.int 8])),.ret (.tup #[.str "span",.v 1,.v 2,.v 4,.blt .min #[.int 9999,.bin .Add (.v 4) (.v 5)]])]⟩
def jew  : Fun:=⟨"_law_plan",["_law_feed_here", "_law_cycle_here"],["_law_feed_here", "_law_cycle_here", "_law_works", "_law_names_here", "_law_spans", "_law_k"],#[.asg (.n 2) (.ix (.lst #[.int 1,.int 2,.int 2,.int 3,.int 3,.int 4,.int 5,.int 8]) (.call jaa #[.v 0,.int 8])),.asg (.n 3) (.call jdL #[.v 0,.v 2]),.asg (.n 4) (.lst .nil),(.fr (.n 5) (.r1 (.ix (.lst #[.int 0,.int 1,.int 2,.int 3,.int 4,.int 6,.int 9,.int 24]) (.call jaa #[.v 0,.int 8]))) #[(.ite (.bop true (.cmp .NotEq (.v 4) (.lst .nil)) #[.cmp .Eq (.call jaa #[.v 0,.int 9]) (.int 0)]) #[.expr (.meth .append (.v 4) #[.ix (.v 4) (.call jaa #[.v 0,.blt .len #[.v 4]])])] #[(.expr (.meth .append (.v 4) #[(.call jc2 #[.v 0,.call jaa #[.v 0,.v 2],.call jaa #[.v 0,.v 2],.v 1])]))])]),.ret (.tup #[.v 3,.mkT (.v 4)])]⟩
def jd5  : Fun:=⟨"_law_beats",["_law_feed_here", "_law_works", "_law_cycle_here"],["_law_feed_here", "_law_works", "_law_cycle_here"],#[.ret (.mkT (.lc [none,some 0,some 2] (.n 0) (.r1 (.v 1)) .nil (.call jaa #[.v 1,.v 2])))]⟩
noncomputable def jfI  : Fun:=⟨"_law_leg",["_law_plan_here", "_law_cycle_here", "_law_beats_here", "_law_s"],["_law_plan_here", "_law_cycle_here", "_law_beats_here", "_law_s", "_law_word", "_law_one", "_law_other", "_law_low", "_law_high", "_law_step"],#[.asg (.t #[.n 4,.n 5,.n 6,.n 7,.n 8]) (.ix (.ix (.v 0) (.int 1)) (.v 3)),.asg (.n 9) (.bin .Sub (.int 0) (.bin .FloorDiv (.bin .Sub (.bin .Sub (.ix (.v 2) (.v 6)) (.ix (.v 2) (.v 5))) (.v 7)) (.v 1))),.ret (.tup #[.v 9,.bin .Sub (.bin .Sub (.bin .Add (.ix (.v 2) (.v 6)) (.bin .Mult (.v 9) (.v 1))) (.ix (.v 2) (.v 5))) (.v 7)])]⟩
def jbK  : Ss:=#[(.asg (.n 5) (.call jdN #[.v 0,.blt .len #[.v 2],.v 1])),.asg (.n 6) (.mkT (.lc [none,some 0] (.n 0) (.r1 (.blt .len #[.v 3])) #[.cmp .Gt (.call jaa #[.v 1,.int 6]) (.int 0)] (.v 0))),.asg (.n 7) (.ix (.lst #[.int 1,.int 2,.int 3,.int 5,.int 8,.int 12]) (.call jaa #[.v 0,.int 6])),.asg (.n 8) (.lst .nil),(.fr (.n 9) (.r1 (.ix (.lst #[.int 1,.int 1,.int 2,.int 3,.int 0,.int 12]) (.call jaa #[.v 0,.int 6]))) #[.asg (.n 10) (.ix (.lst #[.int 0,.int 1,.int 2,.int 5,.v 1,.bin .Add (.bin .Mult (.int 2) (.v 1)) (.int 3),.int 999,.call jaa #[.v 0,.int 1000]]) (.call jaa #[.v 0,.int 8])),(.expr (.meth .append (.v 8) #[(.tup #[.call jaa #[.v 0,.blt .len #[.v 2]],.call jaa #[.v 0,.v 7],.blt .min #[.int 999,.v 10]])]))]),(.ret (.tup #[.tup #[.v 2,.v 3],.v 1,.v 5,.v 6,.mkT (.v 8),.v 7]))]
def jd0  : Fun:=⟨"_law_world",["_law_feed_here"],["_law_feed_here", "_law_cycle_here", "_law_names_here", "_law_spans", "_law_work", "_law_beats_here", "_law_waiting", "_law_many", "_law_given", "_law_k", "_law_number_here"],(.cons (.asg (.n 1) (.call jdM #[.v 0])) (.cons (.asg (.t #[.n 2,.n 3]) (.call jek #[.v 0,.v 1])) (.cons (.ite (.bop true (.cmp .Lt (.blt .len #[.v 3]) (.int 24)) #[.cmp .Eq (.call jaa #[.v 0,.int 4]) (.int 0)]) #[.asg (.n 4) (.call jaa #[.v 0,.blt .len #[.v 2]]),.asg (.n 3) (.bin .Add (.v 3) (.tup #[.tup #[.str "span",.v 4,.v 4,.int 0,.int 5]]))] .nil) jbK)))⟩
noncomputable def jaS  : Ss:=#[.ret (.mkT (.lc [none] (.n 0) (.e (.v 7)) .nil (.mkT (.v 0))))]
noncomputable def jba  : Ss:=#[.asgC 12 (.lc [none] (.n 0) (.e (.v 7)) .nil (.mkL (.v 0))),.fr (.t #[.n 13,.n 14,.n 15,.n 16]) (.e (.v 11)) #[.fr (.n 9) (.r1 (.bin .Sub (.v 6) (.v 15))) #[.setS (.ix (.v 7) (.bin .Add (.v 9) (.v 15))) (.v 14) (.blt .max #[.ix (.ix (.v 7) (.bin .Add (.v 9) (.v 15))) (.v 14),.bin .Sub (.ix (.ix (.v 7) (.v 9)) (.v 13)) (.v 16)])]]]
def jbT  : Ss:=(.cons (.wh (.cmp .NotEq (.v 7) (.v 12)) jba) jaS)
def jbU  : Ss:=(.cons (.asg (.n 12) .non) jbT)
def jbV  : Ss:=(.cons (.asgC 11 (.lc [none,some 1,some 2,some 3] (.n 0) (.e (.v 4)) .nil (.bin .Add (.sl (.ix (.ix (.v 1) (.int 1)) (.v 0)) (.so (.int 1)) (.so (.int 3))) (.call jb5 #[.v 1,.v 2,.v 3,.v 0])))) jbU)
def jcq  : Fun:=⟨"_law_lateness",["_law_world_here"],["_law_world_here", "_law_plan_here", "_law_cycle_here", "_law_beats_here", "_law_waiting", "_law_given", "_law_many", "_law_table", "_law_work", "_law_turn", "_law_number_here", "_law_legs", "_law_last", "_law_one", "_law_other", "_law_step", "_law_spare"],(.cons (.asg (.t #[.n 1,.n 2,.n 3,.n 4,.n 5,.n 6]) (.v 0)) (.cons (.asgC 7 (.lc [none,some 1] (.n 0) (.r1 (.v 6)) .nil (.bin .Mult (.lst #[.int 0]) (.blt .len #[.ix (.v 1) (.int 0)])))) (.cons (.fr (.t #[.n 8,.n 9,.n 10]) (.e (.v 5)) #[.setS (.ix (.v 7) (.v 9)) (.v 8) (.blt .max #[.ix (.ix (.v 7) (.v 9)) (.v 8),.v 10])]) jbV)))⟩
noncomputable def jct  : Fun:=⟨"_law_is_whole",["_law_thing"],["_law_thing"],#[.ret (.bop true (.blt .isi #[.v 0,.ty "int"]) #[.not (.blt .isi #[.v 0,.ty "bool"])])]⟩
noncomputable def jd1  : Fun:=⟨"_law_spots",["_law_table"],["_law_table", "_law_found", "_law_turn"],#[.asg (.n 1) (.lst .nil),.fr (.n 2) (.r1 (.blt .len #[.v 0])) #[.expr (.meth .extend (.v 1) #[.lc [none,some 0,some 2] (.n 0) (.r1 (.blt .len #[.ix (.v 0) (.v 2)])) #[.cmp .Gt (.ix (.ix (.v 1) (.v 2)) (.v 0)) (.int 0)] (.tup #[.v 2,.v 0])])],.ret (.v 1)]⟩
def jcu  : Fun:=⟨"_law_is_table",["_law_works", "_law_many", "_law_thing"],["_law_works", "_law_many", "_law_thing", "_law_row"],#[.ite (.bop false (.not (.blt .isi #[.v 2,.ty "tuple"])) #[.cmp .NotEq (.blt .len #[.v 2]) (.v 1)]) #[.ret (.bl false)] .nil,(.fr (.n 3) (.e (.v 2)) #[.ite (.bop false (.not (.blt .isi #[.v 3,.ty "tuple"])) #[.cmp .NotEq (.blt .len #[.v 3]) (.v 0)]) #[.ret (.bl false)] .nil,.ite (.cmp .NotEq (.lc [none] (.n 0) (.e (.v 3)) #[.bop false (.not (.call jaF #[.v 0])) #[.cmp .Lt (.v 0) (.int 0)]] (.v 0)) (.lst .nil)) #[.ret (.bl false)] .nil]),.ret (.bl true)]⟩
def jbA  : Ss:=#[.asg (.t #[.n 13,.n 14]) (.call jb5 #[.v 3,.v 4,.v 5,.v 12]),.par [9,10,11] #[.ix (.ix (.ix (.v 3) (.int 1)) (.v 12)) (.int 2),.bin .Add (.v 10) (.v 13),.bin .Sub (.v 11) (.v 14)]]
def jci  : Ss:=#[.asg (.t #[.n 9,.n 10,.n 11]) (.ix (.v 7) (.ix (.v 2) (.int 0))),.fr (.n 12) (.e (.ix (.v 2) (.int 1))) (.cons (.ite (.bop false (.not (.call jaF #[.v 12])) #[.cmp .NotIn (.v 12) (.v 6),.cmp .NotEq (.ix (.ix (.ix (.v 3) (.int 1)) (.v 12)) (.int 1)) (.v 9)]) #[.ret (.bl false)] .nil) jbA),.ret (.cmp .Eq (.tup #[.v 10,.v 9,.v 11]) (.v 1))]
def jcj  : Ss:=(.cons (.ite (.bop false (.not (.cmp2 .LtE .Lt (.int 0) (.ix (.v 2) (.int 0)) (.blt .len #[.v 7]))) #[.not (.blt .isi #[.ix (.v 2) (.int 1),.ty "tuple"]),.cmp .Gt (.blt .len #[.ix (.v 2) (.int 1)]) (.int 100)]) #[.ret (.bl false)] .nil) jci)
def jdi  : Fun:=⟨"_law_is_led",["_law_world_here", "_law_due", "_law_thing"],["_law_world_here", "_law_due", "_law_thing", "_law_plan_here", "_law_cycle_here", "_law_beats_here", "_law_waiting", "_law_given", "_law_many", "_law_work", "_law_turn", "_law_number_here", "_law_s", "_law_step", "_law_spare"],(.cons (.asg (.t #[.n 3,.n 4,.n 5,.n 6,.n 7,.n 8]) (.v 0)) (.cons (.ite (.bop false (.not (.blt .isi #[.v 2,.ty "tuple"])) #[.cmp .NotEq (.blt .len #[.v 2]) (.int 2),.not (.call jaF #[.ix (.v 2) (.int 0)])]) #[.ret (.bl false)] .nil) jcj))⟩
def jaT  : Ss:=#[(.fr (.n 17) (.r1 (.blt .len #[.v 10])) #[.asg (.t #[.n 18,.n 19]) (.ix (.v 10) (.v 17)),(.ite (.not (.call jdc #[.v 0,.tup #[.v 18,.v 19,.ix (.ix (.v 8) (.v 18)) (.v 19)],.ix (.v 9) (.v 17)])) #[.ret (.tup #[.str "chain",.v 17])] .nil)]),.ret (.bl true)]
def jaU  : Ss:=(.cons (.fr (.n 12) (.e (.v 5)) #[.asg (.t #[.n 13,.n 14]) (.sl (.ix (.ix (.v 2) (.int 1)) (.v 12)) (.so (.int 1)) (.so (.int 3))),.asg (.t #[.n 15,.n 16]) (.call jb5 #[.v 2,.v 3,.v 4,.v 12]),.ite (.cmp .NotEq (.lc [none,some 8,some 13,some 14,some 15,some 16] (.n 0) (.r1 (.bin .Sub (.v 7) (.v 15))) #[.cmp .Lt (.ix (.ix (.v 1) (.bin .Add (.v 0) (.v 4))) (.v 3)) (.bin .Sub (.ix (.ix (.v 1) (.v 0)) (.v 2)) (.v 5))] (.v 0)) (.lst .nil)) #[.ret (.tup #[.str "span",.v 12])] .nil]) jaT)
def jaV  : Ss:=(.cons (.asgC 11 (.lc [none,some 6,some 8] (.n 0) (.r1 (.blt .len #[.v 6])) #[.cmp .Lt (.ix (.ix (.v 2) (.ix (.ix (.v 1) (.v 0)) (.int 1))) (.ix (.ix (.v 1) (.v 0)) (.int 0))) (.ix (.ix (.v 1) (.v 0)) (.int 2))] (.v 0))) (.cons (.ite (.cmp .NotEq (.v 11) (.lst .nil)) #[.ret (.tup #[.str "given",.ix (.v 11) (.int 0)])] .nil) jaU))
def jbW  : Ss:=(.cons (.asg (.n 10) (.call jbd #[.v 8])) (.cons (.ite (.bop false (.not (.blt .isi #[.v 9,.ty "tuple"])) #[.cmp .NotEq (.blt .len #[.v 9]) (.blt .len #[.v 10])]) #[.ret (.tup #[.str "shape",.int 0])] .nil) jaV))
def jcs  : Fun:=⟨"_law_late_due",["_law_world_here", "_law_thing"],["_law_world_here", "_law_thing", "_law_plan_here", "_law_cycle_here", "_law_beats_here", "_law_waiting", "_law_given", "_law_many", "_law_table", "_law_chains_here", "_law_spots_here", "_law_low", "_law_s", "_law_one", "_law_other", "_law_step", "_law_spare", "_law_k", "_law_turn", "_law_work"],(.cons (.asg (.t #[.n 2,.n 3,.n 4,.n 5,.n 6,.n 7]) (.v 0)) (.cons (.ite (.bop false (.not (.blt .isi #[.v 1,.ty "tuple"])) #[.cmp .NotEq (.blt .len #[.v 1]) (.int 2),(.not (.call jco #[.blt .len #[.ix (.v 2) (.int 0)],.v 7,.ix (.v 1) (.int 0)]))]) #[.ret (.tup #[.str "shape",.int 0])] .nil) (.cons (.asg (.t #[.n 8,.n 9]) (.v 1)) jbW)))⟩
def jcr  : Fun:=⟨"_law_late_let",["_law_world_here", "_law_thing"],["_law_world_here", "_law_thing", "_law_plan_here", "_law_cycle_here", "_law_beats_here", "_law_waiting", "_law_given", "_law_many", "_law_found", "e", "_law_others"],#[.asg (.t #[.n 2,.n 3,.n 4,.n 5,.n 6,.n 7]) (.v 0),.asg (.n 8) .non,(.tr #[.asg (.n 8) (.call jdK #[.v 2,.v 3,.v 4,.v 5,.v 6,.v 7,.v 1])] 0 9 [.asg 8 (.one (.str "other")),.asg 10 (.cond false (false,.isi [3,5,4,2]) [(true,.isiV)]),.ifa true (false,.is1 1) [(true,.v 10)] 8 (.tup [(.att "word"),(.att "at")])]),.ret (.v 8)]⟩
def jd2  : Fun:=⟨"_law_order",["_law_feed_here", "_law_things"],["_law_feed_here", "_law_things", "_law_left", "_law_found"],#[.asg (.n 2) (.mkL (.v 1)),.asg (.n 3) (.lst .nil),.wh (.cmp .NotEq (.v 2) (.lst .nil)) #[.expr (.meth .append (.v 3) #[.meth .pop (.v 2) #[.call jaa #[.v 0,.blt .len #[.v 2]]]])],.ret (.v 3)]⟩
def jbn  : Ss:=#[.ret (.lc [none,some 9] (.n 0) (.e (.call jbd #[.v 2])) .nil (.ix (.v 1) (.v 0)))]
noncomputable def jax  : Ss:=#[.asg (.n 13) (.bin .Sub (.ix (.ix (.v 2) (.v 12)) (.v 17)) (.v 20)),.asg (.n 21) (.bop true (.cmp .In (.tup #[.v 12,.v 17]) (.v 9)) #[.cmp .NotIn (.tup #[.bin .Add (.v 12) (.v 19),.v 18]) (.v 9)]),(.ite (.bop true (.v 21) #[.cmp .Gt (.v 13) (.int 0),.cmp .Eq (.ix (.ix (.v 2) (.bin .Add (.v 12) (.v 19))) (.v 18)) (.v 13)]) #[.asg (.t #[.n 10,.n 22]) (.ix (.v 9) (.tup #[.v 12,.v 17])),.setS (.v 9) (.tup #[.bin .Add (.v 12) (.v 19),.v 18]) (.tup #[.v 10,.bin .Add (.v 22) (.tup #[.v 16])]),.asg (.n 15) (.bl true)] .nil)]
def jaB  : Ss:=#[.fr (.n 12) (.r1 (.bin .Sub (.v 8) (.v 19))) jax]
def jaN  : Ss:=#[.fr (.t #[.n 16,.n 17,.n 18,.n 19,.n 20]) (.e (.v 14)) jaB]
def jbo  : Ss:=(.cons (.wh (.v 15) (.cons (.asg (.n 15) (.bl false)) jaN)) jbn)
def jbp  : Ss:=(.cons (.asgC 14 (.lc [none,some 3,some 4,some 5] (.n 0) (.e (.call jcz #[.v 0,.v 6])) .nil (.bin .Add (.bin .Add (.tup #[.v 0]) (.sl (.ix (.ix (.v 1) (.int 1)) (.v 0)) (.so (.int 1)) (.so (.int 3)))) (.call jb5 #[.v 1,.v 2,.v 3,.v 0])))) (.cons (.asg (.n 15) (.bl true)) jbo))
def jbq  : Ss:=(.cons (.fr (.n 10) (.e (.call jcz #[.v 0,.rngL (.blt .len #[.v 7])])) #[.asg (.t #[.n 11,.n 12,.n 13]) (.ix (.v 7) (.v 10)),.ite (.bop true (.cmp .Gt (.v 13) (.int 0)) #[.cmp .Eq (.ix (.ix (.v 2) (.v 12)) (.v 11)) (.v 13)]) #[.setS (.v 9) (.tup #[.v 12,.v 11]) (.tup #[.v 10,.tup .nil])] .nil]) jbp)
def jdj  : Fun:=⟨"_law_chains",["_law_feed_here", "_law_world_here", "_law_table"],["_law_feed_here", "_law_world_here", "_law_table", "_law_plan_here", "_law_cycle_here", "_law_beats_here", "_law_waiting", "_law_given", "_law_many", "_law_known", "_law_g", "_law_work", "_law_turn", "_law_number_here", "_law_legs", "_law_grows", "_law_s", "_law_one", "_law_other", "_law_step", "_law_spare", "_law_is_fresh", "_law_row"],(.cons (.asg (.t #[.n 3,.n 4,.n 5,.n 6,.n 7,.n 8]) (.v 1)) (.cons (.asg (.n 9) .dicT) jbq))⟩
def jfH  : Fun:=⟨"_law_odd",["_law_feed_here"],["_law_feed_here", "_law_some"],#[(.asg (.n 1) (.lst #[.non,.bl true,.bl false,.int 0,.int 1,.neg (.int 1),.int 2,.int 99,.bin .Pow (.int 10) (.int 30),.str "",.str "a",.str "ring",.tup .nil,.tup #[.int 0],.lst .nil,.lst #[.int 0],.tup #[.tup .nil,.tup .nil],.tup #[.int 0,.tup .nil]])),.ret (.ix (.v 1) (.call jaa #[.v 0,.int 18]))]⟩
def jc7  : Ss:=#[.asg (.n 3) (.lst #[.call jb3 #[.v 0]]),(.ite (.call jaF #[.v 1]) #[(.asg (.n 3) (.lst #[.bin .Add (.v 1) (.int 1),.bin .Sub (.v 1) (.int 1),.cmp .Eq (.v 1) (.int 1),.blt .str #[.v 1],.int 0,.call jb3 #[.v 0]]))] .nil),.ret (.ix (.v 3) (.call jaa #[.v 0,.blt .len #[.v 3]]))]
def jaR  : Ss:=(.cons (.ite (.blt .isi #[.v 1,.ty "tuple"]) #[.asg (.n 2) (.call jaa #[.v 0,.bin .Add (.blt .len #[.v 1]) (.int 1)]),.asg (.n 3) (.lst #[.mkL (.v 1),.bin .Add (.sl (.v 1) .no (.so (.v 2))) (.sl (.v 1) (.so (.bin .Add (.v 2) (.int 1))) .no),.bin .Add (.bin .Add (.sl (.v 1) .no (.so (.v 2))) (.sl (.v 1) (.so (.v 2)) (.so (.bin .Add (.v 2) (.int 1))))) (.sl (.v 1) (.so (.v 2)) .no),.rev (.v 1) (.neg (.int 1))]),(.ret (.ix (.bin .Add (.v 3) (.lst #[.bin .Add (.v 1) (.tup #[.call jb3 #[.v 0]]),.call jb3 #[.v 0]])) (.call jaa #[.v 0,.int 6])))] .nil) jc7)
def jc6  : Fun:=⟨"_law_bent",["_law_feed_here", "_law_thing"],["_law_feed_here", "_law_thing", "_law_at", "_law_some"],(.cons (.ite (.bop true (.blt .isi #[.v 1,.ty "tuple"]) #[.cmp .NotEq (.v 1) (.tup .nil),.cmp .Gt (.call jaa #[.v 0,.int 6]) (.int 0)]) #[.asg (.n 2) (.call jaa #[.v 0,.blt .len #[.v 1]]),.ret (.bin .Add (.bin .Add (.sl (.v 1) .no (.so (.v 2))) (.tup #[.call jbE #[.v 0,.ix (.v 1) (.v 2)]])) (.sl (.v 1) (.so (.bin .Add (.v 2) (.int 1))) .no))] .nil) jaR)⟩
def jaG  : Ss:=#[.ret (.tup #[.v 8,.mkT (.lc [none,some 9] (.n 0) (.e (.call jbd #[.v 8])) .nil (.meth .get (.v 1) #[.v 0,.tup #[.int 0,.tup .nil]]))])]
def jaH  : Ss:=(.cons (.asg (.n 9) (.mkP (.lc [none,some 2,some 3] (.n 0) (.r1 (.blt .len #[.v 3])) .nil (.tup #[.ix (.v 2) (.v 0),.ix (.v 1) (.v 0)])))) jaG)
def jaZ  : Ss:=(.cons (.asg (.n 8) (.bin .Add (.bin .Add (.sl (.v 1) .no (.so (.v 4))) (.tup #[.v 7])) (.sl (.v 1) (.so (.bin .Add (.v 4) (.int 1))) .no))) jaH)
def ja0  : Ss:=(.cons (.asg (.n 7) (.bin .Add (.bin .Add (.sl (.ix (.v 1) (.v 4)) .no (.so (.v 5))) (.tup #[.v 6])) (.sl (.ix (.v 1) (.v 4)) (.so (.bin .Add (.v 5) (.int 1))) .no))) jaZ)
def jaw  : Ss:=(.cons (.asg (.n 6) (.blt .max #[.int 0,.bin .Add (.ix (.ix (.v 1) (.v 4)) (.v 5)) (.ix (.lst #[.int 1,.neg (.int 1),.neg (.int 1),.int 2]) (.call jaa #[.v 0,.int 4]))])) ja0)
def ja1  : Ss:=(.cons (.ite (.bop true (.cmp .NotEq (.v 3) (.lst .nil)) #[.cmp .Gt (.call jaa #[.v 0,.int 3]) (.int 0)]) #[.asg (.t #[.n 4,.n 5]) (.ix (.v 3) (.call jaa #[.v 0,.blt .len #[.v 3]]))] .nil) jaw)
def ja2  : Ss:=(.cons (.par [4,5] #[.call jaa #[.v 0,.blt .len #[.v 1]],.call jaa #[.v 0,.blt .len #[.ix (.v 1) (.int 0)]]]) ja1)
def jbF  : Fun:=⟨"_law_other_table",["_law_feed_here", "_law_table", "_law_chains_here"],["_law_feed_here", "_law_table", "_law_chains_here", "_law_spots_here", "_law_turn", "_law_work", "_law_number_here", "_law_row", "_law_other", "_law_ways"],(.cons (.asg (.n 3) (.call jbd #[.v 1])) ja2)⟩
def ja3  : Ss:=#[.ret (.ix (.v 14) (.call jaa #[.v 0,.blt .len #[.v 14]]))]
def ja4  : Ss:=(.cons (.asg (.n 14) (.bin .Add (.v 14) (.lst #[.tup #[.v 9,.bin .Add (.bin .Add (.sl (.v 10) .no (.so (.v 11))) (.sl (.v 10) (.so (.v 11)) (.so (.bin .Add (.v 11) (.int 1))))) (.sl (.v 10) (.so (.v 11)) .no)],.tup #[.v 9],.tup #[.v 9,.v 10,.tup .nil],.lst #[.v 9,.v 10]]))) ja3)
def ja5  : Ss:=(.cons (.asg (.n 14) (.bin .Add (.v 14) (.lst #[.tup #[.v 9,.bin .Add (.bin .Add (.sl (.v 10) .no (.so (.v 11))) (.tup #[.v 13])) (.sl (.v 10) (.so (.v 11)) .no)],.tup #[.v 9,.bin .Add (.bin .Add (.sl (.v 10) .no (.so (.v 11))) (.tup #[.v 13])) (.sl (.v 10) (.so (.bin .Add (.v 11) (.int 1))) .no)],.tup #[.v 9,.mkL (.v 10)]]))) ja4)
def ja6  : Ss:=(.cons (.asg (.n 14) (.lst #[(.tup #[.call jaa #[.v 0,.bin .Add (.blt .len #[.v 7]) (.int 1)],.v 10]),.tup #[.bin .Sub (.v 9) (.int 1),.v 10],.tup #[.v 9,.bin .Add (.sl (.v 10) .no (.so (.v 11))) (.sl (.v 10) (.so (.bin .Add (.v 11) (.int 1))) .no)],.tup #[.v 9,.rev (.v 10) (.neg (.int 1))]])) ja5)
def ja7  : Ss:=(.cons (.asg (.n 13) (.ix (.v 12) (.call jaa #[.v 0,.blt .len #[.v 12]]))) ja6)
def ja8  : Ss:=(.cons (.asg (.n 12) (.bin .Add (.bin .Add (.mkL (.v 6)) (.rngL (.blt .len #[.ix (.v 3) (.int 1)]))) (.lst #[.blt .len #[.ix (.v 3) (.int 1)],.neg (.int 1),.bl true]))) ja7)
def ja9  : Ss:=(.cons (.asg (.n 11) (.call jaa #[.v 0,.bin .Add (.blt .len #[.v 10]) (.int 1)])) ja8)
def jbG  : Fun:=⟨"_law_other_chain",["_law_feed_here", "_law_world_here", "_law_chain"],["_law_feed_here", "_law_world_here", "_law_chain", "_law_plan_here", "_law_cycle_here", "_law_beats_here", "_law_waiting", "_law_given", "_law_many", "_law_g", "_law_row", "_law_at", "_law_spans", "_law_span_here", "_law_some"],(.cons (.asg (.t #[.n 3,.n 4,.n 5,.n 6,.n 7,.n 8]) (.v 1)) (.cons (.asg (.t #[.n 9,.n 10]) (.v 2)) ja9))⟩
def jbt  : Ss:=#[(.ite (.cmp .Eq (.v 5) (.int 6)) #[(.ret (.ix (.lst #[.tup #[.sl (.v 3) (.so (.int 1)) .no,.v 4],.tup #[.bin .Add (.v 3) (.sl (.v 3) .no (.so (.int 1))),.v 4],.tup #[.v 3,.v 4,.tup .nil],.tup #[.v 3]]) (.call jaa #[.v 0,.int 4])))] .nil),.ret (.tup #[.v 3,.ix (.v 8) (.call jaa #[.v 0,.int 5])])]
def jbu  : Ss:=(.cons (.asg (.n 8) (.bin .Add (.v 8) (.lst #[.bin .Add (.v 4) (.tup #[.tup #[.int 0,.tup .nil]]),.mkL (.v 4)]))) jbt)
def jbv  : Ss:=(.cons (.asg (.n 8) (.lst #[.bin .Add (.sl (.v 4) .no (.so (.v 6))) (.sl (.v 4) (.so (.bin .Add (.v 6) (.int 1))) .no),.bin .Add (.bin .Add (.sl (.v 4) .no (.so (.v 6))) (.rev (.v 7) (.neg (.int 1)))) (.sl (.v 4) (.so (.bin .Add (.v 6) (.int 2))) .no),.rev (.v 4) (.neg (.int 1))])) jbu)
def jaM  : Ss:=(.cons (.asg (.n 7) (.sl (.v 4) (.so (.v 6)) (.so (.bin .Add (.v 6) (.int 2))))) jbv)
def jbw  : Ss:=(.cons (.ite (.bop true (.cmp .Lt (.v 5) (.int 5)) #[.cmp .Lt (.v 6) (.blt .len #[.v 4])]) #[.ret (.tup #[.v 3,.bin .Add (.bin .Add (.sl (.v 4) .no (.so (.v 6))) (.tup #[.call jbD #[.v 0,.v 1,.ix (.v 4) (.v 6)]])) (.sl (.v 4) (.so (.bin .Add (.v 6) (.int 1))) .no)])] .nil) jaM)
def jbx  : Ss:=(.cons (.asg (.n 6) (.call jaa #[.v 0,.bin .Add (.blt .len #[.v 4]) (.int 1)])) jbw)
def jby  : Ss:=(.cons (.ite (.cmp .Lt (.v 5) (.int 3)) #[.ret (.call jbC #[.v 0,.v 3,.v 4])] .nil) jbx)
def jbz  : Ss:=(.cons (.asg (.n 5) (.call jaa #[.v 0,.int 7])) jby)
def jb7  : Fun:=⟨"_law_otherwise",["_law_feed_here", "_law_world_here", "_law_paper"],["_law_feed_here", "_law_world_here", "_law_paper", "_law_table", "_law_chains_here", "_law_way", "_law_at", "_law_pair", "_law_some"],(.cons (.asg (.t #[.n 3,.n 4]) (.v 2)) jbz)⟩
def jcE  : Ss:=#[.ite (.bop false (.cmp .NotEq (.blt .repr #[.call jcm #[.v 3,.v 7]]) (.blt .repr #[.call jcn #[.v 3,.v 7]])) #[.cmp .NotEq (.blt .repr #[.v 7]) (.v 8)]) #[.ret (.bl false)] .nil]
def jbL  : Ss:=(.cons (.asg (.n 8) (.blt .repr #[.v 7])) jcE)
def jcF  : Ss:=(.cons (.ite (.cmp .Gt (.v 6) (.int 7)) #[.asg (.n 7) (.call jbE #[.v 1,.v 5])] .nil) jbL)
def jcZ  : Ss:=#[.fr (.n 6) (.r1 (.int 10)) (.cons (.asg (.n 7) (.call jb2 #[.v 1,.v 3,.v 5])) jcF)]
def jeg  : Ss:=(.cons (.asg (.n 5) (.tup #[.v 4,.mkT (.call jdd #[.v 1,.v 3,.v 4])])) jcZ)
def jc0  : Ss:=(.cons (.asg (.n 4) (.call jcl #[.v 3])) jeg)
def jh0  : Ss:=#[.fr (.n 2) (.r1 (.int 2)) (.cons (.asg (.n 3) (.call jcy #[.v 1])) jc0),.ret (.bl true)]
def joB  : Fun:=⟨"law",["_law_script"],["_law_script", "_law_feed_here", "_law_k", "_law_world_here", "_law_table", "_law_own", "_law_turn", "_law_thing", "_law_kept"],(.cons (.asg (.n 1) (.call jel #[.v 0])) jh0)⟩
def T  : Tab:=⟨[jez,jd6,jdZ,jd7,jfG,jcQ,jeA,jcP,jb8,jdg,jhi,jeB,jdY,jex,jey,jd3,jd4,jdh,jev,jew,jd5,jfI,jd0,jcq,jct,jd1,jcu,jdi,jcs,jcr,jd2,jdj,jfH,jc6,jbF,jbG,jb7,joB],[(.int 100)],["MOST_ROW"],[1,2,3,4,5],[],[]⟩
def top  (i:Nat):Stmt:=PySem.Challenge.pw_beatplans_k63_papers_of_lateness_bent.main.body.getD i (.Pass ⟨0,0,0,0⟩)
noncomputable abbrev s_is_whole  : Stmt:=top 8
noncomputable abbrev s_is_within  : Stmt:=top 9
noncomputable abbrev s_length_of  : Stmt:=top 10
noncomputable abbrev s_buffer_of  : Stmt:=top 12
noncomputable abbrev s_step_of  : Stmt:=top 13
noncomputable abbrev s_is_late_row  : Stmt:=top 16
noncomputable abbrev s_is_table  : Stmt:=top 17
noncomputable abbrev s_late_places  : Stmt:=top 18
noncomputable abbrev s_is_late_paper  : Stmt:=top 19
noncomputable abbrev s_span_holds  : Stmt:=top 20
noncomputable abbrev s_led_to  : Stmt:=top 21
noncomputable abbrev s_is_chain  : Stmt:=top 22
noncomputable abbrev s_lets_late  : Stmt:=top 23
noncomputable abbrev s_law_feed  : Stmt:=top 25
noncomputable abbrev s_law_draw  : Stmt:=top 26
noncomputable abbrev s_law_names  : Stmt:=top 27
noncomputable abbrev s_law_cycle  : Stmt:=top 28
noncomputable abbrev s_law_number  : Stmt:=top 29
noncomputable abbrev s_law_span  : Stmt:=top 30
noncomputable abbrev s_law_plan  : Stmt:=top 31
noncomputable abbrev s_law_beats  : Stmt:=top 32
noncomputable abbrev s_law_leg  : Stmt:=top 33
noncomputable abbrev s_law_world  : Stmt:=top 34
noncomputable abbrev s_law_lateness  : Stmt:=top 35
noncomputable abbrev s_law_is_whole  : Stmt:=top 36
noncomputable abbrev s_law_spots  : Stmt:=top 37
noncomputable abbrev s_law_is_table  : Stmt:=top 38
noncomputable abbrev s_law_is_led  : Stmt:=top 39
noncomputable abbrev s_law_late_due  : Stmt:=top 40
noncomputable abbrev s_law_late_let  : Stmt:=top 41
noncomputable abbrev s_law_order  : Stmt:=top 42
noncomputable abbrev s_law_chains  : Stmt:=top 43
noncomputable abbrev s_law_odd  : Stmt:=top 44
noncomputable abbrev s_law_bent  : Stmt:=top 45
noncomputable abbrev s_law_other_table  : Stmt:=top 46
noncomputable abbrev s_law_other_chain  : Stmt:=top 47
noncomputable abbrev s_law_otherwise  : Stmt:=top 48
noncomputable abbrev s_law  : Stmt:=top 49
end
local macro_rules
 |`(tactic| simp! only[$xs,*])=>do
  let a<-("D_v T_v jrs D_bl jrz jrp D_g T_g D_ty T_ty jrD jq4 jrt jrB jq2 jqw jqf jro jrx jrA jqv jqe D_ix T_ix D_sl jrq jqx jqg jrC jq3 jqu D_lc jry jq1 jrv jq0 jrw jru jrr jqZ jqy jrE D_or jq5 T_or O_no O_so jrH jqB jrF jqz jrb jqk I_e I_r1 jql jrh jqt jqi jra jqj jqh jq7 jq9 jq8 S_fr jq6 jp5 S_tr jrG jqA jqY jqX jeF jqS jqV jqb jqc jqW jqT jqU jqR jqN jqP jqL W_lt W_le W_gt W_ge jqK jqO jp8 jqM jqQ W_in jqJ Y_bl jqF jqG jqE jre jqH jrk jqn jri jrj jrn jrm jrg jrl jqI jqd jqa jp9 jqq jqo jqp jqs jqr G_n G_t jrf jqm sl_0 sl_s dr_0 dr_s jp7 jpx jpw jrc jrd joM jqC jpU jpT jqD jpW jpV".splitOn " ").toArray.mapM λs=>`(Lean.Parser.Tactic.simpLemma| $(Lean.mkIdent s.toName):ident)
  `(tactic| try simp only[YaO,Yd9,Ygr,Yb3,YaU,Yct,List.set_cons_zero,YdV,YfT,List.zip_nil_right,List.zip_nil_left,Yeq,List.foldl_nil,List.getElem?_cons_zero,List.getElem?_cons_succ,Option.join_some,ite_true,ite_false,Yf0,Ybg,$a:simpLemma,*,$xs,*])

def jac    (hf:Fd G f c)(h0:0<m)(h1:m<1073741824)(q:∀r Z ,0<=r->r<m->Fd Z f c->Sm f G Z->Q (.int r) Z):jab T (k+1) jaa [.loc f,.int m] G Q X:=by
 obtain⟨y,a,l,t,Y,O,hn⟩:=hf.ex;have F:∀(z L j I:Int),Q (.int (z%m)) (gup G f (.dK (fdU c L j I))):=λz L j I=>q _ _ (Yds z (by lia)) (YdZ z h0) (Fd.put ⟨rfl⟩ Y O hn) Sm.put
 have xa:0<y.length:=List.length_pos_iff.mpr hn;have gc:∀J,gup G f (.dK J) c=some (.lst (y.map .int)):=λJ=>by rw[jbf (λz=>by rw[z,Y]at O;cases O)];exact O
 obtain⟨z,hz,ez⟩:=jfR (l:=y) (r:=a%y.length) (Yds _ (by lia)) (YdZ _ (by lia))
 refine⟨rfl,?_⟩;simp! only[jey,jah,Yag,ix_d Y jkT,jju Y,jdE,jkE,jhd,true_and,jdS (gc _),Yaa,ix_l (gc _) ((je7 U.int y _).trans (congrArg _ ez))];have cut:∀(j L I:Int),(0<m/\0<m/\m<1073741824/\Q (.int (j%m)) (gup G f (.dK (fdU c L (j/m) I)))):=λj L I=>⟨h0,h0,by lia,F _ _ _ _⟩
 by_cases hl:l=0
 ·rw[if_pos (by simpa using hl)]
  refine⟨by lia,by constructor<;>decide,?_⟩
  by_cases hc:z<10 ^ Int.toNat 18
  ·rw[if_pos (by simpa using hc)]
   exact⟨by decide,.inl (by decide),.inr (by decide),by decide,by decide,by decide,.inl (by decide),.inr (by decide),by decide,by decide,by decide,h0,F _ _ _ _⟩
  ·rw[if_neg (by simpa using hc)]
   exact cut _ _ _
 ·rw[if_neg (by simpa using hl)]
  exact cut _ _ _
def jlX   {ns:List Int}(ha:G a=some (.fro (ns.map .int)))(hl:ns.length<=63)(q:∀f c G' ,Fd G' f c->Q (.loc f) G'):jab T (k+1) jel [.loc a] G Q X:=by
 have J:(cut ns none (some 63)).length<=63:=by rw[show(63:Int)=((63:Nat):Int)from rfl,jb9];simp;lia
 refine⟨rfl,?_⟩;simp! only[jex,jah,Yag,sl_f ha,jmq];intro p1 G1 Y;rw[it_l Y.at];intro p2 G2 O;refine⟨by decide,λp3 G3 y=>?_⟩
 simp! only[jpL (y.sa _ _ (O.sa _ _ (Y.sa _ _ ha)))];obtain⟨j,ez,lz,hz⟩:∃j:List Int,(Yag (Int.toNat (if decide (((ns.map U.int).length:Int)=0)=true then 1 else 0)) [U.int 0]).flatten=j.map U.int/\j.length<=1/\(ns=[]->j≠[]):=by
  by_cases h:ns=[]
  ·subst h;exact⟨[0],rfl,by decide,λ_=>by simp⟩
  ·refine⟨[],?_,by decide,λz=>absurd z h⟩
   rw[if_neg (by simpa using h)]
   rfl
 refine⟨_,y.at,by split<;>decide,by split<;>decide,by split<;>decide,λp4 G4 F=>?_⟩
 rw[ez]at F;refine⟨_,_,F.sa _ _ (y.sa _ _ O.at),F.at,?_,λp5 G5 L=>⟨by decide,λp6 G6 I=>?_⟩⟩
 ·rw[Yaa,Yaa];exact Yaf (YeR J lz) (by decide:63+1<=Yai)
 rw[jnW]at I;rw[<- YaH]at L;refine q _ p5 _ ⟨_,0,0,0,I.at,I.sa _ _ L.at,λz=>?_⟩;obtain⟨Z,z2⟩:=List.append_eq_nil_iff.mp z;refine hz ?_ z2;rw[show(63:Int)=((63:Nat):Int)from rfl,jb9]at Z;cases ns with
 |nil=>rfl
 |cons _ _=>cases Z

structure Nm (x:Str):Prop where
 l8:x.length<=8
 ch:∀c∈x.cps.toList,c<128
noncomputable def menu  : List Str:=["a", "ab", "abc", "works", "span", "apart", "none", "round", "held", "zzzzzzzz", "undo", "b", "ba", "plan", "x"]
def jl5  : ∀x∈menu,Nm x:=by
 have h:∀x∈menu,x.length<=8/\∀c∈x.cps.toList,c<128:=by decide +kernel
 exact λx j=>⟨(h x j).1,(h x j).2⟩

def jjQ    (hf:Fd G f c)(h0:0<m)(h1:m<=8)(q:∀(xs:List Str) J ,xs.length=m->(∀x∈xs,Nm x)->Fd J f c->Sm f G J->Q (.tup (xs.map .str)) J):jab T (k+2) jdL [.loc f,.int m] G Q X:=by
 refine⟨rfl,?_⟩;simp! only[jd3,jah,Yag];refine⟨by decide,λp G1 Z=>?_⟩
 simp! only[jfr Z.at,jjm Z.at];refine⟨by decide,λG2 p2=>?_⟩
 have hp:=hf.away Z;have f2:=(hf.new Z).off hp p2;have s2:Sm f G G2:=Sm.wr Sm.refl Z.no Z.sa.sm p2;have g2:G2 p=some (.lst (menu.map .str)):=p2.at
 refine jac f2 (by decide) (by decide) λfirst G3 a3 b3 f3 s3=>?_
 have g3:=s3 _ _ hp.1 g2;refine⟨by decide,λp4 G4 n4=>jac (f3.new n4) (by decide) (by decide) λr5 G5 a5 b5 f5 s5=>?_⟩
 have g5:=s5 _ _ hp.1 (n4.sa _ _ g3);refine jaP [1,2,4,7,8,11,13,14] (s5 _ _ (f3.away n4).1 n4.at) a5 b5 λstep hs=>?_;have xa:=(s2.trans s3).nw n4 |>.trans s5;refine⟨by lia,by lia,by rw[jak];exact Yaf h1 (by decide),?_⟩
 have za:∀(xs:List Str) (Y:Addr) (O:Gp),xs.length=m->(∀x∈xs,Nm x)->Fd O f c->Sm f G O->O Y=some (.lst (xs.map .str))->itU (.loc Y) O λxs _=>Q (.tup xs) O:=λxs Y O e1 e2 e3 e4 e5=>by
  rw[it_l e5]
  simp_all
 refine jan (λi F J=>J=G5/\∃xs:List Str,F=xs.map .str/\xs.length=i/\∀x∈xs,Nm x) ?_ ?_ ⟨rfl,[],rfl,rfl,λ_ h=>nomatch h⟩
 ·rintro F J ⟨rfl,xs,rfl,hl,hx⟩;rw[jak]at hl;refine⟨trivial,λY O n6=>?_⟩;have f6:=f5.new n6;have h6:=f5.away n6;have s6:=xa.nw n6;refine jac f6 (by decide) (by decide) λr7 G7 a7 b7 f7 s7=>?_
  have g7:=s7 _ _ h6.1 n6.at
  simp! only[];by_cases hr:r7=0
  ·rw[if_pos (by lia)]
   refine jac f7 (by decide) (by decide) λr8 G8 a8 b8 f8 s8=>?_
   have g8:=s8 _ _ h6.1 g7;simp! only[];refine⟨by lia,by lia,by rw[jak];exact Yaf (by lia:(1+r8).toNat<=8) (by decide),?_⟩
   refine jan (λi F J=>Fd J f c/\Sm f G8 J/\∃I:List Str,F=I.map .str/\I.length=i/\∀x∈I,x.length=1/\∀c∈x.cps.toList,c<128) ?_ ?_ ⟨f8,Sm.refl,[],rfl,rfl,λ_ h=>nomatch h⟩
   ·rintro F G9 ⟨f9,s9,I,rfl,lz,hz⟩;rw[jak]at lz;refine⟨trivial,λpa Ga na=>?_⟩;have fa:=f9.new na;have ga:=na.sa _ _ (s9 _ _ h6.1 g8);have sa:=(s6.trans (s7.trans (s8.trans s9))).nw na;have va:Nm (Ycc "" I):=by
     refine⟨?_,λc hc=>?_⟩
     ·rw[jcp I λt ht=>(hz t ht).1];lia
     ·obtain⟨t,ht,hd⟩:=(jed I c).mp hc
      grind
    have L:(I.map (·.length)).sum+I.length<=1048576:=by
     have:∀l:List Str,(∀x∈l,x.length=1)->(l.map (·.length)).sum=l.length:=λl=>by
      induction l with
      |nil=>intro _;rfl
      |cons x r ih=>
       grind
     rw[this I λt ht=>(hz t ht).1];lia
    simp! only[mt_join,job na.at];refine⟨by decide,L,in_l ga rfl (jiU _) ?_⟩
    split
    ·refine⟨by decide,L,jac fa (by lia) (by lia) λr J a' b' f' s'=>?_⟩
     have g':=s' _ _ h6.1 ga;rw[jmX g' (show ixN _ r=some r.toNat from by
      rw[Yaa];obtain⟨j,rfl⟩:=Yax a';exact jiK (by lia))]
     intro Gb pb;have e:(xs.map U.str).set r.toNat (.str (Ycc "" I))=(xs.set r.toNat (Ycc "" I)).map .str:=by simp_all
     rw[e]at pb;refine za _ Y Gb (by grind) (λx ya=>?_) (f'.off h6 pb) (Sm.wr xa n6.no (sa.trans s') pb) pb.at
     grind
    grind
   ·rintro i x F G9 K wa ⟨f9,s9,I,rfl,lz,hz⟩ hk _;refine⟨trivial,jac f9 (by decide) (by decide) λr J a' b' f' s'=>?_⟩
    have hb:∀c∈("abcdefghijklmnopqrstuvwxyz" : Str).cps.toList,c<128:=by decide +kernel
    have ka:("abcdefghijklmnopqrstuvwxyz" : Str).cps.toList.length=26:=by decide +kernel
    obtain⟨d,hd,ed⟩:=jfR (l:=("abcdefghijklmnopqrstuvwxyz" : Str).cps.toList) a' (by lia)
    refine ix_s (by decide +kernel) ed (hk _ _ ⟨f',s9.trans s',I++[⟨#[d]⟩],by simp,by simp[lz],λz ja=>?_⟩)
    rcases List.mem_append.mp ja with z'|z'
    ·grind
    ·rw[List.mem_singleton.mp z'];exact⟨rfl,λe he=>by
      simp_all⟩
  ·rw[if_neg (by lia)]
   exact za xs Y G7 hl hx f7 (s6.trans s7) g7
 ·rintro i x F J K hx ⟨rfl,xs,rfl,hl,hn⟩ hk _;obtain⟨hi,rfl⟩:=jaC hx;simp! only[];obtain⟨y,hy,ey⟩:=jfR (l:=menu) (r:=(first+step*(i:Int))%15) (Yds _ (by decide)) (YdZ _ (by decide))
  refine⟨trivial,.inr (by lia),by decide,?_⟩
  rw[ix_l g5 ((je7 U.str menu _).trans (congrArg _ ey))];exact hk _ _ ⟨rfl,xs++[y],by simp,by simp[hl],λz hz=>by
   rcases List.mem_append.mp hz with z'|z'
   ·exact hn z z'
   ·rw[List.mem_singleton.mp z'];exact jl5 y hy⟩
def jjR   (F:Fd G f c)(q:∀P y ,1<=P->P<=600->Fd y f c->Sm f G y->Q (.int P) y):jab T (k+2) jdM [.loc f] G Q X:=by
 refine⟨rfl,?_⟩;simp! only[jd4,jah,Yag];refine⟨by decide,λp Y j=>jac (F.new j) (by decide) (by decide) λr Z O J L s2=>?_⟩
 refine jaP [1,2,3,4,5,6,7,8,10,12,30,60,120,600] (s2 _ _ (F.away j).1 j.at) O J λz I=>?_;have:1<=z/\z<=600:=by simp only[Yap,Yak,or_false]at I;first|omega
 exact q z _ this.1 this.2 L (j.sa.sm.trans s2)
def jfn    (hf:Fd G f c)(h1:1<=P)(h2:P<=600)(q:∀z L ,0<=z->z<=9999->Fd L f c->Sm f G L->Q (.int z) L):jab T (k+2) jb4 [.loc f,.int P] G Q X:=by
 refine⟨rfl,?_⟩;simp! only[jdh,jah,Yag];refine jac hf (by decide) (by decide) λw G1 a1 b1 y s1=>?_
 simp! only[];by_cases hw:w<3
 ·rw[if_pos (by lia)]
  exact jac y (by lia) (by lia) λr Y a2 b2 f2 s2=>q r _ a2 (by lia) f2 (s1.trans s2)
 rw[if_neg (by lia)]
 by_cases xa:w=3
 ·rw[if_pos (by lia)]
  refine⟨.inl (by decide),.inl (by decide),by decide,λp Y j=>jac (y.new j) (by decide) (by decide) λr G3 I Z J F=>?_⟩
  refine jaP [0,1,P,2*P-1,2*P] (F _ _ (y.away j).1 j.at) I Z λz O=>?_;have:0<=z/\z<=9999:=by simp only[Yap,Yak,or_false]at O;lia
  exact q z _ this.1 this.2 J ((s1.nw j).trans F)
 ·rw[if_neg (by lia)]
  refine⟨.inl (by decide),by decide,λp Y j=>?_⟩
  refine jaP [3*P+1,10000] j.at (by lia) (by show w-4<2;lia) λz O=>?_
  have:0<z/\z<=10000:=by simp only[Yap,Yak,or_false]at O;lia
  exact jac (y.new j) this.1 (by lia) λr G3 I Z J F=>q r _ I (by lia) J ((s1.nw j).trans F)

structure Spn where
 w:Str
 o:Nat
 t:Nat
 lo:Int
 hi:Int
noncomputable def Spn.u  (s:Spn):U:=.tup [.str s.w,.int s.o,.int s.t,.int s.lo,.int s.hi]
structure Spn.Ok (W:Nat)(s:Spn):Prop where
 w:s.w = "apart" \/ s.w = "span"
 o:s.o<W
 t:s.t<W
 lo:0<=s.lo/\s.lo<=9999
 hi:0<=s.hi/\s.hi<=9999
noncomputable def jaf  (l:List Int):U:=.tup (l.map .int)
def jk6  {x:Str}(h:x = "apart" \/ x = "span"):x.length<=8/\∀c∈x.cps.toList,c<128:=by
 rcases h with rfl|rfl
 ·exact⟨by decide +kernel,by decide +kernel⟩
 ·exact⟨by decide +kernel,by decide +kernel⟩
def Spn.Ok.sml   {s:Spn}(h:s.Ok W):Sml 1 s.u:=Sml.tup λu hu=>by
 simp only[Yap,Yak,or_false]at hu;rcases hu with rfl|rfl|rfl|rfl|rfl
 ·exact Sml.str (jk6 h.w).2
 all_goals exact Sml.int _

def jlV     (hf:Fd G f c)(Z:1<=P)(Y:P<=600)(L:o<W)(ht:t<W)(q:∀(s:Spn) G' ,s.Ok W->Fd G' f c->Sm f G G'->Q s.u G'):jab T (k+3) jc2 [.loc f,.int o,.int t,.int P] G Q X:=by
 refine⟨rfl,?_⟩;simp! only[jev,jah,Yag];refine jfn hf Z Y λy G1 J I f1 s1=>?_;refine jac f1 (by decide) (by decide) λr G2 a2 b2 F s2=>?_
 simp! only[];by_cases hr:r=0
 ·rw[if_pos (by lia)]
  refine jfn F Z Y λhi G3 a3 b3 f3 s3=>⟨by decide,?_⟩
  exact q ⟨"apart",o,t,y,hi⟩ _ ⟨.inl rfl,L,ht,⟨J,I⟩,a3,b3⟩ f3 (s1.trans (s2.trans s3))
 ·rw[if_neg (by lia)]
  refine⟨by decide,by decide,.inl (by decide),by decide,λp G3 j=>jac (F.new j) (by decide) (by decide) λr4 G4 a4 b4 f4 O=>?_⟩
  refine jaP [0,0,1,2,P/2,P-1,3*P,9999] (O _ _ (F.away j).1 j.at) a4 b4 λz hz=>?_;have xa:0<=z:=by simp only[Yap,Yak,or_false]at hz;lia
  simp! only[];refine⟨by decide,q ⟨"span",o,t,y,if y+z<9999 then y+z else 9999⟩ _ ⟨.inr rfl,L,ht,⟨J,I⟩,?_⟩ f4 ((s1.trans s2).nw j |>.trans O)⟩
  dsimp only;split<;>lia
def jjS     (L:Fd G f c)(h1:1<=P)(h2:P<=600)(O:W<=8)(q:∀(bs:List Int) y ,bs.length=W->(∀b∈bs,0<=b/\b<P)->Fd y f c->Sm f G y->Q (jaf bs) y):jab T (k+2) jdN [.loc f,.int W,.int P] G Q X:=by
 refine⟨rfl,?_⟩;simp! only[jd5,jah,Yag];refine⟨by lia,by lia,by rw[jak];exact Yaf O (by decide),?_⟩
 refine jan (λi j y=>Fd y f c/\Sm f G y/\∃bs:List Int,j=bs.map .int/\bs.length=i/\∀b∈bs,0<=b/\b<P) ?_ ?_ ⟨L,Sm.refl,[],rfl,rfl,λ_ h=>nomatch h⟩
 ·rintro j J ⟨f1,s1,bs,rfl,hl,hb⟩;rw[jak]at hl;refine⟨trivial,λp Y I=>?_⟩;simp! only[it_l I.at];exact q bs _ hl hb (f1.new I) (s1.nw I)
 ·rintro i x j J K hx ⟨f1,s1,bs,rfl,hl,hb⟩ hk _;refine⟨trivial,jac f1 (by lia) (by lia) λr Y a2 Z f2 s2=>hk _ _ ⟨f2,s1.trans s2,bs++[r],by simp,by simp[hl],λb F=>?_⟩⟩
  rcases List.mem_append.mp F with z|z
  ·exact hb b z
  ·rw[List.mem_singleton.mp z];exact⟨a2,Z⟩
def jlW    (hf:Fd G f c)(h1:1<=P)(h2:P<=600)(q:∀(xs:List Str) (j:List Spn) I ,0<xs.length->xs.length<=8->(∀x∈xs,Nm x)->j.length<=24->(∀s∈j,s.Ok xs.length)->Fd I f c->Sm f G I->Q (.tup [.tup (xs.map .str),.tup (j.map Spn.u)]) I) :
  jab T (k+4) jek [.loc f,.int P] G Q X:=by
 refine⟨rfl,?_⟩;simp! only[jew,jah,Yag];refine⟨by decide,λp J n1=>jac (hf.new n1) (by decide) (by decide) λr G2 a2 b2 f2 s2=>?_⟩
 refine jaP [1,2,2,3,3,4,5,8] (s2 _ _ (hf.away n1).1 n1.at) a2 b2 λW' hW=>?_;have va:1<=W'/\W'<=8:=by simp only[Yap,Yak,or_false]at hW;lia
 obtain⟨W,rfl⟩:=Yax (show 0<=W' by lia)
 refine jjQ f2 (by lia) (by lia) λxs G3 l3 x3 f3 s3=>?_
 have S3:Sm f G G3:=n1.sa.sm.trans (s2.trans s3);refine⟨by decide,λF G4 Z=>⟨by decide,λp5 G5 n5=>jac ((f3.new Z).new n5) (by decide) (by decide) λr6 G6 a6 b6 f6 s6=>?_⟩⟩
 have L:=f3.away Z;have S6:Sm f G G6:=((S3.nw Z).nw n5).trans s6;refine jaP [0,1,2,3,4,6,9,24] (s6 _ _ ((f3.new Z).away n5).1 n5.at) a6 b6 λm hm=>?_;have ya:0<=m/\m<=24:=by simp only[Yap,Yak,or_false]at hm;lia
 have g6:G6 F=some (.lst []):=s6 _ _ L.1 (n5.sa _ _ Z.at);simp! only[];refine⟨by lia,by lia,?_⟩
 refine jav (λi ς I=>∃(j:List Spn) (o:Option U),ς=[some (.loc f),some (.int P),some (.int (W:Int)),some (.tup (xs.map .str)),some (.loc F),o]/\Fd I f c/\Sm f G I/\I F=some (.lst (j.map Spn.u))/\j.length=i/\∀s∈j,s.Ok W) ?_ ?_ ⟨[],_,rfl,f6,S6,g6,rfl,λ_ h=>nomatch h⟩
 ·rintro ς G7 ⟨j,o,rfl,f7,s7,g7,l7,o7⟩;rw[jak]at l7;simp! only[];refine⟨trivial,?_⟩;rw[it_l g7];exact⟨by decide,q xs j _ (by lia) (by lia) x3 (by lia) (by simp_all) f7 s7⟩
 ·rintro i x ς G7 K hx ⟨j,o,rfl,f7,s7,g7,l7,o7⟩ hk;obtain⟨hi,rfl⟩:=jaC hx;simp! only[];have add:∀(s:Spn) (y:Gp),s.Ok W->Fd y f c->Sm f G y->y F=some (.lst (j.map Spn.u))->∀o,((j.map Spn.u).length<Yai/\putO y F (.lst (j.map Spn.u++[s.u])) λI=>K [some (.loc f),some (.int P),some (.int (W:Int)),some (.tup (xs.map .str)),some (.loc F),o] I):=λs y e1 e2 e3 e4 o=>by
   refine⟨?_,λG9 p9=>?_⟩
   ·rw[Yaa];exact Yar (show j.length<25 by lia) (by decide)
   ·refine hk _ _ ⟨j++[s],_,rfl,e2.off L p9,Sm.wr S3 Z.no e3 p9,by rw[YaH];exact p9.at,by simp[l7],λz hz=>?_⟩
    grind
  have fresh:∀(o:Option U) (y:Gp),Fd y f c->Sm f G y->y F=some (.lst (j.map Spn.u))->(match mtU .append (.loc F) y with
    |some _=>jab T (k+3) jaa [.loc f,.int (W:Int)] y (λx J=>jab T (k+3) jaa [.loc f,.int (W:Int)] J (λja J=>jab T (k+3) jc2 [.loc f,x,ja,.int P] J (λza J=>jbh .append (.loc F) [za] J λ_ J=>K [some (.loc f),some (.int P),some (.int (W:Int)),some (.tup (xs.map .str)),some (.loc F),o] J) X) X) X
    |none=>False):=λo y e1 e2 e3=>by
   rw[jfr e3];refine jac e1 (by lia) (by lia) λr9 G9 a9 b9 f9 s9=>jac f9 (by lia) (by lia) λra Ga aa ba fa sa=>?_
   obtain⟨o1,rfl⟩:=Yax a9;obtain⟨o2,rfl⟩:=Yax aa;refine jlV (W:=W) fa h1 h2 (by lia) (by lia) λs Gb ob fb Y=>?_
   have O:=Y _ _ L.1 (sa _ _ L.1 (s9 _ _ L.1 e3));rw[jjm O];exact add s Gb ob fb (e2.trans (s9.trans (sa.trans Y))) O _
  refine⟨trivial,by decide,λpb Gb nb=>?_⟩
  have O:=nb.sa _ _ g7;have fb:=f7.new nb;have Y:=s7.nw nb;simp! only[];refine jhe O nb.at (λu hu=>?_) (show 1<100 by decide) ?_
  ·obtain⟨s,hs,rfl⟩:=List.mem_map.mp hu;exact(o7 s hs).sml
  by_cases xa:j=[]
  ·rw[if_neg (by simp_all)]
   exact fresh _ Gb fb Y O
  ·rw[if_pos (by simp_all)]
   refine jac fb (by decide) (by decide) λr8 y a8 b8 f8 s8=>?_
   have g8:=s8 _ _ L.1 O;have hl:0<j.length:=List.length_pos_iff.mpr xa;simp! only[];by_cases hr:r8=0
   ·rw[if_pos (by lia)]
    simp! only[jfr g8,jdS g8,Yaa];refine jac f8 (by lia) (by lia) λr9 G9 a9 b9 f9 s9=>?_
    have g9:=s9 _ _ L.1 g8;obtain⟨s,hs,es⟩:=jfR (l:=j) a9 b9;rw[ix_l g9 ((je7 Spn.u j _).trans (congrArg _ es)),jjm g9];exact add s G9 (o7 s hs) f9 (Y.trans (s8.trans s9)) g9 _
   ·rw[if_neg (by lia)]
    exact fresh _ y f8 (Y.trans s8) g8

noncomputable def jau  (l:List Nat):U:=.tup (l.map λ(n:Nat)=>.int (n:Int))
noncomputable def gU  (g:Nat×Nat×Int):U:=.tup [.int g.1,.int g.2.1,.int g.2.2]
structure Wd where
 xs:List Str
 ss:List Spn
 P:Int
 bs:List Int
 wt:List Nat
 gv:List (Nat×Nat×Int)
 m:Nat
def Wd.plan  (w:Wd):U:=.tup [.tup (w.xs.map .str),.tup (w.ss.map Spn.u)]
def Wd.u  (w:Wd):U:=.tup [w.plan,.int w.P,jaf w.bs,jau w.wt,.tup (w.gv.map gU),.int w.m]
structure Gv (W m:Nat)(g:Nat×Nat×Int):Prop where
 w:g.1<W
 t:g.2.1<m
 n:0<=g.2.2/\g.2.2<=999
structure Wd.Ok (w:Wd):Prop where
 x0:0<w.xs.length
 x8:w.xs.length<=8
 nm:∀x∈w.xs,Nm x
 s25:w.ss.length<=25
 so:∀s∈w.ss,s.Ok w.xs.length
 p1:1<=w.P
 p6:w.P<=600
 bl:w.bs.length=w.xs.length
 bb:∀b∈w.bs,0<=b/\b<w.P
 wl:w.wt.length<=25
 ww:∀s∈w.wt,s<w.ss.length
 gl:w.gv.length<=12
 gg:∀g∈w.gv,Gv w.xs.length w.m g
 m1:1<=w.m
 m2:w.m<=12

def jcU  {X: KX}{xs:List Str}{Y:List Spn}(p1:1<=P)(p2:P<=600)(x0:0<xs.length)(x8:xs.length<=8)(nm:∀x∈xs,Nm x)(sl:Y.length<=25)(so:∀s∈Y,s.Ok xs.length)(f3:Fd G3 f c)(s3:Sm f G G3)
  (q:∀(w:Wd) y ,w.Ok->Fd y f c->Sm f G y->Q w.u y):jat T.gs (jab T (k+4)) jbK ⟨λ_ y=>Q .non y,Q,λx _ y=>X x y⟩ [some (.loc f),some (.int P),some (.tup (xs.map .str)),some (.tup (Y.map Spn.u)),o,none,none,none,none,none,none] G3:=by
 simp! only[jbK,Yaa];refine jjS f3 p1 p2 x8 λbs G4 bl bb f4 s4=>?_;refine⟨by lia,by lia,by rw[jak];exact Yaf sl (by decide),?_⟩
 refine jan (λi J y=>Fd y f c/\Sm f G y/\∃F:List Nat,J=F.map (λ(n:Nat)=>U.int (n:Int))/\F.length<=i/\∀s∈F,s<Y.length) ?_ ?_ ⟨f4,s3.trans s4,[],rfl,Yac _,λ_ h=>nomatch h⟩
 ·rintro J G5 ⟨f5,s5,F,rfl,wl,ww⟩;rw[jak]at wl;refine⟨trivial,λp6 G6 n6=>?_⟩;simp! only[it_l n6.at];refine⟨by decide,λp7 G7 n7=>jac ((f5.new n6).new n7) (by decide) (by decide) λr8 G8 a8 b8 f8 s8=>?_⟩
  have S8:Sm f G G8:=((s5.nw n6).nw n7).trans s8;refine jaP [1,2,3,5,8,12] (s8 _ _ ((f5.new n6).away n7).1 n7.at) a8 b8 λm' hm=>?_;have va:1<=m'/\m'<=12:=by simp only[Yap,Yak,or_false]at hm;lia
  obtain⟨m,rfl⟩:=Yax (show 0<=m' by lia)
  refine⟨by decide,λp9 G9 L=>⟨by decide,λpa Ga na=>jac ((f8.new L).new na) (by decide) (by decide) λrb Gb ab xa fb sb=>?_⟩⟩
  have O:=f8.away L;refine jaP [1,1,2,3,0,12] (sb _ _ ((f8.new L).away na).1 na.at) ab xa λj hj=>?_;have za:0<=j/\j<=12:=by simp only[Yap,Yak,or_false]at hj;lia
  simp! only[];refine⟨by lia,by lia,?_⟩
  refine jav (λi ς y=>∃(I:List (Nat×Nat×Int)) (o1 o2:Option U),ς=[some (.loc f),some (.int P),some (.tup (xs.map .str)),some (.tup (Y.map Spn.u)),o,some (jaf bs),some (jau F),some (.int (m:Int)),some (.loc p9),o1,o2]/\Fd y f c/\Sm f G y/\y p9=some (.lst (I.map gU))/\I.length=i/\∀g∈I,Gv xs.length m g)
   ?_ ?_ ⟨[],_,_,rfl,fb,((S8.nw L).nw na).trans sb,sb _ _ O.1 (na.sa _ _ L.at),rfl,λ_ h=>nomatch h⟩
  ·rintro ς Gc ⟨I,o1,o2,rfl,fc,sc,gc,lc,oc⟩;rw[jak]at lc;simp! only[it_l gc];exact⟨trivial,by decide,by decide,q ⟨xs,Y,P,bs,F,I,m⟩ _ ⟨x0,x8,nm,sl,so,p1,p2,bl,bb,by lia,ww,by lia,oc,by lia,by lia⟩ fc sc⟩
  ·rintro i x ς Gc K hx ⟨I,o1,o2,rfl,fc,sc,gc,lc,oc⟩ hk;obtain⟨hi,rfl⟩:=jaC hx;simp! only[];refine⟨trivial,.inl (by decide),jac fc (by decide) (by decide) λrd Gd ad bd fd sd=>⟨by decide,λpe Ge Z=>jac (fd.new Z) (by decide) (by decide) λrf Gf af bf ff sf=>?_⟩⟩
   refine jaP [0,1,2,5,P,2*P+3,999,rd] (sf _ _ (fd.away Z).1 Z.at) af bf λz hz=>?_;have ja:0<=z/\z<=1300:=by simp only[Yap,Yak,or_false]at hz;lia
   have gf:=sf _ _ O.1 (Z.sa _ _ (sd _ _ O.1 gc));have S:=((sc.trans sd).nw Z).trans sf;simp! only[jfr gf,Yaa];refine jac ff (by lia) (by lia) λw' Gg ag bg fg sg=>jac fg (by lia) (by lia) λt' Gh ah bh fh sh=>?_
   obtain⟨w,rfl⟩:=Yax ag;obtain⟨t,rfl⟩:=Yax ah;have gh:=sh _ _ O.1 (sg _ _ O.1 gf);simp! only[jjm gh,Yaa];refine⟨by decide,Yar (show I.length<13 by lia) (by decide),λGi pi=>?_⟩
   refine hk _ _ ⟨I++[(w,t,if z<999 then z else 999)],_,_,rfl,fh.off O pi,Sm.wr S8 L.no (S.trans (sg.trans sh)) pi,by rw[YaH];exact pi.at,by simp[lc],λg hg=>?_⟩
   rcases List.mem_append.mp hg with z'|z'
   ·exact oc g z'
   ·rw[List.mem_singleton.mp z'];exact⟨by lia,by lia,by dsimp only;split<;>lia⟩
 ·rintro i x J G5 K hx ⟨f5,s5,F,rfl,wl,ww⟩ hk hn;obtain⟨hi,rfl⟩:=jaC hx;refine⟨trivial,jac f5 (by decide) (by decide) λr6 G6 a6 b6 f6 s6=>?_⟩
  simp! only[];split
  ·refine hk _ _ ⟨f6,s5.trans s6,F++[i],by simp,by simp;lia,λs hs=>?_⟩
   grind
  ·exact hn _ ⟨f6,s5.trans s6,F,rfl,by lia,ww⟩
def jjP   (hf:Fd G f c)(q:∀(w:Wd) G' ,w.Ok->Fd G' f c->Sm f G G'->Q w.u G'):jab T (k+5) jcy [.loc f] G Q X:=by
 refine⟨rfl,?_⟩;simp! only[jd0,jah,Yag];refine jjR hf λP G1 y F f1 s1=>jlW f1 y F λxs I G2 J L nm sl O Y s2=>?_;simp! only[Yaa];refine⟨trivial,?_⟩;have j:=s1.trans s2;by_cases xa:(I.length:Int)<24
 ·rw[if_pos (by lia)]
  refine jac Y (by decide) (by decide) λr G3 a3 b3 f3 Z=>?_
  simp! only[];split
  ·refine jac f3 (by lia) (by lia) λw' G4 a4 b4 f4 s4=>?_
   obtain⟨w,rfl⟩:=Yax a4;refine⟨by decide,by decide,?_,?_⟩
   ·exact Yaf (show I.length+(0+1)<=25 by lia) (by decide)
   have e:I.map Spn.u++[U.tup [.str "span",.int (w:Int),.int (w:Int),.int 0,.int 5]]=(I++[Spn.mk "span" w w 0 5]).map Spn.u:=by rw[YaH];rfl
   rw[e];refine jcU y F J L nm (by simp;lia) (λs hs=>?_) f4 (j.trans (Z.trans s4)) q
   rcases List.mem_append.mp hs with z|z
   ·exact O s z
   ·rw[List.mem_singleton.mp z];exact⟨.inr rfl,by lia,by lia,by lia,by lia⟩
  ·exact jcU y F J L nm (by lia) O f3 (j.trans Z) q
 ·rw[if_neg (by lia)]
  exact jcU y F J L nm (by lia) O Y j q

abbrev Tb:=List (List Int)
noncomputable def gt  (t:Tb)(r c:Nat):Int:=(t.getD r []).getD c 0
noncomputable def st2  (t:Tb)(r c:Nat)(v:Int):Tb:=t.set r ((t.getD r []).set c v)
structure TbOk (m W:Nat)(t:Tb):Prop where
 l:t.length=m
 r:∀x∈t,x.length=W
 n:∀x∈t,∀z∈x,0<=z/\z<=999
noncomputable def tot  (t:Tb):Int:=(t.map List.sum).sum
section
variable {m W:Nat}{t:Tb}
def TbOk.row  (h:TbOk m W t){r:Nat}(hr:r<m):∃x,t[r]?=some x/\t.getD r []=x/\x.length=W/\∀z∈x,0<=z/\z<=999:=by
 have y:r<t.length:=by rw[h.l];exact hr
 have j:=YaM y;exact⟨t[r],Yah y,by simp_all,h.r _ j,h.n _ j⟩
def TbOk.gt (h:TbOk m W t){r c:Nat}(hr:r<m)(I:c<W):0<=gt t r c/\gt t r c<=999:=by
 obtain⟨x,j,z,F,y⟩:=h.row hr;have J:c<x.length:=by lia
 unfold Z.gt
 simp_all
def TbOk.st  (h:TbOk m W t){r c:Nat}(hr:r<m)(I:0<=v/\v<=999):TbOk m W (st2 t r c v):=by
 obtain⟨x,O,L,Y,J⟩:=h.row hr;unfold st2;rw[L];refine⟨by rw[YcN];exact h.l,λy F=>?_,λy F z j=>?_⟩
 ·rcases YbE F with q|q
  ·exact h.r y q
  simp_all
 ·rcases YbE F with q|q
  ·exact h.n y q z j
  ·rw[q]at j;rcases YbE j with q'|q'
   ·exact J z q'
   ·rw[q'];exact I
def jhE  (h:TbOk m W t)(hr:r<m)(O:c<W):gt (st2 t r c v) r' y=if r'=r/\y=c then v else gt t r' y:=by
 obtain⟨x,Z,J,L,e4⟩:=h.row hr;have Y:r<t.length:=by grind
 unfold gt st2;rw[J];by_cases F:r'=r
 ·subst F;have:(t.set r' (x.set c v)).getD r' []=x.set c v:=by simp[Ydn,Y]
  rw[this];by_cases j:y=c
  ·subst j;have I:y<x.length:=by rw[L];exact O
   rw[if_pos ⟨rfl,rfl⟩];simp[Ydn,I]
  ·rw[if_neg (λz=>j z.2),J];simp[Ydn,Ya5 (Ne.symm j)]
 grind
theorem jh3  : ∀(x:List Int) c v ,c<x.length->(x.set c v).sum=x.sum+(v-x.getD c 0)
 |[],c,v,h=>absurd h (by simp)
 |a::x,0,v,_=>by simp[Ydn];lia
 |a::x,c+1,v,h=>by
  have:=jh3 x c v (by simpa using h)
  simp only[YdV,YdU,this];simp[Ydn]
  lia
theorem jhV  : ∀(t:Tb) r (y:List Int),r<t.length->tot (t.set r y)=tot t+(y.sum-(t.getD r []).sum)
 |[],r,y,h=>absurd h (by simp)
 |x::t,0,y,_=>by simp[tot,Ydn];lia
 |x::t,r+1,y,h=>by
  have:=jhV t r y (by simpa using h)
  unfold tot at this ⊢;simp only[YdV,YaO,YdU,this];simp[Ydn]
  lia
def jkl  (h:TbOk m W t)(hr:r<m)(I:c<W):tot (st2 t r c v)=tot t+(v-gt t r c):=by
 obtain⟨x,y,j,F,z⟩:=h.row hr;unfold st2 gt;rw[jhV _ _ _ (by grind),j,jh3 _ _ _ (by lia)]
 lia
theorem jkv  : ∀(x:List Int),(∀z∈x,0<=z/\z<=999)->0<=x.sum/\x.sum<=999*x.length
 |[],_=>by simp
 |a::x,h=>by
  have F:=h a (by simp)
  have y:=jkv x λz j=>h z (Yaj _ j);simp only[YdU,YaU]
  lia
theorem jkm  : ∀(t:Tb),(∀x∈t,x.length=W/\∀z∈x,0<=z/\z<=999)->0<=tot t/\tot t<=999*(W*t.length:Nat)
 |[],_=>by simp[tot]
 |x::t,h=>by
  have j:=h x (by simp)
  have y:=jkv x j.2;have I:=jkm t λz F=>h z (Yaj _ F);unfold tot at I ⊢;simp only[YaO,YdU,YaU];rw[j.1]at y;have:(W*(t.length+1):Nat)=W*t.length+W:=by rw[Nat.mul_add,Nat.mul_one]
  rw[this]
  lia
def TbOk.tot (h:TbOk m W t)(z:m<=12)(y:W<=8):0<=tot t/\tot t<=95904:=by
 have:=jkm (W:=W) t λx j=>⟨h.r x j,h.n x j⟩;rw[h.l]at this;have F:W*m<=8*12:=YeQ y z
 lia
def jkq   (h:TbOk m W t)(h':TbOk m W t')(e:∀r c,r<m->c<W->gt t r c=gt t' r c):t=t':=by
 refine Ygq (by rw[h.l,h'.l]) λr j F=>Ygq (by rw[h.r _ (YaM j),h'.r _ (YaM F)]) λc z J=>?_
 have y:r<m:=by rw[<- h.l];exact j
 have I:c<W:=by rw[<- h.r _ (YaM j)];exact z
 have:=e r c y I;unfold gt at this
 simp_all
end
structure Wy where
 s:Nat
 o:Nat
 t:Nat
 p:Nat
 b:Int
structure Wy.Ok (W:Nat)(y:Wy):Prop where
 o:y.o<W
 t:y.t<W
 b:0<=y.b
 p:y.p<=20000
def rlx  (y:Wy)(t:Tb)(i:Nat):Tb:=st2 t (i+y.p) y.t (max (gt t (i+y.p) y.t) (gt t i y.o-y.b))
def psW  (m:Nat)(t:Tb)(y:Wy):Tb:=(YaA (m-y.p)).foldl (rlx y) t
def pss  (m:Nat)(ys:List Wy)(t:Tb):Tb:=ys.foldl (psW m) t
inductive Runs (m:Nat)(ys:List Wy):Tb->Tb->Prop
 |stop {t:Tb}:pss m ys t=t->Runs m ys t t
 |go {t r:Tb}:pss m ys t≠t->Runs m ys (pss m ys t) r->Runs m ys t r
section
variable {m W:Nat}{ys:List Wy}{t:Tb}
def jff   (j:y.Ok W)(h:TbOk m W t)(hi:i<m-y.p):TbOk m W (rlx y t i)/\tot t<=tot (rlx y t i)/\(gt t i y.o-y.b<=gt t (i+y.p) y.t->rlx y t i=t)/\(gt t (i+y.p) y.t<gt t i y.o-y.b->tot t<tot (rlx y t i)):=by
 have L:=h.gt (r:=i+y.p) (c:=y.t) (by lia) j.t
 have J:=h.gt (r:=i) (c:=y.o) (by lia) j.o
 have I:=j.b;have ok:=h.st (r:=i+y.p) (c:=y.t) (v:=max (gt t (i+y.p) y.t) (gt t i y.o-y.b)) (by lia) (by lia)
 have e:=jkl (v:=max (gt t (i+y.p) y.t) (gt t i y.o-y.b)) h (show i+y.p<m by lia) j.t
 refine⟨ok,by unfold rlx;rw[e];lia,λq=>jkq ok h λr c F O=>?_,λq=>by unfold rlx;rw[e];lia⟩
 unfold rlx;rw[jhE h (by lia) j.t]
 split
 ·rename_i z;rw[z.1,z.2];lia
 ·rfl
theorem jaQ  {y j:Type}(I:j->Prop) f:∀(l:List y) b ,I b->(∀b a,a∈l->I b->I (f b a))->I (l.foldl f b)
 |[],_,h,_=>h
 |a::l,b,h,s=>jaQ I f l (f b a) (s b a (by simp) h) λb a z=>s b a (Yaj _ z)
def Up  (m W:Nat)(t t':Tb):Prop:=TbOk m W t'/\(t'=t\/tot t<tot t')
def Up.trans   (a:Up m W t t1)(b:Up m W t1 t2):Up m W t t2:=⟨b.1,by
 rcases a.2 with rfl|a
 ·exact b.2
 ·rcases b.2 with rfl|b
  ·lia
  lia⟩
def jkx   (F:y.Ok W)(h:TbOk m W t)(hi:i<m-y.p):Up m W t (rlx y t i):=by
 obtain⟨I,J,j,z⟩:=jff F h hi;refine⟨I,?_⟩;by_cases q:gt t i y.o-y.b<=gt t (i+y.p) y.t
 ·exact .inl (j q)
 ·exact .inr (z (by lia))
def jkA   (z:y.Ok W)(h:TbOk m W t):Up m W t (psW m t y):=
 jaQ (Up m W t) _ _ _ ⟨h,.inl rfl⟩ λb i F j=>j.trans (jkx z j.1 (by simp_all))
def jeh  (F:∀y∈ys,y.Ok W)(h:TbOk m W t):Up m W t (pss m ys t):=
 jaQ (Up m W t) _ _ _ ⟨h,.inl rfl⟩ λb y z j=>j.trans (jkA (F y z) j.1)
theorem jia  (F:∀y∈ys,y.Ok W)(z:m<=12)(j:W<=8):∀(n:Nat) t ,TbOk m W t->95904-tot t<n->∃r,Runs m ys t r
 |0,t,h,hn=>by have:=h.tot z j;lia
 |n+1,t,h,hn=>by
  obtain⟨L,I⟩:=jeh F h;by_cases e:pss m ys t=t
  ·exact⟨t,.stop e⟩
  ·have O:=I.resolve_left e;obtain⟨r,J⟩:=jia F z j n (pss m ys t) L (by lia)
   exact⟨r,.go e J⟩
def Runs.ok  (z:∀y∈ys,y.Ok W)(q:Runs m ys t r):TbOk m W t->TbOk m W r:=by
 induction q with
 |stop _=>exact id
 |go _ _ j=>exact λh=>j (jeh z h).1
end

def jas  (xs:List Str)(j:List Spn):U:=.tup [.tup (xs.map .str),.tup (j.map Spn.u)]
structure At (ss:List Spn)(bs:List Int)(s:Nat)(sp:Spn)(x y:Int):Prop where
 s:ss[s]?=some sp
 x:bs[sp.o]?=some x
 y:bs[sp.t]?=some y
def atM  {j:Type}{f:j->U}{l:List j}{n:Nat}{a:j}(h:l[n]?=some a):atI (l.map f) (n:Int)=some (f a):=(je7 f l _).trans (congrArg _ (jaO h))
noncomputable def dif  (sp:Spn)(x y:Int):Int:=y-x-sp.lo
def wyOf  (P:Int)(s:Nat)(sp:Spn)(x y:Int):Wy:=⟨s,sp.o,sp.t,(-(dif sp x y/P)).toNat,dif sp x y%P⟩
noncomputable def wyU  (y:Wy):U:=.tup [.int y.s,.int y.o,.int y.t,.int y.p,.int y.b]

def jc8  (a:At z bs s sp x y)(j:0<P)(q:Q (.int (sp.lo+dif sp x y%P)) G):jab T (k+1) jcx [jas xs z,.int P,jaf bs,.int s] G Q X:=by
 refine⟨rfl,?_⟩;simp! only[jdZ,jah,Yag,jas,jaf,ix_t (jcc _ _ _),ix_t (atM a.s),Spn.u,ix_t (atM a.x),ix_t (atM a.y)];exact⟨trivial,j,q⟩
def jda  (a:At z bs s sp x y)(j:0<P)(q:Q (.int (dif sp x y%P)) G):jab T (k+2) jbP [jas xs z,.int P,jaf bs,.int s] G Q X:=by
 refine⟨rfl,?_⟩;simp! only[jd7,jah,Yag];refine jc8 a j ?_;simp! only[jas,jaf,ix_t (jcc _ _ _),ix_t (atM a.s),Spn.u,ix_t (jp4 _ _ _ _ _)]
 lia
def jli  (j:0<P):(x+(sp.lo+dif sp x y%P)-y)/P=-(dif sp x y/P):=by
 have h:=Yft (dif sp x y) P;have e:x+(sp.lo+dif sp x y%P)-y=P * -(dif sp x y/P):=by
  have d:dif sp x y=y-x-sp.lo:=rfl;rw[Int.mul_neg]
  lia
 rw[e,Int.mul_ediv_cancel_left _ (by lia)]
def jlh  (j:0<P)(h:dif sp x y<P):0<=-(dif sp x y/P):=by
 have:dif sp x y/P<1:=Int.ediv_lt_of_lt_mul j (by lia)
 lia
def wy_p  (j:0<P)(h:dif sp x y<P):((wyOf P s sp x y).p:Int)=-(dif sp x y/P):=Int.toNat_of_nonneg (jlh j h)
def jej  (a:At z bs s sp x y)(j:0<P)(F:P<=600)(h:dif sp x y<P)(q:Q (.int (wyOf P s sp x y).p) G):jab T (k+2) jdJ [jas xs z,.int P,jaf bs,.int s] G Q X:=by
 refine⟨rfl,?_⟩;simp! only[jfG,jah,Yag,jas,jaf,ix_t (jcc _ _ _),ix_t (atM a.s),Spn.u,ix_t (atM a.x),ix_t (atM a.y)];refine⟨trivial,jc8 (xs:=xs) a j ?_⟩;simp! only[jaf,ix_t (atM a.y)];refine⟨j,by lia,?_⟩
 rw[jli j,<- wy_p (s:=s) j h];exact q
def jg0  (a:At z bs s sp x y)(j:0<P)(F:P<=600)(h:dif sp x y<P)(q:Q (.tup [.int (wyOf P s sp x y).p,.int (wyOf P s sp x y).b]) G):jab T (k+1) jb5 [jas xs z,.int P,jaf bs,.int s] G Q X:=by
 refine⟨rfl,?_⟩;simp! only[jfI,jah,Yag,jas,jaf,ix_t (jcc _ _ _),ix_t (atM a.s),Spn.u,ix_t (atM a.x),ix_t (atM a.y)];refine⟨trivial,j,by lia,.inr (by lia),by decide,?_⟩
 have I:0-(y-x-sp.lo)/P=((wyOf P s sp x y).p:Int):=by rw[wy_p j h];unfold dif;lia
 have J:y+(0-(y-x-sp.lo)/P)*P-x-sp.lo=(wyOf P s sp x y).b:=by
  show _=dif sp x y%P;have h:=Yft (dif sp x y) P;have d:dif sp x y=y-x-sp.lo:=rfl;rw[<- d];have:(0-dif sp x y/P)*P=-(P*(dif sp x y/P)):=by rw[Int.zero_sub,Int.neg_mul,Int.mul_comm]
  rw[this]
  lia
 simp_all
def jaL  (F:List Spn)(bs:List Int)(P:Int):List Nat->List Wy->Prop
 |[],ys=>ys=[]
 |s::r,ys=>∃j x y z,At F bs s j x y/\dif j x y<P/\ys=wyOf P s j x y::z/\jaL F bs P r z
theorem jeG     : ∀ {wt } {ys }, jaL F bs P wt ys -> wt.length = ys.length /\ ∀ (i s : Nat), wt[i]? = some s -> ∃ sp x y, At F bs s sp x y /\ dif sp x y < P /\ ys[i]? = some (wyOf P s sp x y)
  | [], ys, h => by have h : ys = [] := h; simp_all
  | s :: r, ys, h => by
    obtain ⟨sp, x, y, L, J, I, rfl, j⟩ := h
    obtain ⟨l, g⟩ := jeG j
    refine ⟨by simp [l], λi z e => ?_⟩
    cases i with
    | zero => have : s = z := by simpa using e
              subst this; exact ⟨sp, x, y, J, I, rfl⟩
    | succ i => simp_all
theorem je8      (L:0<P)(Y:P<=600)(O:∀s∈ss,s.Ok W)(I:∀b∈bs,0<=b/\b<P):∀{wt } {ys },jaL ss bs P wt ys->∀y∈ys,y.Ok W
 |[],ys,h=>by have h:ys=[]:=h;simp_all
 |s::r,ys,h=>by
  obtain⟨j,x,y,yr,J,h2,rfl,Z⟩:=h;intro z F;rcases Yap.mp F with rfl|F
  ·have:=O j (Yas J.s);refine⟨this.o,this.t,Yds _ (by lia),?_⟩
   have b1:=I _ (Yas J.x);have b2:=I _ (Yas J.y);have l:=this.lo;have e:dif j x y=y-x-j.lo:=rfl;have:=wy_p (s:=s) L h2;have q:-20000<=dif j x y/P:=(Int.le_ediv_iff_mul_le L).mpr (by lia)
   lia
  ·exact je8 L Y O I Z z F
theorem jkh      (F:∀s∈j,s.Ok W)(bl:bs.length=W)(y:∀b∈bs,0<=b/\b<P):∀{wt },(∀s∈wt,s<j.length)->∃ys,jaL j bs P wt ys
 |[],_=>⟨[],rfl⟩
 |s::r,h=>by
  obtain⟨Z,Y⟩:=jkh F bl y λz O=>h z (Yaj _ O);have I:=h s (by simp)
  have ok:=F _ (YaM I);have L:(j[s]).o<bs.length:=by rw[bl];exact ok.o
  have J:(j[s]).t<bs.length:=by rw[bl];exact ok.t
  have b1:=y _ (YaM L);have b2:=y _ (YaM J);refine⟨_,j[s],bs[(j[s]).o],bs[(j[s]).t],Z,⟨Yah I,Yah L,Yah J⟩,?_,rfl,Y⟩;have:=ok.lo;unfold dif
  lia


noncomputable def zer  (m W:Nat):Tb:=Yag m (Yag W 0)
def jgD  : TbOk m W (zer m W):=⟨by simp[zer],λx j=>by rw[(List.mem_replicate.mp j).2];simp,λx j z y=>by
 rw[(List.mem_replicate.mp j).2]at y
 simp_all⟩
def jom   (hr:r<m)(j:c<W):gt (zer m W) r c=0:=by
 unfold gt zer
 simp_all
def lay  (t:Tb)(g:Nat×Nat×Int):Tb:=st2 t g.2.1 g.1 (max (gt t g.2.1 g.1) g.2.2)
def ini  (m W:Nat)(j:List (Nat×Nat×Int)):Tb:=j.foldl lay (zer m W)
def jg5   (j:Gv W m g)(h:TbOk m W t):TbOk m W (lay t g)/\tot t<=tot (lay t g)/\(g.2.2<=gt t g.2.1 g.1->lay t g=t)/\(gt t g.2.1 g.1<g.2.2->tot t<tot (lay t g)):=by
 have I:=h.gt j.t j.w;have F:=j.n;have ok:=h.st (r:=g.2.1) (c:=g.1) (v:=max (gt t g.2.1 g.1) g.2.2) j.t (by lia)
 have e:=jkl (v:=max (gt t g.2.1 g.1) g.2.2) h j.t j.w;refine⟨ok,by unfold lay;rw[e];lia,λq=>jkq ok h λr c y J=>?_,λq=>by unfold lay;rw[e];lia⟩
 unfold lay;rw[jhE h j.t j.w];split
 ·rename_i z;rw[z.1,z.2];lia
 ·rfl
def jkQ   (h:∀g∈gv,Gv W m g):TbOk m W (ini m W gv):=
 jaQ (TbOk m W) _ _ _ jgD λ_ g j y=>(jg5 (h g j) y).1
def jj7   [DecidableEq κ] kvs (k k':κ)(v:α):dGet (dPut kvs k v) k'=if k'=k then some v else dGet kvs k':=by
 unfold dGet dPut;by_cases h:(kvs.any λj=>decide (j.1=k))=true
 ·rw[if_pos h]
  induction kvs with
  |nil=>cases h
  |cons a r J=>
   simp only[YaO,Ya7];by_cases I:a.1=k
   ·rw[if_pos I];by_cases hk:k'=k
    ·simp_all
    ·have Y:¬(a.1=k'):=λz=>hk (z.symm.trans I);simp only[Y,decide_false,if_neg hk];have:∀r:List (κ×α),(YeS (λj=>decide (j.1=k')) (r.map λj=>if j.1=k then (j.1,v) else j)).map (·.2)=(YeS (λj=>decide (j.1=k')) r).map (·.2):=λr=>by
      induction r with
      |nil=>rfl
      |cons b r J=>
       simp only[YaO,Ya7];by_cases y:b.1=k
       ·rw[if_pos y];have n2:¬(b.1=k'):=λz=>hk (z.symm.trans y);simp only[n2,decide_false];exact J
       ·rw[if_neg y];by_cases F:b.1=k'
        ·simp[F]
        ·simp only[F,decide_false];exact J
     exact this r
   ·rw[if_neg I];have Z:(r.any λj=>decide (j.1=k))=true:=by simpa[I]using h
    by_cases y:a.1=k'
    ·have:¬(k'=k):=λz=>I (y.trans z);simp[y,this]
    ·simp only[y,decide_false];exact J Z
 ·rw[if_neg h];have hn:∀j∈kvs,¬(j.1=k):=λj O e=>h (List.any_eq_true.mpr ⟨j,O,by simpa using e⟩)
  rw[List.find?_append];by_cases hk:k'=k
  ·subst hk;have:YeS (λj=>decide (j.1=k')) kvs=none:=List.find?_eq_none.mpr λx L=>by simpa using hn x L
   simp[this]
  ·rw[if_neg hk];have:YeS (λj:κ×α=>decide (j.1=k')) [(k,v)]=none:=List.find?_eq_none.mpr λx L=>by
    rw[List.mem_singleton.mp L];simpa using λz=>hk z.symm
   rw[this];simp
def jok       (g:G a=some (.dT kvs)):inU (.tup [.int r,.int c]) (.loc a) G k=k (dGet kvs [.inl r,.inl c]).isSome:=by unfold inU;dsimp only;rw[g];rfl
def jog        (g:G a=some (.dT kvs))(h:dGet kvs [.inl r,.inl c]=some u):ixU (.loc a) (.tup [.int r,.int c]) G Q=Q u G:=by
 unfold ixU;dsimp only;rw[g];show(match dGet kvs [.inl r,.inl c]with|some u=>Q u G|none=>False)=_
 rw[h]
def jkw        (g:G a=some (.dT kvs)):setU (.loc a) (.tup [.int r,.int c]) v G Q=(kvs.length<Yai/\putO G a (.dT (dPut kvs [.inl r,.inl c] v)) Q):=by unfold setU;dsimp only;rw[g];rfl
def jjY     (g:G a=some o):G=gup G a o:=by
 funext b;unfold gup
 lia
def jiT     : (YaA (i+1)).foldl (rlx y) t=rlx y ((YaA i).foldl (rlx y) t) i:=by
 rw[Yby,Yd1];rfl

def jhb  {j:List (Nat×Nat×Int)}(h:j[i]?=some g):ini m W (j.take (i+1))=lay (ini m W (j.take i)) g:=by
 unfold ini;rw[Ybh,h,Yd1];rfl
def tbU  (t:Tb):U:=.tup (t.map jaf)

def ClS  (m:Nat)(ys:List Wy)(S:Nat->Nat->Int):Prop:=∀y∈ys,∀i,i<m-y.p->S i y.o-y.b<=S (i+y.p) y.t
def LeS  (m W:Nat)(t:Tb)(S:Nat->Nat->Int):Prop:=∀r c,r<m->c<W->gt t r c<=S r c
section
variable {m W:Nat}{ys:List Wy}{t R:Tb}{S:Nat->Nat->Int}
def jm6   (j:y.Ok W)(h:TbOk m W t)(hs:LeS m W t S)(hi:i<m-y.p)(O:S i y.o-y.b<=S (i+y.p) y.t):LeS m W (rlx y t i) S:=λr c I F=>by
 unfold rlx;rw[jhE h (by lia) j.t]
 have L:=hs (i+y.p) y.t (by lia) j.t
 have J:=hs i y.o (by lia) j.o
 split
 ·rename_i z;rw[z.1,z.2];lia
 ·exact hs r c I F
def jne  (I:∀y∈ys,y.Ok W)(cl:ClS m ys S)(h:TbOk m W t)(hs:LeS m W t S):LeS m W (pss m ys t) S:=
 (jaQ (λb=>TbOk m W b/\LeS m W b S) _ _ _ ⟨h,hs⟩ λb y F z=>jaQ (λb=>TbOk m W b/\LeS m W b S) _ _ _ z λb i J z=>by
  have j:i<m-y.p:=by simpa using J
  exact⟨(jff (I y F) z.1 j).1,jm6 (I y F) z.1 z.2 j (cl y F i j)⟩).2
def Runs.least  (j:∀y∈ys,y.Ok W)(cl:ClS m ys S)(q:Runs m ys t R):TbOk m W t->LeS m W t S->LeS m W R S:=by
 induction q with
 |stop _=>exact λ_ h=>h
 |go _ _ z=>exact λh F=>z (jeh j h).1 (jne j cl h F)
def jm7   (F:y.Ok W)(h:TbOk m W t)(hi:i<m-y.p):LeS m W t (gt (rlx y t i)):=λr c I j=>by
 unfold rlx;rw[jhE h (by lia) F.t]
 split
 ·rename_i z;rw[z.1,z.2];lia
 ·exact YdL _
def jnf  (L:∀y∈ys,y.Ok W)(h:TbOk m W t):LeS m W t (gt (pss m ys t)):=
 (jaQ (λb=>TbOk m W b/\LeS m W t (gt b)) _ _ _ ⟨h,λ_ _ _ _=>YdL _⟩ λb y I z=>jaQ (λb=>TbOk m W b/\LeS m W t (gt b)) _ _ _ z λb i O z=>by
  have j:i<m-y.p:=by simpa using O
  exact⟨(jff (L y I) z.1 j).1,λr c F J=>Ydr (z.2 r c F J) (jm7 (L y I) z.1 j r c F J)⟩).2
def Runs.ge  (F:∀y∈ys,y.Ok W)(q:Runs m ys t R):TbOk m W t->LeS m W t (gt R):=by
 induction q with
 |stop _=>exact λ_ _ _ _ _=>YdL _
 |go _ _ I=>exact λh r c j z=>Ydr (jnf F h r c j z) (I (jeh F h).1 r c j z)
theorem je0  {L:Type} f:∀(l:List L),(∀b a,a∈l->TbOk m W b->Up m W b (f b a))->TbOk m W R->l.foldl f R=R->∀a∈l,f R a=R
 |[],_,_,_,_,h=>(nomatch h)
 |a::l,u,ok,e,x,hx=>by
  have e:l.foldl f (f R a)=R:=e;have F:=u R a Yav ok;have y:Up m W (f R a) (l.foldl f (f R a)):=jaQ (Up m W (f R a)) f l _ ⟨F.1,.inl rfl⟩ λb z j J=>J.trans (u b z (Yaj _ j) J.1);have I:f R a=R:=by
   rcases F.2 with z|z
   ·exact z
   ·rw[e]at y;rcases y.2 with z2|z2
    ·exact z2.symm
    ·lia
  rcases Yap.mp hx with rfl|hx
  ·exact I
  ·rw[I]at e;exact je0 f l (λb z j=>u b z (Yaj _ j)) ok e x hx
def jhr  (J:∀y∈ys,y.Ok W)(h:TbOk m W R)(e:pss m ys R=R):ClS m ys (gt R):=λy j i O=>by
 have Z:=je0 (psW m) ys (λb a F I=>jkA (J a F) I) h e y j;have Y:=je0 (rlx y) (YaA (m-y.p)) (λb a F I=>jkx (J y j) I (by simpa using F)) h Z i (by simpa using O)
 have L:=(jff (J y j) h O).2.2.2;rw[Y]at L;rcases Int.lt_or_le (gt R (i+y.p) y.t) (gt R i y.o-y.b)with z|z
 ·have:=L z;lia
 ·exact z
def Runs.closed  (j:∀y∈ys,y.Ok W)(q:Runs m ys t R):TbOk m W t->ClS m ys (gt R):=by
 induction q with
 |stop e=>exact λh=>jhr j h e
 |go _ _ z=>exact λh=>z (jeh j h).1
def jn1   (j:Gv W m g)(h:TbOk m W t)(hs:LeS m W t S)(J:g.2.2<=S g.2.1 g.1):LeS m W (lay t g) S:=λr c F y=>by
 unfold lay;rw[jhE h j.t j.w];have I:=hs g.2.1 g.1 j.t j.w;split
 ·rename_i z;rw[z.1,z.2];lia
 ·exact hs r c F y
def jn2   (j:Gv W m g)(h:TbOk m W t):LeS m W t (gt (lay t g))/\g.2.2<=gt (lay t g) g.2.1 g.1:=by
 refine⟨λr c F y=>?_,?_⟩<;>unfold lay<;>rw[jhE h j.t j.w]
 ·split
  ·rename_i z;rw[z.1,z.2];lia
  ·exact YdL _
 ·rw[if_pos ⟨rfl,rfl⟩];lia
variable {gv gw:List (Nat×Nat×Int)}
def joj  (F:∀g∈gv,Gv W m g)(h0:∀r c,r<m->c<W->0<=S r c)(hs:∀g∈gv,g.2.2<=S g.2.1 g.1):LeS m W (ini m W gv) S:=
 (jaQ (λb=>TbOk m W b/\LeS m W b S) _ _ _ ⟨jgD,λr c z I=>by rw[jom z I];exact h0 r c z I⟩ λb g j y=>⟨(jg5 (F g j) y.1).1,jn1 (F g j) y.1 y.2 (hs g j)⟩).2
theorem jkR  : ∀(j:List (Nat×Nat×Int)) t ,TbOk m W t->(∀g∈j,Gv W m g)->LeS m W t (gt (j.foldl lay t))/\∀g∈j,g.2.2<=gt (j.foldl lay t) g.2.1 g.1
 |[],_,_,_=>⟨λ_ _ _ _=>YdL _,λ_ h=>(nomatch h)⟩
 |x::j,t,h,hg=>by
  have z:=hg x Yav;obtain⟨Y,O⟩:=jn2 z h;obtain⟨I,L⟩:=jkR j (lay t x) (jg5 z h).1 λg y=>hg g (Yaj _ y);refine⟨λr c F J=>Ydr (Y r c F J) (I r c F J),λg y=>?_⟩;rcases Yap.mp y with rfl|y
  ·exact Ydr O (I _ _ z.t z.w)
  ·exact L g y
structure Lst (m W:Nat)(ys:List Wy)(gv:List (Nat×Nat×Int))(R:Tb):Prop where
 ok:TbOk m W R
 cl:ClS m ys (gt R)
 ge:∀g∈gv,g.2.2<=gt R g.2.1 g.1
 le:∀S:Nat->Nat->Int,ClS m ys S->(∀r c,r<m->c<W->0<=S r c)->(∀g∈gv,g.2.2<=S g.2.1 g.1)->LeS m W R S
def Runs.lst  (F:∀y∈ys,y.Ok W)(z:∀g∈gv,Gv W m g)(q:Runs m ys (ini m W gv) R):Lst m W ys gv R:=by
 have j:=jkQ z;refine⟨q.ok F j,q.closed F j,λg J=>?_,λS cl h0 L=>q.least F cl j (joj z h0 L)⟩;have I:=z g J;exact Ydr ((jkR gv (zer m W) jgD z).2 g J) (q.ge F j _ _ I.t I.w)
end

def Sx  (as:List Addr)(G j:Gp):Prop:=∀b o,b∉as->G b=some o->j b=some o
def Sx.refl    : Sx as G G:=λ_ _ _ h=>h
def Sx.trans    (a:Sx as G G1)(b:Sx as G1 G2):Sx as G G2:=λc o n h=>b c o n (a c o n h)
def Sx.put      (h:a∈as)(p:Put G a o G'):Sx as G G':=λc u n e=>p.sm c u (λz=>n (z ▸ h)) e
def Sx.sa    (h:∀a∈as,G a=none)(a:Sa G G')(b:Sx as G' j):Sa G j:=λc o e=>b c o (λz=>by simp_all) (a c o e)
def jlr    (s:Sa G G')(h:G' p=none):G p=none:=by
 cases e:G p with
 |none=>rfl
 |some o=>rw[s _ _ e]at h;cases h
def jnR  {F:Type}{l:List F}(h:l.Nodup) hi (y:j<l.length)(e:l[i]=l[j]):i=j:=by
 have h:=List.pairwise_iff_getElem.mp h;rcases Nat.lt_trichotomy i j with z|z|z
 ·exact absurd e (h i j hi y z)
 ·exact z
 ·exact absurd e.symm (h j i y hi z)
structure TbA (G:Gp)(p:Addr)(as:List Addr)(t:Tb):Prop where
 gp:G p=some (.lst (as.map .loc))
 l:as.length=t.length
 nd:as.Nodup
 np:p∉as
 ga:∀(i:Nat) (a:Addr) (row:List Int),as[i]?=some a->t[i]?=some row->G a=some (.lst (row.map .int))
def TbA.mem      (h:TbA G p as t)(z:a∈as):∃row:List Int,G a=some (.lst (row.map .int)):=by
 obtain⟨i,y,e⟩:=YfD z;have j:i<t.length:=by rw[<- h.l];exact y
 exact⟨_,h.ga i a t[i] (by simp_all) (Yah j)⟩
def TbA.keep      (h:TbA G p as t)(s:Sx xs G G')(z:p∉xs)(F:∀a∈as,a∉xs):TbA G' p as t:=
 ⟨s _ _ z h.gp,h.l,h.nd,h.np,λi a row j y=>s _ _ (F a (Yas j)) (h.ga i a row j y)⟩
def TbA.sa      (h:TbA G p as t)(s:Sa G G'):TbA G' p as t:=
 ⟨s _ _ h.gp,h.l,h.nd,h.np,λi a row j y=>s _ _ (h.ga i a row j y)⟩
def TbA.put      (h:TbA G p as t)(j:as[r]?=some a)(w:Put G a (.lst (row.map .int)) G'):TbA G' p as (t.set r row):=by
 have L:=Yas j;refine⟨w.sm _ _ (λz=>h.np (z ▸ L)) h.gp,by rw[YcN];exact h.l,h.nd,h.np,λi b F I y=>?_⟩
 have hr:=(List.getElem?_eq_some_iff.mp j).1;by_cases J:i=r
 ·subst J;rw[YbA (by grind)]at y
  rw[I]at j;cases j;cases y;exact w.at
 ·rw[Ya5 (Ne.symm J)]at y;have Z:b≠a:=λz=>by
   subst z;obtain⟨h1,h2⟩:=List.getElem?_eq_some_iff.mp I;obtain⟨O,Y⟩:=List.getElem?_eq_some_iff.mp j;exact J (jnR h.nd h1 O (h2.trans Y.symm))
  exact w.sm _ _ Z (h.ga i b F I y)
def atL  {j:Type}{f:j->U}{l:List j}{n:Nat}{a:j}(h:l[n]?=some a):atI (l.map f) (n:Int)=some (f a):=atM h
def TbA.ix       (h:TbA G p as t)(ok:TbOk m W t)(hr:r<m)(L:c<W):∃(a:Addr) (row:List Int),as[r]?=some a/\t[r]?=some row/\t.getD r []=row/\row.length=W/\G a=some (.lst (row.map .int))/\atI (row.map U.int) (c:Int)=some (.int (gt t r c)):=by
 obtain⟨row,j,z,F,J⟩:=ok.row hr;have y:r<as.length:=by rw[h.l,ok.l];exact hr
 have I:c<row.length:=by lia
 refine⟨as[r],row,Yah y,j,z,F,h.ga r _ row (Yah y) j,?_⟩;rw[atM (Yah I)];unfold gt
 simp_all
noncomputable def rowD  (r:List Int):PyData:=.list (r.map .int)
def tbD  (t:Tb):PyData:=.list (t.map rowD)
theorem jhg   G:∀r:List Int,DUs G (r.map .int) (r.map .int)
 |[]=>.nil
 |i::r=>.cons (.int i) (jhg G r)
def TbA.du      (h:TbA G p as t):DU G (.loc p) (tbD t):=by
 have:∀(as:List Addr) (t:Tb),as.length=t.length->(∀(i:Nat) (a:Addr) (row:List Int),as[i]?=some a->t[i]?=some row->G a=some (.lst (row.map .int)))->DUs G (as.map .loc) (t.map rowD):=λas=>by
  induction as with
  |nil=>
   intro t j _;cases t with
   |nil=>exact .nil
   |cons _ _=>cases j
  |cons a as F=>
   intro t j y;cases t with
   |nil=>cases j
   |cons r t=>
    have g:=y 0 a r rfl rfl;exact .cons (.lst (by unfold lsG;rw[g]) (jhg G r)) (F t (by simp_all) λi b row z I=>y (i+1) b row z I)
 exact .lst (by unfold lsG;rw[h.gp]) (this as t h.l h.ga)
theorem jg6  : ∀r:List Int,YaL (r.map .int)=true/\YaE (r.map .int)=0/\noBs (r.map .int)=true
 |[]=>⟨rfl,rfl,rfl⟩
 |i::r=>by
  obtain⟨y,j,z⟩:=jg6 r;refine⟨?_,?_,?_⟩
  ·show((YfA i).canLay0&&YaL (r.map .int))=true;rw[y];rfl
  ·show max (YfA i).depth (YaE (r.map .int))=0;rw[j];rfl
  ·show(noB (.int i)&&noBs (r.map .int))=true;rw[z];rfl
theorem jdv  : ∀t:Tb,YaL (t.map rowD)=true/\YaE (t.map rowD)<=1/\noBs (t.map rowD)=true
 |[]=>⟨rfl,by decide,rfl⟩
 |r::t=>by
  obtain⟨J,I,y⟩:=jdv t;obtain⟨F,j,z⟩:=jg6 r;refine⟨?_,?_,?_⟩
  ·show(YaL (r.map .int)&&YaL (t.map rowD))=true
   lia
  ·show max (YaE (r.map .int)+1) (YaE (t.map rowD))<=1
   lia
  ·show(noBs (r.map .int)&&noBs (t.map rowD))=true
   lia
def jdr   t:Small (tbD t):=by
 obtain⟨j,y,_⟩:=jdv t;refine⟨j,?_⟩;show YaE (t.map rowD)+1<=100
 lia
theorem jdQ  {z I:Type}{f:z->I}(F:∀x y,f x=f y->x=y):∀{l j:List z},l.map f=j.map f->l=j
 |[],[],_=>rfl
 |[],_::_,h=>by cases h
 |_::_,[],h=>by cases h
 |a::l,b::j,h=>by
  have h:=Yba h;rw[F _ _ h.1,jdQ F h.2]
def jmL   (h:tbD t=tbD t'):t=t':=
 jdQ (f:=rowD) (λx y e=>jdQ (f:=YfA) (λ_ _ e=>by lia) (Ye8 e)) (Ye8 h)
def jmM   t t':YaK (tbD t) (tbD t')=decide (t=t'):=by
 by_cases h:t=t'
 ·rw[h,PySem.SeqAt.eqv_refl _ (jdr t').1];simp
 ·cases e:YaK (tbD t) (tbD t')with
  |false=>simp[h]
  |true=>exact absurd (jmL (jkW (jdv t).2.2 (jdv t').2.2 e)) h
noncomputable def legU  (y:Wy):U:=.tup [.int y.o,.int y.t,.int y.p,.int y.b]
def jkK  (i j:Int):(if j>i then j else i)=max i j:=by lia

def jkp         (h:TbA G p as t)(ok:TbOk m W t)(hr:r<m)(J:c<W)(y:as[r]?=some a)(q:∀j,TbA j p as (st2 t r c v)->Sx as G j->Q j):setU (.loc a) (.int c) (.int v) G Q:=by
 obtain⟨b,row,z,Y,I,O,F,L⟩:=h.ix ok hr J;rw[y]at z;cases z;rw[jmX F (show ixN _ (c:Int)=some c from jiK (by simp_all))]
 intro j w;rw[<- List.map_set]at w;refine q j ?_ (Sx.put (Yas y) w);unfold st2;rw[I];exact h.put y w
def law_pass    {X:KX}{Kn:Sg->Gp->Prop}{u0 u1 u2 u3 u4 u5 l8 O Y z J F L ul:Option U}(h:TbA G pt as t)(ok:TbOk m W t)(hm:m<=12)(hy:∀y∈ys,y.Ok W)(gg:G pg=some (.lst (ys.map legU)))(hg:pg∉as)
  (q:∀I O z J F L ,TbA I pt as (pss m ys t)->Sx as G I->Kn [u0,u1,u2,u3,u4,u5,some (.int m),some (.loc pt),l8,O,Y,some (.loc pg),ul,z,J,F,L] I) :
  forL (λI=>lsG I pg=some (ys.map legU)) (λx xa G2 K=>tgU (.t (.cons (.n 13) (.cons (.n 14) (.cons (.n 15) (.cons (.n 16) .nil))))) x xa λza=>jat T.gs (jab T k)
   (.cons (.fr (.n 9) (.r1 (.bin .Sub (.v 6) (.v 15))) (.cons (.setS (.ix (.v 7) (.bin .Add (.v 9) (.v 15))) (.v 14) (.blt .max (.cons (.ix (.ix (.v 7) (.bin .Add (.v 9) (.v 15))) (.v 14)) (.cons (.bin .Sub (.ix (.ix (.v 7) (.v 9)) (.v 13)) (.v 16)) .nil)))) .nil)) .nil)
   ⟨K,Q,λx _ I=>X x I⟩ za G2) (ys.map legU) [u0,u1,u2,u3,u4,u5,some (.int m),some (.loc pt),l8,O,Y,some (.loc pg),ul,z,J,F,L] G Kn:=by
 refine jav (λi ς I=>∃(Z:Tb) (O z J F L:Option U),ς=[u0,u1,u2,u3,u4,u5,some (.int m),some (.loc pt),l8,O,Y,some (.loc pg),ul,z,J,F,L]/\Z=pss m (ys.take i) t/\TbOk m W Z/\TbA I pt as Z/\Sx as G I) ?_ ?_ ⟨t,_,_,_,_,_,rfl,rfl,ok,h,Sx.refl⟩
 ·rintro ς I ⟨Z,O,z,J,F,L,rfl,e,ok',h',s'⟩;refine⟨by unfold lsG;rw[s' _ _ hg gg],?_⟩
  simp_all
 ·rintro i x ς I K hx ⟨Z,O,z,J,F,L,rfl,e,ok',h',s'⟩ hk;refine⟨by unfold lsG;rw[s' _ _ hg gg],?_⟩
  rw[Yau]at hx;cases es:ys[i]? with
  |none=>simp_all
  |some y=>
   rw[es]at hx;have hx:=(Yaw hx).symm;subst hx;have oy:=hy y (Yas es);have e1:pss m (ys.take (i+1)) t=psW m Z y:=by
    rw[Ybh,es];unfold pss at e ⊢
    simp_all
   simp! only[legU];have p2:=oy.p;refine⟨trivial,by lia,by lia,?_⟩
   have em:((m:Int)-(y.p:Int)).toNat=m-y.p:=by lia
   rw[em];refine jav (λj ς I=>∃(t2:Tb) (O:Option U),ς=[u0,u1,u2,u3,u4,u5,some (.int m),some (.loc pt),l8,O,Y,some (.loc pg),ul,some (.int y.o),some (.int y.t),some (.int y.p),some (.int y.b)]/\t2=(YaA j).foldl (rlx y) Z/\TbOk m W t2/\TbA I pt as t2/\Sx as G I) ?_ ?_ ⟨Z,_,rfl,rfl,ok',h',s'⟩
   ·rintro ς G2 ⟨t2,O,rfl,e2,ok2,h2,s2⟩;refine⟨trivial,hk _ _ ⟨t2,_,_,_,_,_,rfl,?_,ok2,h2,s2⟩⟩;rw[e1,e2,jak];rfl
   ·rintro j x ς G2 K2 hx ⟨t2,O,rfl,e2,ok2,h2,s2⟩ hk2;obtain⟨hj,rfl⟩:=jaC hx;obtain⟨a1,va,c1,_,_,_,g1,x1⟩:=h2.ix ok2 (show j+y.p<m by lia) oy.t
    obtain⟨a2,ja,c2,_,_,_,g2,x2⟩:=h2.ix ok2 (show j<m by lia) oy.o
    refine⟨trivial,?_⟩;simp! only[];rw[show(j:Int)+(y.p:Int)=((j+y.p:Nat):Int) by lia]
    simp! only[ix_l h2.gp (atL c1),ix_l g1 x1,ix_l h2.gp (atL c2),ix_l g2 x2,jkK];refine jkp h2 ok2 (by lia) oy.t c1 λG3 h3 s3=>?_
    exact hk2 _ _ ⟨rlx y t2 j,_,rfl,by rw[jiT,<- e2],(jff oy ok2 hj).1,h3,s2.trans s3⟩

def jos   W:(Yag W [U.int 0]).flatten=(Yag W (0:Int)).map U.int:=by
 simp_all
def ji6  (a b c d e:U):cut [a,b,c,d,e] (some 1) (some 3)=[b,c]:=rfl
structure Rows (G0 G:Gp)(as:List Addr)(t:Tb):Prop where
 l:as.length=t.length
 nd:as.Nodup
 fr:∀a∈as,G0 a=none
 ga:∀(i:Nat) (a:Addr) (row:List Int),as[i]?=some a->t[i]?=some row->G a=some (.lst (row.map .int))
def Rows.nil  {G0 G:Gp}:Rows G0 G [] []:=⟨rfl,YeC,λ_ h=>(nomatch h),λ_ _ _ h=>by cases h⟩
def Rows.mem  {G0 G:Gp}(h:Rows G0 G as t)(z:a∈as):∃o,G a=some o:=by
 obtain⟨i,y,e⟩:=YfD z;have j:i<t.length:=by rw[<- h.l];exact y
 exact⟨_,h.ga i a t[i] (by simp_all) (Yah j)⟩
def Rows.sa  {G0 G j:Gp}(h:Rows G0 G as t)(s:Sa G j):Rows G0 j as t:=⟨h.l,h.nd,h.fr,λi a r y z=>s _ _ (h.ga i a r y z)⟩
def Rows.add  {G0 G J:Gp}(h:Rows G0 G as t)(s0:Sa G0 G)(n:New G p (.lst (row.map .int)) J):Rows G0 J (as++[p]) (t++[row]):=by
 refine⟨by simp[h.l],?_,λa I=>?_,λi a r F y=>?_⟩
 ·refine List.nodup_append.mpr ⟨h.nd,by simp,λa I b Z=>?_⟩
  rw[List.mem_singleton.mp Z];obtain⟨o,Y⟩:=h.mem I;exact Ne.symm (jb1 Y n.no)
 ·rcases List.mem_append.mp I with z|z
  ·exact h.fr a z
  ·rw[List.mem_singleton.mp z];exact jlr s0 n.no
 ·by_cases L:i<as.length
  ·rw[YbG L]at F;rw[YbG (by rw[<- h.l];exact L)]at y
   exact n.sa _ _ (h.ga i a r F y)
  ·rw[Ycd (by lia)]at F
   rw[Ycd (by rw[<- h.l];lia),<- h.l]at y
   cases O:i-as.length with
   |zero=>rw[O]at F y;cases F;cases y;exact n.at
   |succ j=>simp_all
def Rows.tb  {G0 G j:Gp}(h:Rows G0 G as t)(n:New G p (.lst (as.map .loc)) j):TbA j p as t:=
 ⟨n.at,h.l,h.nd,λz=>by
  obtain⟨o,F⟩:=h.mem z;exact jb1 F n.no rfl,λi a r y I=>n.sa _ _ (h.ga i a r y I)⟩

def jfv  {X: KX}(h:TbA G pt as R)(Z:as.length<=12)(Y:O[7]?=some (some (.loc pt)))(q:∀j,Sa G j->Q (tbU R) j):jat T.gs (jab T k) jaS ⟨λ_ j=>Q .non j,Q,λx _ j=>X x j⟩ O G:=by
 simp! only[jaS];unfold slot;rw[Y];dsimp only;rw[it_l h.gp];refine⟨by rw[Yaa];exact Yaf Z (by decide),?_⟩
 refine jan (λi y j=>j=G/\y=(R.take i).map jaf) ?_ ?_ ⟨rfl,rfl⟩
 ·rintro y L ⟨rfl,rfl⟩;refine⟨by unfold lsG;rw[h.gp],λp G2 I=>?_⟩
  simp! only[it_l I.at];rw[Yaa,h.l,Ybr];exact q _ I.sa
 ·rintro i x y L K z ⟨rfl,rfl⟩ hk _;rw[Yau]at z;cases F:as[i]? with
  |none=>simp_all
  |some a=>
   rw[F]at z;have z:=(Yaw z).symm;subst z;have J:i<R.length:=by rw[<- h.l];grind
   have g:=h.ga i a _ F (Yah J);refine⟨by unfold lsG;rw[h.gp],?_⟩
   simp! only[it_l g];refine hk _ _ ⟨rfl,?_⟩;rw[Ybh,Yah J,YaH];rfl
def jdH  {w:Wd}(O:w.Ok)(hw:jaL w.ss w.bs w.P w.wt ys)(hr:Runs w.m ys (ini w.m w.xs.length w.gv) R)(q:∀I,Sa G I->Q (tbU R) I):jab T (k+2) jcl [w.u] G Q X:=by
 have hP:0<w.P:=by have:=O.p1;lia
 have hy:=je8 hP O.p6 O.so O.bb hw;have hm:=O.m2;have hW:=O.x8;obtain⟨wl,wg⟩:=jeG hw;refine⟨rfl,?_⟩;simp! only[jcq,jah,Yag,Wd.u];refine⟨trivial,by lia,by lia,by rw[jak];exact Yaf hm (by decide),?_⟩
 refine jan (λi j I=>∃J:List Addr,j=J.map .loc/\Sa G I/\Rows G I J (zer i w.xs.length)) ?_ ?_ ⟨[],rfl,Sa.refl,Rows.nil⟩
 ·rintro j G1 ⟨J,rfl,s1,r1⟩;rw[jak]at r1;refine⟨trivial,λpt G2 Z=>?_⟩;have xb:=r1.tb Z;have s2:=s1.trans Z.sa;have al:J.length=w.m:=by rw[xb.l];simp[zer]
  simp! only[];refine jav (λi ς I=>∃o8 o9 o10:Option U,ς=[some w.u,some w.plan,some (.int w.P),some (jaf w.bs),some (jau w.wt),some (.tup (w.gv.map gU)),some (.int w.m),some (.loc pt),o8,o9,o10,none,none,none,none,none,none]/\TbOk w.m w.xs.length (ini w.m w.xs.length (w.gv.take i))/\TbA I pt J (ini w.m w.xs.length (w.gv.take i))/\Sa G I) ?_ ?_ ⟨_,_,_,rfl,jgD,xb,s2⟩
  ·rintro ς G3 ⟨o8,o9,o10,rfl,ok3,tb3,s3⟩;rw[Yaa,Ybr]at ok3 tb3;refine⟨trivial,?_⟩;simp! only[jbV,jau];refine⟨by rw[Yaa];exact Yaf O.wl (by decide),?_⟩
   refine jan (λi j I=>I=G3/\j=(ys.take i).map legU) ?_ ?_ ⟨rfl,rfl⟩
   ·rintro j G4 ⟨rfl,rfl⟩;refine⟨trivial,λpg G5 n5=>?_⟩;rw[Yaa,wl,Ybr]at n5;have wa:=tb3.sa n5.sa;have s5:=s3.trans n5.sa;have Y:pg∉J:=λz=>by
     obtain⟨o,ho⟩:=tb3.mem z;exact jb1 ho n5.no rfl
    simp! only[jbU,jbT]
    try rw[S_wh]
    refine⟨λn ς I=>∃(t:Tb) (b:Bool) (lu:U) (l9 xa ja za ya:Option U),ς=[some w.u,some w.plan,some (.int w.P),some (jaf w.bs),some (jau w.wt),some (.tup (w.gv.map gU)),some (.int w.m),some (.loc pt),o8,l9,o10,some (.loc pg),some lu,xa,ja,za,ya]
     /\ (∀kk:Bool->Prop,kk (!b)->cmpU .NotEq (.loc pt) lu I kk)/\TbOk w.m w.xs.length t/\TbA I pt J t/\Sa G I/\I pg=some (.lst (ys.map legU))/\(b=false->Runs w.m ys t R/\n=(95904-tot t).toNat+1)/\(b=true->t=R/\n=0),
     ⟨_,_,false,.non,_,_,_,_,_,rfl,λkk hk=>⟨_,_,wa.du,.non,jdr _,⟨rfl,by decide⟩,hk⟩,ok3,wa,s5,n5.at,λ_=>⟨hr,rfl⟩,λz=>(nomatch z)⟩,?_⟩
    rintro n ς G6 ⟨t,b,lu,l9,xa,ja,za,ya,rfl,hc,ok6,tb6,s6,g6,hf,ht⟩;simp! only[];refine hc _ ?_;cases b with
    |true=>
     rw[if_neg (by decide)]
     obtain⟨rfl,_⟩:=ht rfl;exact jfv tb6 (by lia) rfl λI s'=>q _ (s6.trans s')
    |false=>
     rw[if_pos (by decide)]
     obtain⟨zb,hn⟩:=hf rfl;simp! only[jba,it_l tb6.gp];refine⟨by rw[Yaa];exact Yaf (show J.length<=12 by lia) (by decide),?_⟩
     refine jan (λi j I=>∃bs:List Addr,j=bs.map .loc/\Sa G6 I/\Rows G6 I bs (t.take i)) ?_ ?_ ⟨[],rfl,Sa.refl,Rows.nil⟩
     ·rintro j G7 ⟨bs,rfl,s7,r7⟩;rw[Yaa,tb6.l,Ybr]at r7;refine⟨by unfold lsG;rw[s7 _ _ tb6.gp],λpl G8 n8=>?_⟩
      have vb:=r7.tb n8;have s8:=s7.trans n8.sa;have wb:=tb6.sa s8;have g8:=s8 _ _ g6;simp! only[it_l g8];refine law_pass (k:=k+1) (Q:=Q) (X:=X) wb ok6 hm hy g8 Y λG9 l9 xa ja za ya va s9=>?_;have yb:=vb.keep s9 (λz=>by
       obtain⟨o,ho⟩:=tb6.mem z;exact jb1 (s7 _ _ ho) n8.no rfl) λa ha z=>by
       obtain⟨o,ho⟩:=tb6.mem z;rw[r7.fr a ha]at ho;cases ho
      obtain⟨u1,u2⟩:=jeh hy ok6;have b1:=ok6.tot hm hW;have b2:=u1.tot hm hW;have kb:∀kk:Bool->Prop,kk (!decide (pss w.m ys t=t))->cmpU .NotEq (.loc pt) (.loc pl) G9 kk:=λkk hk=>⟨_,_,va.du,yb.du,jdr _,jdr _,by rw[jmM];exact hk⟩
      have ka:Sa G G9:=λb o e=>s9 b o (λz=>by
       have:=r1.fr b z
       lia) (s8 _ _ (s6 _ _ e))
      by_cases e:pss w.m ys t=t
      ·refine⟨0,by lia,pss w.m ys t,true,.loc pl,_,_,_,_,_,rfl,?_,u1,va,ka,s9 _ _ Y g8,λz=>(nomatch z),λ_=>⟨?_,rfl⟩⟩
       ·simp_all
       ·rw[e];cases zb with
        |stop _=>rfl
        |go n _=>lia
      ·have u3:=u2.resolve_left e;refine⟨(95904-tot (pss w.m ys t)).toNat+1,by lia,pss w.m ys t,false,.loc pl,_,_,_,_,_,rfl,?_,u1,va,ka,s9 _ _ Y g8,λ_=>⟨?_,rfl⟩,λz=>(nomatch z)⟩
       ·simp_all
       ·cases zb with
        |stop z=>lia
        |go _ b=>exact b
     ·rintro i x j G7 K F ⟨bs,rfl,s7,r7⟩ hk _;rw[Yau]at F;cases L:J[i]? with
      |none=>simp_all
      |some a=>
       rw[L]at F;have F:=(Yaw F).symm;subst F;have hi:i<t.length:=by rw[<- tb6.l];grind
       have g:=s7 _ _ (tb6.ga i a _ L (Yah hi));refine⟨by unfold lsG;rw[s7 _ _ tb6.gp],?_⟩
       simp! only[it_l g];intro p G8 n8;refine hk _ _ ⟨bs++[p],by simp,s7.trans n8.sa,?_⟩
       rw[Ybh,Yah hi];exact r7.add s7 n8
   ·rintro i x j G4 K F ⟨rfl,rfl⟩ hk _;rw[Yau]at F;cases L:w.wt[i]? with
    |none=>simp_all
    |some s=>
     rw[L]at F;have F:=(Yaw F).symm;subst F;obtain⟨sp,x,y,ha,hd,jb⟩:=wg i s L;refine⟨trivial,?_⟩;simp! only[Wd.plan,ix_t (jcc _ _ _),ix_t (atM ha.s),Spn.u,ji6];refine jg0 (xs:=w.xs) ha hP O.p6 hd ?_;simp! only[];refine⟨by decide,hk _ _ ⟨rfl,?_⟩⟩
     rw[Ybh,jb,YaH];rfl
  ·rintro i x ς G3 K F ⟨o8,o9,o10,rfl,ok3,tb3,s3⟩ hk;rw[Yau]at F;cases L:w.gv[i]? with
   |none=>simp_all
   |some g=>
    rw[L]at F;have F:=(Yaw F).symm;subst F;have og:=O.gg g (Yas L);obtain⟨a1,hb,c1,_,_,_,g1,x1⟩:=tb3.ix ok3 og.t og.w;refine⟨trivial,?_⟩;simp! only[gU,ix_l tb3.gp (atL c1),ix_l g1 x1,jkK];refine⟨trivial,jkp tb3 ok3 og.t og.w c1 λG4 h4 s4=>?_⟩;refine hk _ _ ⟨_,_,_,rfl,?_,?_,s4.sa r1.fr s3⟩
    ·rw[jhb L];exact(jg5 og ok3).1
    ·rw[jhb L];exact h4
 ·rintro i x j G1 K F ⟨J,rfl,s1,r1⟩ hk _;obtain⟨hi,rfl⟩:=jaC F;refine⟨trivial,?_⟩;simp! only[Wd.plan,ix_t (jfS _ _),Yaa];refine⟨by decide,λp G2 Z=>⟨_,Z.at,by lia,by lia,?_,λp3 G3 n3=>?_⟩⟩
  ·exact Yaf (show(0+1)*w.xs.length<=8 by lia) (by decide)
  ·rw[jos]at n3;refine hk _ _ ⟨J++[p3],by simp,(s1.trans Z.sa).trans n3.sa,?_⟩
   have:=(r1.sa Z.sa).add (s1.trans Z.sa) n3;have e:zer (i+1) w.xs.length=zer i w.xs.length++[Yag w.xs.length 0]:=by unfold zer;rw[List.replicate_succ']
   simp_all

mutual
inductive Th (G:Gp):U->PyData->Prop
 |non:Th G .non .none
 |bl (b:Bool):Th G (.bl b) (.bool b)
 |int (i:Int):Th G (.int i) (.int i)
 |str (x:Str):Th G (.str x) (.str x)
 |tup {us:List U} {ds:List PyData}:Ths G us ds->Th G (.tup us) (.tuple ds)
 |lst {a:Addr} {us:List U} {ds:List PyData}:G a=some (.lst us)->Ths G us ds->Th G (.loc a) (.list ds)
 |dic {a:Addr}:G a=some (.dK [])->Th G (.loc a) (.dict [])
inductive Ths (G:Gp):List U->List PyData->Prop
 |nil:Ths G [] []
 |cons {u:U} {d:PyData} {us:List U} {ds:List PyData}:Th G u d->Ths G us ds->Ths G (u::us) (d::ds)
end
mutual
theorem Th.du {G:Gp}:∀{u:U} {d:PyData},Th G u d->DU G u d
 |_,_,.non=>.non
 |_,_,.bl b=>.bl b
 |_,_,.int i=>.int i
 |_,_,.str x=>.str x
 |_,_,.tup h=>.tup (Ths.dus h)
 |_,_,.lst g h=>.lst (by unfold lsG;rw[g]) (Ths.dus h)
 |_,_,.dic g=>.dic g
theorem Ths.dus {G:Gp}:∀{us:List U} {ds:List PyData},Ths G us ds->DUs G us ds
 |_,_,.nil=>.nil
 |_,_,.cons a b=>.cons (Th.du a) (Ths.dus b)
end
mutual
theorem Th.mono {G F:Gp}{f c:Addr}(j:Fd G f c)(s:Sm f G F):∀{u:U} {d:PyData},Th G u d->Th F u d
 |_,_,.non=>.non
 |_,_,.bl b=>.bl b
 |_,_,.int i=>.int i
 |_,_,.str x=>.str x
 |_,_,.tup h=>.tup (Ths.mono j s h)
 |_,_,.lst g h=>.lst (s _ _ (λe=>by obtain⟨J,x,y,z,I,_⟩:=j.ex;lia) g) (Ths.mono j s h)
 |_,_,.dic g=>.dic (s _ _ (λe=>by obtain⟨J,x,y,z,I,_⟩:=j.ex;rw[e,I]at g;cases g) g)
theorem Ths.mono {G j:Gp}{f c:Addr}(y:Fd G f c)(s:Sm f G j):∀{us:List U} {ds:List PyData},Ths G us ds->Ths j us ds
 |_,_,.nil=>.nil
 |_,_,.cons a b=>.cons (Th.mono y s a) (Ths.mono y s b)
end
mutual
theorem Th.sa {G j:Gp}(s:Sa G j):∀{u:U} {d:PyData},Th G u d->Th j u d
 |_,_,.non=>.non
 |_,_,.bl b=>.bl b
 |_,_,.int i=>.int i
 |_,_,.str x=>.str x
 |_,_,.tup h=>.tup (Ths.sa s h)
 |_,_,.lst g h=>.lst (s _ _ g) (Ths.sa s h)
 |_,_,.dic g=>.dic (s _ _ g)
theorem Ths.sa {G j:Gp}(s:Sa G j):∀{us:List U} {ds:List PyData},Ths G us ds->Ths j us ds
 |_,_,.nil=>.nil
 |_,_,.cons a b=>.cons (Th.sa s a) (Ths.sa s b)
end
section
variable {G:Gp}
theorem Ths.get  : ∀{us } {ds } {i:Nat} {u },Ths G us ds->us[i]?=some u->∃d,ds[i]?=some d/\Th G u d
 |_,_,_,_,.nil,e=>by simp at e
 |_,_,0,_,.cons a _,e=>by simp_all
 |_,_,i+1,u,.cons _ b,e=>by
  obtain⟨d,j,h⟩:=Ths.get (i:=i) (u:=u) b (by simpa using e)
  simp_all
end
noncomputable def kdD  : PyData->String
 |.none => "NoneType"
 |.bool _ => "bool"
 |.int _ => "int"
 |.str _ => "str"
 |.tuple _ => "tuple"
 |.list _ => "list"
 |.dict _ => "dict"
def isD  (d:PyData)(t:String):Bool:=kdD d==t||(kdD d == "bool" && t == "int")
def jo7     (h:Th G u d):tyN u G=some (kdD d):=by
 cases h with
 |lst g _=>unfold tyN;dsimp only;rw[g];rfl
 |dic g=>unfold tyN;dsimp only;rw[g];rfl
 |_=>rfl
def jaJ       (h:Th G u d)(j:t∈["bool", "int", "str", "list", "tuple", "dict"]):jhC [u,.ty t] G Q=Q (.bl (isD d t)) G:=by
 unfold jhC isiU;dsimp only;rw[jo7 h];dsimp only;rw[if_pos j];rfl
noncomputable def isI  : U->Bool
 |.int _=>true
 |_=>false
noncomputable def inI  (lo hi:Int):U->Bool
 |.int i=>decide (lo<=i)&&decide (i<=hi)
 |_=>false
noncomputable def nnB  : U->Bool
 |.int i=>decide (0<=i)
 |_=>false
def rowB  (W:Nat):U->Bool
 |.tup j=>decide (j.length=W)&&j.all nnB
 |_=>false
def tabB  (W m:Nat):U->Bool
 |.tup j=>decide (j.length=m)&&j.all (rowB W)
 |_=>false

def jeQ  (h:Th G u d)(q:Q (.bl (isI u)) G):jab T (k+1) jce [u] G Q X:=by
 refine⟨rfl,?_⟩;simp! only[jez,jah,Yag,jaJ h (show "int" ∈ ["bool", "int", "str", "list", "tuple", "dict"] by decide),jaJ h (show "bool" ∈ ["bool", "int", "str", "list", "tuple", "dict"] by decide)]
 cases h<;>exact q
def jiq   (h:Th G u d)(q:Q (.bl (inI lo hi u)) G):jab T (k+2) jdO [u,.int lo,.int hi] G Q X:=by
 refine⟨rfl,?_⟩;simp! only[jd6,jah,Yag];refine jeQ h ?_;simp! only[];cases h with
 |int i=>
  rw[show isI (.int i)=true from rfl,if_pos rfl];simp! only[];by_cases c:lo<=i
  ·rw[if_pos (decide_eq_true c)];have:inI lo hi (.int i)=decide (i<=hi):=by show(decide (lo<=i)&&_)=_;lia
   lia
  ·rw[if_neg (by lia)]
   have:inI lo hi (.int i)=false:=by show(decide (lo<=i)&&_)=_;lia
   lia
 |_=>exact q
def jbl  (h:Th G u d)(q:Q (.bl (isI u)) G):jab T (k+1) jaF [u] G Q X:=by
 refine⟨rfl,?_⟩;simp! only[jct,jah,Yag,jaJ h (show "int" ∈ ["bool", "int", "str", "list", "tuple", "dict"] by decide),jaJ h (show "bool" ∈ ["bool", "int", "str", "list", "tuple", "dict"] by decide)]
 cases h<;>exact q
theorem jcS  {j:Type} f:∀l:List j,jd9 (l.map λx=>U.bl (f x))=some (l.map f)
 |[]=>rfl
 |a::l=>by
  show(match jd9 (l.map λx=>U.bl (f x))with|some bs=>some (f a::bs)|none=>none)=_
  rw[jcS f l];rfl
def jgA  {j:Type} f (l:List j):(l.map f).all id=l.all f:=by simp_all
def jf7  {W:Nat}(h:Th G u d)(Z:∀us,u=.tup us->us.length<=200)(q:∀z,Sa G z->Q (.bl (rowB W u)) z):jab T (k+2) jcK [u,.int W] G Q X:=by
 refine⟨rfl,?_⟩;simp! only[jcQ,jah,Yag,jaJ h (show "tuple" ∈ ["bool", "int", "str", "list", "tuple", "dict"] by decide)]
 cases h with
 |@tup us J Y=>
  rw[show isD (.tuple J) "tuple" = true from rfl,if_pos rfl];simp! only[];by_cases c:us.length=W
  ·have e:rowB W (.tup us)=us.all nnB:=by show(decide _&&_)=_;lia
   rw[if_neg (by simp[c])]
   refine⟨Yaf (Z us rfl) (by decide),jfK (λx=>.bl (nnB x)) trivial (λx I K O=>?_) λp F y=>?_⟩
   ·obtain⟨n,L⟩:=List.mem_iff_getElem?.mp I;obtain⟨_,_,j⟩:=Y.get L;refine jeQ j ?_;cases j<;>exact O
   ·show allU [.loc p] F Q;unfold allU;dsimp only;rw[y.at];dsimp only;rw[Yb3,jcS];dsimp only;rw[jgA,<- e];exact q _ y.sa
  ·have e:rowB W (.tup us)=false:=by show(decide _&&_)=_;lia
   rw[if_pos (by lia)]
   rw[<- e];exact q _ Sa.refl
 |_=>exact q _ Sa.refl
def shD  : U->Prop
 |.tup y=>y.length<=200/\∀x∈y,∀j,x=.tup j->j.length<=200
 |_=>True
def jga  {W m:Nat}(h:Th G u d)(O:shD u)(q:∀z,Sa G z->Q (.bl (tabB W m u)) z):jab T (k+3) jem [u,.int W,.int m] G Q X:=by
 refine⟨rfl,?_⟩;simp! only[jeA,jah,Yag,jaJ h (show "tuple" ∈ ["bool", "int", "str", "list", "tuple", "dict"] by decide)]
 cases h with
 |@tup y ds hs=>
  rw[show isD (.tuple ds) "tuple" = true from rfl,if_pos rfl];simp! only[];by_cases c:y.length=m
  ·have e:tabB W m (.tup y)=y.all (rowB W):=by show(decide _&&_)=_;lia
   rw[if_neg (by simp[c])]
   refine⟨Yaf O.1 (by decide),jan (λi j z=>Sa G z/\j=(y.take i).map λx=>.bl (rowB W x)) ?_ ?_ ⟨Sa.refl,rfl⟩⟩
   ·rintro j G1 ⟨s1,ea⟩;refine⟨trivial,λp J L=>?_⟩;show allU [.loc p] J Q;unfold allU;dsimp only;rw[L.at];dsimp only;rw[ea,Ybr,jcS];dsimp only;rw[jgA,<- e];exact q _ (s1.trans L.sa)
   ·rintro i x j G1 K F ⟨s1,ea⟩ hk _;refine⟨trivial,?_⟩;obtain⟨_,_,I⟩:=hs.get F;refine jf7 (I.sa s1) (λY Z=>O.2 x (Yas F) Y Z) λJ s2=>?_;refine hk _ _ ⟨s1.trans s2,?_⟩;rw[ea,Ybh,F];simp
  ·have e:tabB W m (.tup y)=false:=by show(decide _&&_)=_;lia
   rw[if_pos (by lia)]
   rw[<- e];exact q _ Sa.refl
 |_=>exact q _ Sa.refl

structure TbN (m W:Nat)(t:Tb):Prop where
 l:t.length=m
 w:∀x∈t,x.length=W
 n:∀x∈t,∀z∈x,0<=z
def jjv    (h:rowB W u=true):∃x ,u=jaf x/\x.length=W/\∀z∈x,0<=z:=by
 have I:∀j:List U,j.all nnB=true->∃x:List Int,j=x.map .int/\∀z∈x,0<=z:=by
  intro j
  induction j with
  |nil=>simp_all
  |cons u j J=>
   intro h;rw[Ybj,Yaq]at h;obtain⟨x,rfl,F⟩:=J h.2;cases u with
   |int i=>exact⟨i::x,rfl,λz y=>by
     rcases Yap.mp y with rfl|y
     ·exact of_decide_eq_true h.1
     simp_all⟩
   |_=>cases h.1
 cases u with
 |tup j=>
  have h:(decide (j.length=W)&&j.all nnB)=true:=h;rw[Yaq,decide_eq_true_eq]at h;obtain⟨x,rfl,F⟩:=I j h.2;exact⟨x,rfl,by simp_all,F⟩
 |_=>cases h
def jkr    (h:tabB W m u=true):∃t ,u=tbU t/\TbN m W t:=by
 have L:∀j:List U,j.all (rowB W)=true->∃t:Tb,j=t.map jaf/\∀x∈t,x.length=W/\∀z∈x,0<=z:=by
  intro j
  induction j with
  |nil=>simp_all
  |cons u j O=>
   intro h;rw[Ybj,Yaq]at h;obtain⟨t,rfl,I⟩:=O h.2;obtain⟨x,rfl,Y,F⟩:=jjv h.1;exact⟨x::t,rfl,λy J=>by
    rcases Yap.mp J with rfl|J
    ·exact⟨Y,F⟩
    ·exact I y J⟩
 cases u with
 |tup j=>
  have h:(decide (j.length=m)&&j.all (rowB W))=true:=h;rw[Yaq,decide_eq_true_eq]at h;obtain⟨t,rfl,I⟩:=L j h.2;exact⟨t,rfl,by simp_all,λx F=>(I x F).1,λx F=>(I x F).2⟩
 |_=>cases h
def TbOk.tn    (h:TbOk m W t):TbN m W t:=⟨h.1,h.2,λx y z j=>(h.3 x y z j).1⟩
section
variable {m W:Nat}{t:Tb}
def TbN.row  (h:TbN m W t)(hr:r<m):∃x,t[r]?=some x/\t.getD r []=x/\x.length=W:=by
 have hr:r<t.length:=by rw[h.l];exact hr
 exact⟨t[r],Yah hr,by simp_all,h.w _ (YaM hr)⟩
def TbN.ix  (h:TbN m W t)(hr:r<m)(z:c<W){kk:K1}(q:kk (.int (gt t r c)) G):ixU (tbU t) (.int r) G λy j=>ixU y (.int c) j kk:=by
 obtain⟨x,F,I,J⟩:=h.row hr;have z:c<x.length:=by lia
 show(match atI (t.map jaf) (r:Int)with|some u=>(λy j=>ixU y (.int c) j kk) u G|none=>False)
 rw[atM F];show(match atI (x.map U.int) (c:Int)with|some u=>kk u G|none=>False)
 rw[atM (Yah z)];have:gt t r c=x[c]:=by unfold gt;simp_all
 lia
end
def spt  (t:Tb)(W:Nat)(r:Nat):List (Nat×Nat):=((YaA W).filter λc=>decide (0<gt t r c)).map λc=>(r,c)
def spts  (t:Tb)(m W:Nat):List (Nat×Nat):=(YaA m).flatMap (spt t W)
noncomputable def spU  (p:Nat×Nat):U:=.tup [.int p.1,.int p.2]
def plU  (t:Tb)(p:Nat×Nat):U:=.tup [.int p.2,.int p.1,.int (gt t p.1 p.2)]

theorem jhk     : ∀{xs } (I:Nat->List U->Gp->Prop) (_:∀acc G,I xs.length acc G->ok G/\k acc G)
  (_:∀i x acc G K ,xs[i]?=some x->I i acc G->(∀j z,I (i+1) j z->K j z)->ok G/\b x acc G K) {acc } {G } (_:I 0 acc G),jgt ok b xs acc G k
 |[],_,h0,_,_,_,h=>h0 _ _ h
 |x::_,I,h0,h1,_,_,h=>h1 0 x _ _ _ rfl h λ_ _ J=>jhk (λi=>I (i+1)) h0 (λi y a G K e F hk=>h1 (i+1) y a G K e F hk) J
section
variable {k:Nat}{G:Gp}{Q:K1}{X:KX}{m W:Nat}{t:Tb}
def spj  (t:Tb)(r j:Nat):List (Nat×Nat):=((YaA j).filter λc=>decide (0<gt t r c)).map λc=>(r,c)
def jds   : spj t r (j+1)=spj t r j++(if 0<gt t r j then [(r,j)] else []):=by
 unfold spj;rw[Yby,YbW,YaH]
 grind
def jdD   : spts t (r+1) W=spts t r W++spj t r W:=by
 unfold spts;rw[Yby,List.flatMap_append];simp[spt,spj]
def jh5   : (spj t r j).length<=j:=by
 unfold spj
 grind
theorem jgR  : ∀{r },(spts t r W).length<=r*W
 |0=>by simp[spts]
 |r+1=>by
  rw[jdD,Yat,Yfp];exact YeR jgR jh5
def jaz   (hr:r<=12)(j:W<=8):(spts t r W).length<=96:=Yaf jgR (YeQ hr j)
def jck  (h:TbN m W t)(hm:m<=12)(hW:W<=8)(q:∀p F,F p=some (.lst ((spts t m W).map (plU t)))->Sa G F->Q (.loc p) F):jab T (k+1) jbO [tbU t] G Q X:=by
 refine⟨rfl,?_⟩;simp! only[jcP,jah,Yag];show jgt _ _ (jc4 0 (t.map jaf)) [] G _;refine jhk (λi z F=>F=G/\z=(spts t i W).map (plU t)) ?_ ?_ ⟨rfl,rfl⟩
 ·rintro z O ⟨rfl,rfl⟩;rw[jbm,Yaa,h.l];exact⟨trivial,λp J Y=>q p J Y.at Y.sa⟩
 ·rintro i x z O K hx ⟨rfl,rfl⟩ hk;refine⟨trivial,?_⟩;obtain⟨y,I,rfl⟩:=jbS hx;have hi:i<m:=by
   have:=(List.getElem?_eq_some_iff.mp I).1;rw[Yaa,h.l]at this;lia
  obtain⟨row,e1,e2,Z⟩:=h.row hi;rw[Yau,e1]at I;cases I;rw[Ycs];simp! only[];refine⟨trivial,?_⟩;show _/\jcR _ _ (jc4 0 (row.map .int)) _ _ _;refine⟨?_,jan (λj z F=>F=O/\z=(spts t i W).map (plU t)++(spj t i j).map (plU t)) ?_ ?_ ⟨rfl,by simp[spj]⟩⟩
  ·rw[jbm,Yaa,Yaa,Z];have:=jaz (t:=t) (r:=i) (W:=W) (by lia) hW
   exact Yaf (show _<=104 by lia) (by decide)
  ·rintro z J ⟨rfl,rfl⟩;rw[jbm,Yaa,Z];refine⟨trivial,hk _ _ ⟨rfl,?_⟩⟩;rw[jdD,YaH]
  ·rintro j x z J K2 L ⟨rfl,rfl⟩ hs hn;refine⟨trivial,?_⟩;obtain⟨y,I,rfl⟩:=jbS L;have hj:j<row.length:=by
    grind
   rw[Yau,Yah hj]at I;cases I;have eg:gt t i j=row[j]:=by unfold gt;grind
   rw[Ycs];simp! only[];refine⟨trivial,?_⟩;show(if decide (0<row[j])=true then _ else _)
   by_cases c:0<row[j]
   ·rw[if_pos (decide_eq_true c)];refine⟨by decide,hs _ _ ⟨rfl,?_⟩⟩
    rw[jds,if_pos (by lia),YaH,Yc4,<- eg]
    rfl
   ·rw[if_neg (by lia)]
    refine hn _ ⟨rfl,?_⟩;rw[jds,if_neg (by lia)]
    simp
end

def spB  (m:Nat)(t:Tb)(y:Wy):Bool:=(YaA (m-y.p)).all λi=>decide (gt t i y.o-y.b<=gt t (i+y.p) y.t)

def jeR  (a:At ss bs s sp x y)(Y:0<P)(h6:P<=600)(dl:dif sp x y<P)(O:TbN m W t)(hm:m<=12)(ho:sp.o<W)(I:sp.t<W)(np:(wyOf P s sp x y).p<=20000)(q:∀F,Sa G F->Q (.bl (spB m t (wyOf P s sp x y))) F) :
  jab T (k+3) jdb [jas xs ss,.int P,jaf bs,.int m,tbU t,.int s] G Q X:=by
 refine⟨rfl,?_⟩;simp! only[jdg,jah,Yag,jas,ix_t (jcc _ _ _),ix_t (atM a.s)];rw[show sp.u=.tup [.str sp.w,.int sp.o,.int sp.t,.int sp.lo,.int sp.hi]from rfl];simp! only[];refine⟨trivial,?_⟩;refine jej (k:=k) (xs:=xs) a Y h6 dl ?_;simp! only[];refine jda (k:=k) (xs:=xs) a Y ?_;simp! only[];have J:spB m t (wyOf P s sp x y)=(YaA (m-(wyOf P s sp x y).p)).all λi=>decide (gt t i sp.o-dif sp x y%P<=gt t (i+(wyOf P s sp x y).p) sp.t):=rfl;obtain⟨n,hn⟩:∃n,n=(wyOf P s sp x y).p:=⟨_,rfl⟩;rw[<- hn]at np J ⊢;refine⟨by lia,by lia,?_⟩
 have en:((m:Int)-(n:Int)).toNat=m-n:=by lia
 rw[en];refine⟨by rw[jak];exact Yaf (Nat.sub_le _ _) (Yaf hm (by decide)),?_⟩
 refine jan (λi j F=>F=G/\j=(YaA i).map λi=>U.bl (decide (gt t i sp.o-dif sp x y%P<=gt t (i+n) sp.t))) ?_ ?_ ⟨rfl,rfl⟩
 ·rintro j Z ⟨rfl,ea⟩;refine⟨trivial,λp G2 L=>?_⟩;show allU [.loc p] G2 Q;unfold allU;dsimp only;rw[L.at];dsimp only;rw[ea,jak,jcS];dsimp only;rw[jgA,<- J];exact q _ L.sa
 ·rintro i z j Z K hx ⟨rfl,ea⟩ hk _;obtain⟨hi,rfl⟩:=jaC hx;refine⟨trivial,?_⟩;simp! only[];rw[show((i:Int)+(n:Int))=((i+n:Nat):Int) by lia]
  refine O.ix (r:=i+n) (c:=sp.t) (by lia) I ?_
  simp! only[];refine O.ix (r:=i) (c:=sp.o) (by lia) ho ?_
  simp! only[];refine hk _ _ ⟨rfl,?_⟩;rw[ea,Yby,YaH];rfl

def lg  (w:Wd)(s:Nat):Wy:=match w.ss[s]? with
 |some j=>wyOf w.P s j (w.bs.getD j.o 0) (w.bs.getD j.t 0)
 |none=>⟨s,0,0,0,0⟩
noncomputable def ledZ  (w:Wd):List U->Nat->Int->Int->Option (Nat×Int×Int)
 |[],a,b,c=>some (a,b,c)
 |.int z::us,a,b,c=>if 0<=z/\z.toNat∈w.wt/\(lg w z.toNat).o=a then ledZ w us (lg w z.toNat).t (b+(lg w z.toNat).p) (c-(lg w z.toNat).b) else none
 |_::_,_,_,_=>none
def jiN      (q:k (decide (0<=z/\z.toNat∈ns))):inU (.int z) (jau ns) G k:=by
 have e:((ns.map λn:Nat=>U.int (n:Int)).any λy=>eqF y (.int z))=decide (0<=z/\z.toNat∈ns):=by
  rw[YbL,List.any_eq_true,decide_eq_true_iff];constructor
  ·rintro⟨u,hu,h⟩;obtain⟨n,F,rfl⟩:=List.mem_map.mp hu;have:(n:Int)=z:=by simpa[eqF]using h
   exact⟨by lia,by rw[<- this];exact F⟩
  ·rintro⟨h0,j⟩;exact⟨_,List.mem_map.mpr ⟨_,j,rfl⟩,by simp[eqF];lia⟩
 unfold jau inU;dsimp only;exact⟨rfl,by simp[flat],by lia⟩
def jft    (j:w.Ok)(z:jaL w.ss w.bs w.P w.wt ys)(hs:s∈w.wt):∃sp x y,At w.ss w.bs s sp x y/\dif sp x y<w.P/\lg w s=wyOf w.P s sp x y/\(lg w s).Ok w.xs.length:=by
 obtain⟨i,I⟩:=List.mem_iff_getElem?.mp hs;obtain⟨sp,x,y,a,d,e⟩:=(jeG z).2 i s I;have F:lg w s=wyOf w.P s sp x y:=by
  unfold lg;rw[a.s];dsimp only;rw[show w.bs.getD sp.o 0=x by rw[Ybf,a.x];rfl,show w.bs.getD sp.t 0=y by rw[Ybf,a.y];rfl]
 refine⟨sp,x,y,a,d,F,?_⟩;rw[F];exact je8 (by have:=j.p1;lia) j.p6 j.so j.bb z _ (Yas e)
noncomputable def oU  : Option (Nat×Int×Int)->U
 |none=>.non
 |some (a,b,c)=>.tup [.int a,.int b,.int c]

def jir  (ow:w.Ok)(hw:jaL w.ss w.bs w.P w.wt ys)(hu:Ths G us ds){a:Nat}(q:Q (oU (ledZ w us a b c)) G) :
  jab T (k+3) jg3 [jas w.xs w.ss,.int w.P,jaf w.bs,jau w.wt,.tup [.int a,.int b,.int c],.tup us] G Q X:=by
 have p1:=ow.p1;refine⟨rfl,?_⟩;simp! only[jhi,jah,Yag];refine⟨trivial,?_⟩;refine jav (λi ς G'=>G'=G/\∃(L:Nat) (b' c':Int) (o9:Option U),ledZ w us a b c=ledZ w (us.drop i) L b' c'/\ς=[some (jas w.xs w.ss),some (.int w.P),some (jaf w.bs),some (jau w.wt),some (.tup [.int a,.int b,.int c]),some (.tup us),some (.int L),some (.int b'),some (.int c'),o9]) ?_ ?_ ⟨rfl,a,b,c,_,by simp_all,rfl⟩
 ·rintro ς G1 ⟨rfl,L,b',c',o9,e,rfl⟩;refine⟨trivial,?_⟩;simp! only[];rw[e,YcE]at q;exact⟨by decide,q⟩
 ·rintro i z ς G1 K hx ⟨rfl,L,b',c',o9,e,rfl⟩ hk;refine⟨trivial,?_⟩;obtain⟨d,_,hz⟩:=hu.get hx;have hd:us.drop i=z::us.drop (i+1):=by
   obtain⟨hi,ez⟩:=List.getElem?_eq_some_iff.mp hx;rw[Ybi hi,ez]
  rw[hd]at e;simp! only[];refine jeQ hz ?_;simp! only[];have no:(∀j,z=.int j->¬(0<=j/\j.toNat∈w.wt/\(lg w j.toNat).o=L))->Q .non G1:=by
   intro h;have:ledZ w us a b c=none:=by
    rw[e];cases z with
    |int j=>unfold ledZ;rw[if_neg (h j rfl)]
    |_=>rfl
   rw[this]at q;exact q
  cases hz with
  |int j=>
   rw[show isI (.int j)=true from rfl,if_pos rfl];simp! only[];refine jiN ?_;by_cases O:0<=j/\j.toNat∈w.wt
   ·obtain⟨F,x,y,I,dl,Y,ok⟩:=jft ow hw O.2;obtain⟨s,rfl⟩:∃s:Nat,j=s:=⟨j.toNat,by lia⟩
    rw[Ybg]at I Y ok O;have Z:decide (0<=(s:Int)/\(s:Int).toNat∈w.wt)=true:=by simp_all
    rw[Z,if_pos rfl];simp! only[jas,ix_t (jcc _ _ _),ix_t (atM I.s)];rw[show F.u=.tup [.str F.w,.int F.o,.int F.t,.int F.lo,.int F.hi]from rfl];simp! only[ix_t (jcc _ _ _)];by_cases h3:F.o=L
    ·subst h3;rw[if_neg (by simp)]
     simp! only[jcD,jas,ix_t (jcc _ _ _),ix_t (atM I.s)];rw[show F.u=.tup [.str F.w,.int F.o,.int F.t,.int F.lo,.int F.hi]from rfl,ix_t (jke _ _ _ _)];refine jej (k:=k) (xs:=w.xs) I (by lia) ow.p6 dl ?_
     show jab T (k+2) jbP [jas w.xs w.ss,.int w.P,jaf w.bs,.int (s:Int)] G1 _ _;refine jda (k:=k) (xs:=w.xs) I (by lia) ?_
     refine hk _ _ ⟨rfl,F.t,b'+((wyOf w.P s F x y).p:Int),c'-(wyOf w.P s F x y).b,_,?_,rfl⟩;rw[e];show(if _ then _ else _)=_
     rw[Ybg,if_pos ⟨by lia,O.2,by rw[Y];rfl⟩,Y]
     rfl
    ·rw[if_pos (by lia)]
     refine no λj J=>?_;cases J;rw[Ybg];rintro⟨_,_,h⟩;rw[Y]at h;exact h3 h
   ·rw[show decide (0<=j/\j.toNat∈w.wt)=false from decide_eq_false O,if_neg Yal];refine no λj J=>?_;cases J;exact λh=>O ⟨h.1,h.2.1⟩
  |_=>exact no λj h=>(nomatch h)
def chB  (w:Wd)(t:Tb)(p:Nat×Nat):U->Bool
 |.tup [.int g,.tup us]=>decide (0<=g)&&decide (us.length<=100)&&match w.gv[g.toNat]? with
  |some v=>decide (ledZ w us v.1 v.2.1 v.2.2=some (p.2,(p.1:Int),gt t p.1 p.2))
  |none=>false
 |_=>false
def jmR    (q:I (decide (a=F/\b=z/\c=y))):eqU (.tup [.int a,.int b,.int c]) (.tup [.int F,.int z,.int y]) G I:=by
 have j:∀a r c:Int,Sml 1 (.tup [.int a,.int r,.int c]):=λa r c=>Sml.tup λu hu=>by
  simp only[Yap,Yak,or_false]at hu;rcases hu with rfl|rfl|rfl<;>exact Sml.int _
 refine⟨_,_,jj2 (j _ _ _).b,jj2 (j _ _ _).b,(j _ _ _).small (by decide),(j _ _ _).small (by decide),?_⟩
 have:YaK (pd (.tup [.int a,.int b,.int c])) (pd (.tup [.int F,.int z,.int y]))=decide (a=F/\b=z/\c=y):=by
  rw[YbL,decide_eq_true_iff];simp[pd,pds,YaK,YbM]
 lia
def o_eq  {a:Nat}(q:I (decide (o=some (a,r,c)))):eqU (oU o) (.tup [.int a,.int r,.int c]) G I:=by
 cases o with
 |none=>
  have F:Sml 1 (.tup [.int a,.int r,.int c]):=Sml.tup λu hu=>by
   simp only[Yap,Yak,or_false]at hu;rcases hu with rfl|rfl|rfl<;>exact Sml.int _
  exact⟨_,_,.non,jj2 F.b,Sml.non.small (by decide),F.small (by decide),q⟩
 |some p=>
  obtain⟨z,j,y⟩:=p;refine jmR ?_;rw[show decide ((z:Int)=(a:Int)/\j=r/\y=c)=decide (some (z,j,y)=some (a,r,c)) by
   grind]
  exact q


def joE    (e:eqQ x y G j=eqU x y G j)(h:eqU x y G j):cmpU .Eq x y G j:=by show eqQ x y G j;lia
def jgb  (ow:w.Ok)(hw:jaL w.ss w.bs w.P w.wt ys)(h:Th G u d)(q:Q (.bl (chB w t p u)) G) :
  jab T (k+4) jen [jas w.xs w.ss,.int w.P,jaf w.bs,jau w.wt,.tup (w.gv.map gU),plU t p,u] G Q X:=by
 refine⟨rfl,?_⟩;simp! only[jeB,jah,Yag,jaJ h (show "tuple" ∈ ["bool", "int", "str", "list", "tuple", "dict"] by decide)]
 cases h with
 |@tup y ds hs=>
  rw[show isD (.tuple ds) "tuple" = true from rfl,if_pos rfl];simp! only[];by_cases c:y.length=2
  ·rw[if_neg (by simp[c])]
   obtain⟨J,F,rfl⟩:∃J F,y=[J,F]:=by
    match y,c with
    |[a,b],_=>lia
   simp! only[];refine⟨trivial,?_⟩;obtain⟨d0,_,h0⟩:=hs.get (i:=0) rfl;obtain⟨d1,_,h1⟩:=hs.get (i:=1) rfl;refine jiq (k:=k+1) h0 ?_
   simp! only[];rw[Yaa];have e0:∀b,b=false->chB w t p (.tup [J,F])=b->Q (.bl false) G:=λb hb e=>by lia
   cases h0 with
   |int g=>
    by_cases hg:0<=g/\g<=(w.gv.length:Int)-1
    ·rw[show inI 0 ((w.gv.length:Int)-1) (.int g)=true by simp[inI,hg],if_pos rfl,jaJ h1 (show "tuple" ∈ ["bool", "int", "str", "list", "tuple", "dict"] by decide)]
     obtain⟨n,rfl⟩:∃n:Nat,g=n:=⟨g.toNat,by lia⟩
     obtain⟨v,hv⟩:∃v,w.gv[n]?=some v:=⟨_,Yah (by lia)⟩
     cases h1 with
     |@tup j es I=>
      rw[show isD (.tuple es) "tuple" = true from rfl];simp! only[];rw[show ∀O:U->Prop,glU T.gs 0 O=O (.int 100)from λ_=>rfl];simp! only[];have Y:chB w t p (.tup [.int (n:Int),.tup j])=(decide (j.length<=100)&&decide (ledZ w j v.1 v.2.1 v.2.2=some (p.2,(p.1:Int),gt t p.1 p.2))):=by
       unfold chB
       simp_all
      by_cases hl:j.length<=100
      ·rw[if_neg (by lia),ix_t (atM hv)]
       refine jir (k:=k) ow hw I ?_;rw[Y,decide_eq_true hl,Bool.true_and]at q;unfold plU;cases Z:ledZ w j v.1 v.2.1 v.2.2 with
       |none=>
        rw[Z]at q;exact joE rfl (o_eq q)
       |some z=>
        obtain⟨z1,z2,z3⟩:=z;rw[Z]at q;exact joE rfl (o_eq q)
      ·rw[if_pos (by simp;lia)]
       exact e0 _ (by rw[decide_eq_false hl];rfl) Y
     |_=>exact e0 _ rfl rfl
    ·rw[show inI 0 ((w.gv.length:Int)-1) (.int g)=false by simp[inI];lia,if_neg Yal,if_pos (show(!false)=true from rfl)]
     refine e0 _ rfl ?_;unfold chB;split
     ·rename_i g' xa L;cases L;by_cases h0:0<=g
      ·rw[YcC (by lia)]
       exact YeH _
      ·rw[decide_eq_false h0];rfl
     ·rfl
   |_=>exact e0 _ rfl rfl
  ·rw[if_pos (by lia)]
   have e:chB w t p (.tup y)=false:=by
    unfold chB;split
    ·rename_i L;cases L;exact absurd rfl c
    ·rfl
   lia
 |_=>exact q
def jeS  (ow:w.Ok)(hw:jaL w.ss w.bs w.P w.wt ys)(h:Th G u d)(q:Q (.bl (chB w t p u)) G) :
  jab T (k+2) jdc [w.u,.tup [.int p.1,.int p.2,.int (gt t p.1 p.2)],u] G Q X:=by
 have p1:=ow.p1;refine⟨rfl,?_⟩;simp! only[jdi,jah,Yag,Wd.u];refine⟨trivial,?_⟩;simp! only[jaJ h (show "tuple" ∈ ["bool", "int", "str", "list", "tuple", "dict"] by decide)]
 cases h with
 |@tup us ds hs=>
  rw[show isD (.tuple ds) "tuple" = true from rfl];simp! only[];by_cases c:us.length=2
  ·obtain⟨u0,u1,rfl⟩:∃u0 u1,us=[u0,u1]:=by
    match us,c with
    |[a,b],_=>lia
   simp! only[ix_t (jfS _ _)];obtain⟨d0,_,h0⟩:=hs.get (i:=0) rfl;obtain⟨d1,_,h1⟩:=hs.get (i:=1) rfl;rw[if_neg (by decide),if_neg (by simp)]
   have e0:∀b,b=false->chB w t p (.tup [u0,u1])=b->Q (.bl false) G:=λb hb e=>by lia
   refine jbl h0 ?_;simp! only[];cases h0 with
   |int g=>
    rw[show isI (.int g)=true from rfl,if_neg (by decide)]
    simp! only[jcj,ix_t (jfS _ _)];have eg:¬(0<=g/\g<(w.gv.length:Int))->chB w t p (.tup [.int g,u1])=false:=λhg=>by
     unfold chB;split
     ·rename_i g' ya hh;cases hh;by_cases h0:0<=g
      ·rw[YcC (by lia)]
       exact YeH _
      ·rw[decide_eq_false h0];rfl
     ·rfl
    by_cases ja:0<=g
    ·rw[if_pos (decide_eq_true ja),Yaa];by_cases va:g<(w.gv.length:Int)
     ·rw[if_neg (by lia)]
      simp! only[ix_t (jcc _ _ _),jaJ h1 (show "tuple" ∈ ["bool", "int", "str", "list", "tuple", "dict"] by decide)]
      obtain⟨n,rfl⟩:∃n:Nat,g=n:=⟨g.toNat,by lia⟩
      obtain⟨v,hv⟩:∃v,w.gv[n]?=some v:=⟨_,Yah (by lia)⟩
      cases h1 with
      |@tup I es za=>
       rw[show isD (.tuple es) "tuple" = true from rfl,if_neg (by decide)]
       simp! only[];have ec:chB w t p (.tup [.int (n:Int),.tup I])=(decide (I.length<=100)&&decide (ledZ w I v.1 v.2.1 v.2.2=some (p.2,(p.1:Int),gt t p.1 p.2))):=by
        unfold chB
        simp_all
       by_cases hl:I.length<=100
       ·rw[if_neg (by lia)]
        simp! only[jci,ix_t (jfS _ _)];rw[ix_t (atM hv)];rw[show gU v=.tup [.int v.1,.int v.2.1,.int v.2.2]from rfl];simp! only[ix_t (jcc _ _ _)];refine⟨trivial,?_⟩;rw[ec,decide_eq_true hl,Bool.true_and]at q;refine jav (λi ς G'=>G'=G/\∃(L:Nat) (b' c':Int) (o12 o13 o14:Option U),ledZ w I v.1 v.2.1 v.2.2=ledZ w (I.drop i) L b' c'/\ς=[some (.tup [w.plan,.int w.P,jaf w.bs,jau w.wt,.tup (w.gv.map gU),.int w.m]),some (.tup [.int p.1,.int p.2,.int (gt t p.1 p.2)]),some (.tup [.int n,.tup I]),some (jas w.xs w.ss),some (.int w.P),some (jaf w.bs),some (jau w.wt),some (.tup (w.gv.map gU)),some (.int w.m),some (.int L),some (.int b'),some (.int c'),o12,o13,o14]) ?_ ?_ ⟨rfl,v.1,v.2.1,v.2.2,_,_,_,by simp_all,rfl⟩
        ·rintro ς G1 ⟨rfl,L,b',c',o12,o13,o14,e,rfl⟩;refine⟨trivial,?_⟩;simp! only[];rw[e,YcE]at q;refine⟨by decide,jmR ?_⟩
         rw[show decide (b'=(p.1:Int)/\(L:Int)=(p.2:Int)/\c'=gt t p.1 p.2)=decide (ledZ w [] L b' c'=some (p.2,(p.1:Int),gt t p.1 p.2)) by
          rw[YbL,decide_eq_true_iff,decide_eq_true_iff];simp only[ledZ,YeO,Prod.mk.injEq]
          lia]
         exact q
        ·rintro i z ς G1 K hx ⟨rfl,L,b',c',o12,o13,o14,e,rfl⟩ hk;refine⟨trivial,?_⟩;obtain⟨d,_,hz⟩:=za.get hx;have hd:I.drop i=z::I.drop (i+1):=by
          obtain⟨hi,ez⟩:=List.getElem?_eq_some_iff.mp hx;rw[Ybi hi,ez]
         rw[hd]at e;simp! only[];refine jbl hz ?_;simp! only[];have no:(∀F,z=.int F->¬(0<=F/\F.toNat∈w.wt/\(lg w F.toNat).o=L))->Q (.bl false) G1:=by
          intro h;have:ledZ w I v.1 v.2.1 v.2.2=none:=by
           rw[e];cases z with
           |int F=>unfold ledZ;lia
           |_=>rfl
          lia
         cases hz with
         |int F=>
          rw[show isI (.int F)=true from rfl,if_neg (by decide)]
          simp! only[];refine jiN ?_;by_cases Y:0<=F/\F.toNat∈w.wt
          ·obtain⟨j,x,y,J,dl,Z,ok⟩:=jft ow hw Y.2;obtain⟨s,rfl⟩:∃s:Nat,F=s:=⟨F.toNat,by lia⟩
           rw[Ybg]at J Z ok Y;have xa:decide (0<=(s:Int)/\(s:Int).toNat∈w.wt)=true:=by simp_all
           rw[xa,if_neg (by decide)]
           simp! only[jas,ix_t (jcc _ _ _),ix_t (atM J.s)];rw[show j.u=.tup [.str j.w,.int j.o,.int j.t,.int j.lo,.int j.hi]from rfl];simp! only[ix_t (jcc _ _ _)];by_cases h3:j.o=L
           ·subst h3;rw[if_neg (by simp)]
            simp! only[jbA];refine jg0 (k:=k) (xs:=w.xs) J (by lia) ow.p6 dl ?_
            simp! only[];refine⟨trivial,?_⟩;simp! only[ix_t (jcc _ _ _),ix_t (atM J.s)];rw[show j.u=.tup [.str j.w,.int j.o,.int j.t,.int j.lo,.int j.hi]from rfl,ix_t (jke _ _ _ _)];refine⟨trivial,hk _ _ ⟨rfl,j.t,b'+((wyOf w.P s j x y).p:Int),c'-(wyOf w.P s j x y).b,_,_,_,?_,rfl⟩⟩;rw[e];show(if _ then _ else _)=_
            rw[Ybg,if_pos ⟨by lia,Y.2,by rw[Z];rfl⟩,Z]
            rfl
           ·rw[if_pos (by lia)]
            refine no λF O=>?_;cases O;rw[Ybg];rintro⟨_,_,h⟩;rw[Z]at h;exact h3 h
          ·rw[show decide (0<=F/\F.toNat∈w.wt)=false from decide_eq_false Y,if_pos (show(!false)=true from rfl)];refine no λF O=>?_;cases O;exact λh=>Y ⟨h.1,h.2.1⟩
         |_=>exact no λF h=>(nomatch h)
       ·rw[if_pos (by lia)]
        lia
      |_=>exact e0 _ rfl rfl
     simp_all
    ·rw[if_neg (by lia)]
     simp_all
   |_=>exact e0 _ rfl rfl
  ·rw[if_neg (by decide),if_pos (by lia)]
   have e:chB w t p (.tup us)=false:=by
    unfold chB;split
    ·rename_i hh;cases hh;exact absurd rfl c
    ·rfl
   lia
 |_=>exact q

inductive Rs
 |ok
 |no (x:Str) (n:Int)
noncomputable def Rs.u  : Rs->U
 |.ok=>.bl true
 |.no x n=>.tup [.str x,.int n]
def rsT  (w:Wd)(t:Tb)(j:List U):Rs:=
 match w.gv.findIdx? λg=>decide (gt t g.2.1 g.1<g.2.2)with
 |some i=>.no "given" i
 |none=>match w.wt.find? λs=>!spB w.m t (lg w s)with
  |some s=>.no "span" s
  |none=>match ((spts t w.m w.xs.length).zip j).findIdx? λx=>!chB w t x.1 x.2 with
   |some i=>.no "chain" i
   |none=>.ok
def Pap  (w:Wd)(t:Tb)(j:List U):Prop:=TbN w.m w.xs.length t/\j.length=(spts t w.m w.xs.length).length
def Is  (w:Wd)(u:U)(r:Rs):Prop:=(∃t j,u=.tup [tbU t,.tup j]/\Pap w t j/\r=rsT w t j)\/((¬∃t j,u=.tup [tbU t,.tup j]/\Pap w t j)/\r=.no "shape" 0)
def jpM   w u:∃r,Is w u r:=by
 by_cases h:∃t j,u=.tup [tbU t,.tup j]/\Pap w t j
 ·obtain⟨t,j,e,p⟩:=h;exact⟨_,.inl ⟨t,j,e,p,rfl⟩⟩
 ·exact⟨_,.inr ⟨h,rfl⟩⟩
def jko    (h:TbN m W t):tabB W m (tbU t)=true:=by
 show(decide ((t.map jaf).length=m)&&(t.map jaf).all (rowB W))=true;rw[Yaq,decide_eq_true_iff,Yaa];refine⟨h.1,List.all_eq_true.mpr λu hu=>?_⟩;obtain⟨x,j,rfl⟩:=List.mem_map.mp hu;show(decide ((x.map U.int).length=W)&&(x.map U.int).all nnB)=true;rw[Yaq,decide_eq_true_iff,Yaa];refine⟨h.2 x j,List.all_eq_true.mpr λv y=>?_⟩;obtain⟨z,F,rfl⟩:=List.mem_map.mp y;exact decide_eq_true (h.3 x j z F)
def jjT  : ∀{x y },jaf x=jaf y->x=y:=λh=>jdQ (f:=U.int) (λ_ _ e=>by lia) (U.tup.inj h)
def jeI   (h:tbU t=tbU t'):t=t':=jdQ (f:=jaf) (λ_ _ e=>jjT e) (U.tup.inj h)

def szU  (u:U):Prop:=∀j,u=.tup j->∀x∈j,shD x
def jeU  (O:w.Ok)(h:Th G u d)(hz:szU u)(q1:∀t j,u=.tup [tbU t,.tup j]->Pap w t j->∀z,Sa G z->Q (.bl true) z)(q2:(¬∃t j,u=.tup [tbU t,.tup j]/\Pap w t j)->∀z,Sa G z->Q (.bl false) z) :
  jab T (k+4) jb6 [u,.int w.xs.length,.int w.m] G Q X:=by
 refine⟨rfl,?_⟩;simp! only[jb8,jah,Yag,jaJ h (show "tuple" ∈ ["bool", "int", "str", "list", "tuple", "dict"] by decide)]
 cases h with
 |@tup I ds hs=>
  rw[show isD (.tuple ds) "tuple" = true from rfl,if_pos rfl];simp! only[];by_cases c:I.length=2
  ·rw[if_neg (by simp[c])]
   obtain⟨F,L,rfl⟩:∃F L,I=[F,L]:=by
    match I,c with
    |[a,b],_=>lia
   simp! only[];refine⟨trivial,?_⟩;obtain⟨d0,_,h0⟩:=hs.get (i:=0) rfl;obtain⟨d1,_,Z⟩:=hs.get (i:=1) rfl;refine jga (k:=k) h0 (hz _ rfl F Yav) λG1 s1=>?_;simp! only[];cases y:tabB w.xs.length w.m F with
   |false=>
    rw[if_neg Yal];refine q2 ?_ _ s1;rintro⟨t,j,e,p⟩;cases e;rw[jko p.1]at y;cases y
   |true=>
    rw[if_pos rfl];obtain⟨t,rfl,Y⟩:=jkr y;rw[jaJ (Z.sa s1) (show "tuple" ∈ ["bool", "int", "str", "list", "tuple", "dict"] by decide)]
    cases Z with
    |@tup j es hc=>
     rw[show isD (.tuple es) "tuple" = true from rfl];simp! only[];refine jck (k:=k+2) Y O.m2 O.x8 λp G2 g2 s2=>?_;simp! only[jdS g2];rw[Yaa];by_cases J:j.length=(spts t w.m w.xs.length).length
     ·rw[decide_eq_true (by rw[J])]
      exact q1 t j rfl ⟨Y,J⟩ _ (s1.trans s2)
     ·rw[decide_eq_false (by lia)]
      refine q2 ?_ _ (s1.trans s2);rintro⟨t',xa,e,p'⟩;have e:=Yba (U.tup.inj e);have y:=jeI e.1;have ec:=U.tup.inj (Yba e.2).1;subst y;subst ec;exact J p'.2
    |_=>exact q2 (λ⟨t,j,e,_⟩=>(nomatch (Yba (Yba (U.tup.inj e)).2).1)) _ s1
  ·rw[if_pos (by lia)]
   exact q2 (λ⟨t,j,e,_⟩=>c (by simp_all)) _ Sa.refl
 |_=>exact q2 (λ⟨t,j,e,_⟩=>(nomatch e)) _ Sa.refl

theorem jj0  {y:Type}{p:y->Bool}:∀{l:List y} {i } {a },l[i]?=some a->p a=true->(∀j b,j<i->l[j]?=some b->p b=false)->l.findIdx? p=some i
 |[],_,_,h,_,_=>by simp at h
 |x::l,0,a,h,hp,_=>by
  grind
 |x::l,i+1,a,h,hp,hn=>by
  rw[YfU,if_neg (by rw[hn 0 x (by lia) rfl];lia),jj0 (l:=l) (i:=i) h hp λj b z e=>hn (j+1) b (by lia) e]
  rfl
theorem jjZ  {y:Type}{p:y->Bool}:∀{l:List y},(∀(j:Nat) b,l[j]?=some b->p b=false)->l.findIdx? p=none
 |[],_=>rfl
 |x::l,hn=>by
  rw[YfU,if_neg (by rw[hn 0 x rfl];lia),jjZ λj b e=>hn (j+1) b e]
  rfl
theorem jmm  {y:Type}{p:y->Bool}:∀{l:List y} {i:Nat} {a },l[i]?=some a->p a=true->(∀j b,j<i->l[j]?=some b->p b=false)->l.find? p=some a
 |[],_,_,h,_,_=>by simp at h
 |x::l,0,a,h,hp,_=>by
  simp_all
 |x::l,i+1,a,h,hp,hn=>by
  rw[Ya7,hn 0 x (by lia) rfl]
  exact jmm (l:=l) (i:=i) h hp λj b z e=>hn (j+1) b (by lia) e
def jov  {y:Type}{p:y->Bool}{l:List y}(I:∀(j:Nat) b,l[j]?=some b->p b=false):l.find? p=none:=
 List.find?_eq_none.mpr λx z=>by
  obtain⟨j,F⟩:=List.mem_iff_getElem?.mp z
  grind

def Out  (r:Rs)(G:Gp)(Q:K1)(X:KX):Prop:=match r with
 |.ok=>∀j,Sa G j->Q (.bl true) j
 |.no x n=>∀j,Sa G j->X ⟨1,[.str x,.int n]⟩ j
def Out.sa    (h:Out r G Q X)(s:Sa G G'):Out r G' Q X:=by
 cases r with
 |ok=>exact λj s1=>h j (s.trans s1)
 |no x n=>exact λj s1=>h j (s.trans s1)
def gvP  (t:Tb)(g:Nat×Nat×Int):Bool:=decide (gt t g.2.1 g.1<g.2.2)
def spP  (w:Wd)(t:Tb)(s:Nat):Bool:=!spB w.m t (lg w s)
def chP  (w:Wd)(t:Tb)(x:(Nat×Nat)×U):Bool:=!chB w t x.1 x.2
def jgS  {i:Nat}(h:w.gv.findIdx? (gvP t)=some i):rsT w t cs=.no "given" i:=by unfold rsT;rw[show(w.gv.findIdx? λg=>decide (gt t g.2.1 g.1<g.2.2))=some i from h]
def jic  {s:Nat}(h:w.gv.findIdx? (gvP t)=none)(j:w.wt.find? (spP w t)=some s):rsT w t cs=.no "span" s:=by
 unfold rsT;rw[show(w.gv.findIdx? λg=>decide (gt t g.2.1 g.1<g.2.2))=none from h];dsimp only;rw[show(w.wt.find? λs=>!spB w.m t (lg w s))=some s from j]
def jgT   (h:w.gv.findIdx? (gvP t)=none)(j:w.wt.find? (spP w t)=none)(y:((spts t w.m w.xs.length).zip cs).findIdx? (chP w t)=some i):rsT w t cs=.no "chain" i:=by
 unfold rsT;rw[show(w.gv.findIdx? λg=>decide (gt t g.2.1 g.1<g.2.2))=none from h];dsimp only;rw[show(w.wt.find? λs=>!spB w.m t (lg w s))=none from j];dsimp only;rw[show(((spts t w.m w.xs.length).zip cs).findIdx? λx=>!chB w t x.1 x.2)=some i from y]
def jm4  (h:w.gv.findIdx? (gvP t)=none)(j:w.wt.find? (spP w t)=none)(y:((spts t w.m w.xs.length).zip cs).findIdx? (chP w t)=none):rsT w t cs=.ok:=by
 unfold rsT;rw[show(w.gv.findIdx? λg=>decide (gt t g.2.1 g.1<g.2.2))=none from h];dsimp only;rw[show(w.wt.find? λs=>!spB w.m t (lg w s))=none from j];dsimp only;rw[show(((spts t w.m w.xs.length).zip cs).findIdx? λx=>!chB w t x.1 x.2)=none from y]
def en_l     (g:G a=some (.lst xs)):enI (.loc a) G y=y (jc4 0 xs) λj=>lsG j a=some xs:=by
 have e:lsG G a=some xs:=by unfold lsG;rw[g]
 unfold enI
 lia
def jdn    (g:G a=some (.lst xs)):lsG G a=some xs:=by unfold lsG;rw[g]
def ll_4  (Y:w.Ok)(hw:jaL w.ss w.bs w.P w.wt ys)(ht:TbN w.m w.xs.length t)(hl:cs.length=(spts t w.m w.xs.length).length)(hc:Ths G cs es)(h1:w.gv.findIdx? (gvP t)=none)(h2:w.wt.find? (spP w t)=none)(q:Out (rsT w t cs) G Q X) :
  jat T.gs (jab T (k+4)) jbH ⟨λ_ z=>Q .non z,Q,λx _ z=>X x z⟩ [some (jas w.xs w.ss),some (.int w.P),some (jaf w.bs),some (jau w.wt),some (.tup (w.gv.map gU)),some (.int w.m),o6,some (tbU t),some (.tup cs),o9,o10,o11,o12,o13,o14] G:=by
 simp! only[jbH];refine jck (k:=k+3) ht Y.m2 Y.x8 λp G1 I s1=>?_;rw[en_l I];refine jav (λi J z=>z=G1/\(∀(j:Nat) b,j<i->((spts t w.m w.xs.length).zip cs)[j]?=some b->chP w t b=false)/\∃o9 o14,J=[some (jas w.xs w.ss),some (.int w.P),some (jaf w.bs),some (jau w.wt),some (.tup (w.gv.map gU)),some (.int w.m),o6,some (tbU t),some (.tup cs),o9,o10,o11,o12,o13,o14]) ?_ ?_ ⟨rfl,λj _ h=>absurd h (Ycx j),_,_,rfl⟩
 ·rintro J G2 ⟨rfl,hp,o9,o14,rfl⟩;refine⟨jdn I,?_⟩;simp! only[];have Z:((spts t w.m w.xs.length).zip cs).findIdx? (chP w t)=none:=jjZ λj b e=>hp j b (by
   have:=(List.getElem?_eq_some_iff.mp e).1;rw[Ydm]at this;have el:(jc4 0 ((spts t w.m w.xs.length).map (plU t))).length=(spts t w.m w.xs.length).length:=by rw[jbm,Yaa]
   lia) e
  rw[jm4 h1 h2 Z]at q;exact q _ s1
 ·rintro i x J G2 K hx ⟨rfl,hp,o9,o14,rfl⟩ hk;refine⟨jdn I,?_⟩;obtain⟨y,hy,rfl⟩:=jbS hx;rw[Yau]at hy;cases ep:(spts t w.m w.xs.length)[i]? with
  |none=>simp_all
  |some L=>
   rw[ep]at hy;cases hy;have hi:i<cs.length:=by grind
   obtain⟨c,O⟩:∃c,cs[i]?=some c:=⟨_,Yah hi⟩;obtain⟨_,_,F⟩:=hc.get O;have ez:((spts t w.m w.xs.length).zip cs)[i]?=some (L,c):=YeE.mpr ⟨ep,O⟩;rw[Ycs];simp! only[];refine⟨trivial,?_⟩;simp! only[];rw[ix_t (jaO O)];refine jgb (k:=k) (t:=t) (p:=L) Y hw (F.sa s1) ?_;simp! only[];cases eb:chB w t L c with
   |true=>
    rw[if_neg (by decide)]
    refine hk _ _ ⟨rfl,λj b hj e=>?_,_,_,rfl⟩;rcases Nat.lt_succ_iff_lt_or_eq.mp hj with hj|rfl
    ·grind
    ·rw[ez]at e;cases e;unfold chP;lia
   |false=>
    rw[if_pos (by decide)]
    have Z:=jj0 ez (p:=chP w t) (by unfold chP;lia) hp
    rw[jgT h1 h2 Z]at q;exact⟨rfl,q _ s1⟩
def ll_3  (z:w.Ok)(hw:jaL w.ss w.bs w.P w.wt ys)(ht:TbN w.m w.xs.length t)(hl:cs.length=(spts t w.m w.xs.length).length)(hc:Ths G cs es)(h1:w.gv.findIdx? (gvP t)=none)(q:Out (rsT w t cs) G Q X) :
  jat T.gs (jab T (k+4)) jbI ⟨λ_ F=>Q .non F,Q,λx _ F=>X x F⟩ [some (jas w.xs w.ss),some (.int w.P),some (jaf w.bs),some (jau w.wt),some (.tup (w.gv.map gU)),some (.int w.m),o6,some (tbU t),some (.tup cs),o9,o10,o11,o12,o13,o14] G:=by
 have p1:=z.p1;simp! only[jbI,jau];refine jav (λi J F=>Sa G F/\(∀(j:Nat) b,j<i->w.wt[j]?=some b->spP w t b=false)/\∃o13,J=[some (jas w.xs w.ss),some (.int w.P),some (jaf w.bs),some (jau w.wt),some (.tup (w.gv.map gU)),some (.int w.m),o6,some (tbU t),some (.tup cs),o9,o10,o11,o12,o13,o14]) ?_ ?_ ⟨Sa.refl,λj _ h=>absurd h (Ycx j),_,rfl⟩
 ·rintro J G2 ⟨s2,hp,o13,rfl⟩;refine⟨trivial,?_⟩;refine ll_4 (k:=k) z hw ht hl (hc.sa s2) h1 (jov λj b e=>hp j b ?_ e) (q.sa s2)
  grind
 ·rintro i x J G2 K O ⟨s2,hp,o13,rfl⟩ hk;refine⟨trivial,?_⟩;rw[Yau]at O;cases I:w.wt[i]? with
  |none=>simp_all
  |some s=>
   rw[I]at O;cases O;obtain⟨sp,x,y,L,dl,el,ok⟩:=jft z hw (Yas I);simp! only[];rw[el]at ok;refine jeR (k:=k+1) (xs:=w.xs) L (by lia) z.p6 dl ht z.m2 ok.o ok.t ok.p λG3 Z=>?_
   simp! only[];cases eb:spB w.m t (wyOf w.P s sp x y)with
   |true=>
    rw[if_neg (by decide)]
    refine hk _ _ ⟨s2.trans Z,λj b Y e=>?_,_,rfl⟩;rcases Nat.lt_succ_iff_lt_or_eq.mp Y with Y|rfl
    ·grind
    ·rw[I]at e;cases e;unfold spP;lia
   |false=>
    rw[if_pos (by decide)]
    have e3:=jmm I (p:=spP w t) (by unfold spP;lia) hp
    rw[jic h1 e3]at q;exact⟨rfl,q _ (s2.trans Z)⟩
def ll_2  (Y:w.Ok)(hw:jaL w.ss w.bs w.P w.wt ys)(Z:TbN w.m w.xs.length t)(hl:cs.length=(spts t w.m w.xs.length).length)(hc:Ths G cs es)(q:Out (rsT w t cs) G Q X) :
  jat T.gs (jab T (k+4)) jbJ ⟨λ_ z=>Q .non z,Q,λx _ z=>X x z⟩ [some (jas w.xs w.ss),some (.int w.P),some (jaf w.bs),some (jau w.wt),some (.tup (w.gv.map gU)),some (.int w.m),o6,some (tbU t),some (.tup cs),o9,o10,o11,o12,o13,o14] G:=by
 simp! only[jbJ,enI];refine jav (λi I z=>z=G/\(∀(j:Nat) b,j<i->w.gv[j]?=some b->gvP t b=false)/\∃o9 o10 o11 o12,I=[some (jas w.xs w.ss),some (.int w.P),some (jaf w.bs),some (jau w.wt),some (.tup (w.gv.map gU)),some (.int w.m),o6,some (tbU t),some (.tup cs),o9,o10,o11,o12,o13,o14]) ?_ ?_ ⟨rfl,λj _ h=>absurd h (Ycx j),_,_,_,_,rfl⟩
 ·rintro I G2 ⟨rfl,hp,o9,o10,o11,o12,rfl⟩;refine⟨trivial,?_⟩;refine ll_3 (k:=k) Y hw Z hl hc (jjZ λj b e=>hp j b ?_ e) q;rw[jbm,Yaa]
  grind
 ·rintro i x I G2 K hx ⟨rfl,hp,o9,o10,o11,o12,rfl⟩ hk;refine⟨trivial,?_⟩;obtain⟨y,J,rfl⟩:=jbS hx;rw[Yau]at J;cases F:w.gv[i]? with
  |none=>simp_all
  |some g=>
   rw[F]at J;cases J;have O:=Y.gg g (Yas F);rw[Ycs,show gU g=.tup [.int g.1,.int g.2.1,.int g.2.2]from rfl];simp! only[];refine⟨trivial,trivial,?_⟩;simp! only[];refine Z.ix (r:=g.2.1) (c:=g.1) O.t O.w ?_;simp! only[];by_cases c:gt t g.2.1 g.1<g.2.2
   ·rw[if_pos (decide_eq_true c)];have e3:=jj0 F (p:=gvP t) (decide_eq_true c) hp;rw[jgS e3]at q;exact⟨rfl,q _ Sa.refl⟩
   ·rw[if_neg (by lia)]
    refine hk _ _ ⟨rfl,λj b L e=>?_,_,_,_,_,rfl⟩;rcases Nat.lt_succ_iff_lt_or_eq.mp L with L|rfl
    ·grind
    ·rw[F]at e;cases e;exact decide_eq_false c
def jfo  (F:w.Ok)(O:jaL w.ss w.bs w.P w.wt ys)(h:Th G u d)(Z:szU u)(hr:Is w u r)(q:Out r G Q X) :
  jab T (k+5) jdK [jas w.xs w.ss,.int w.P,jaf w.bs,jau w.wt,.tup (w.gv.map gU),.int w.m,u] G Q X:=by
 refine⟨rfl,?_⟩;simp! only[jdY,jah,Yag,jas,ix_t (jfS _ _)];rw[Yaa];refine jeU (k:=k) F h Z (λt j e pp z s1=>?_) λI z s1=>?_
 ·subst e;simp! only[];refine⟨trivial,?_⟩;obtain⟨J,L⟩:=pp;have y:r=rsT w t j:=by
   rcases hr with⟨t',xa,e,_,rfl⟩|⟨I,_⟩
   ·have e:=Yba (U.tup.inj e);rw[jeI e.1,U.tup.inj (Yba e.2).1]
   ·exact absurd ⟨t,j,rfl,J,L⟩ I
  subst y;cases h with
  |tup hs=>
   obtain⟨_,_,h1⟩:=hs.get (i:=1) rfl;cases h1 with
   |tup Y=>exact ll_2 (k:=k) F O J L (Y.sa s1) (q.sa s1)
 ·have y:r=.no "shape" 0:=by
   rcases hr with⟨t,j,e,p,_⟩|⟨_,e⟩
   ·simp_all
   lia
  subst y;simp! only[];rw[if_pos (by decide)]
  exact⟨rfl,q z s1⟩

def TG  (G:Gp)(n:Nat)(u:U):Prop:=∃d,Th G u d/\d.canLay0=true/\d.depth<=n
theorem jkn    : ∀{us },(∀u∈us,TG G n u)->∃ds,Ths G us ds/\YaL ds=true/\YaE ds<=n
 |[],_=>⟨[],.nil,rfl,YaF _⟩
 |u::us,h=>by
  obtain⟨ds,z,L,I⟩:=jkn λv j=>h v (Yaj _ j);obtain⟨d,y,F,J⟩:=h u Yav;refine⟨d::ds,.cons y z,?_,?_⟩
  ·show(d.canLay0&&YaL ds)=true
   lia
  ·show max d.depth (YaE ds)<=n
   lia
theorem jkk    : ∀{us } {ds },Ths G us ds->YaL ds=true->YaE ds<=n->∀u∈us,TG G n u
 |_,_,.nil,_,_=>λ_ h=>(nomatch h)
 |_,_,.cons (d:=d) (ds:=ds) a b,j,y=>λu hu=>by
  have j:(d.canLay0&&YaL ds)=true:=j;have y:max d.depth (YaE ds)<=n:=y;rw[Yaq]at j;rcases Yap.mp hu with rfl|hu
  ·exact⟨d,a,j.1,Yaf (Ydq _ _) y⟩
  ·exact jkk b j.2 (Yaf (Nat.le_max_right _ _) y) u hu
def TG.un     (h:TG G n (.tup us)):∀u∈us,TG G n u:=by
 obtain⟨d,F,z,j⟩:=h;cases F with
 |@tup _ y I=>
  have j:YaE y+1<=n:=j;exact jkk I z (by lia)
def TG.sa     (h:TG G n u)(s:Sa G G'):TG G' n u:=let ⟨d,y,j⟩:=h;⟨d,y.sa s,j⟩
def jiV       (ga:G a=some (.lst us))(z:G b=some (.lst []))(h:∀u∈us,TG G n u)(O:n<100)(q:k us.isEmpty):eqU (.loc a) (.loc b) G k:=by
 obtain⟨j,y,I,L⟩:=jkn h;have F:lsG G a=some us:=by unfold lsG;rw[ga]
 have J:lsG G b=some []:=by unfold lsG;rw[z]
 refine⟨.list j,.list [],.lst F y.dus,.lst J .nil,⟨I,?_⟩,⟨rfl,by decide⟩,?_⟩
 ·show YaE j+1<=100
  lia
 ·have e:YaK (.list j) (.list [])=us.isEmpty:=by
   show YbM j []=_;rw[jc3];cases y<;>rfl
  lia

def jfp  {W m n:Nat}(h:TG G n u)(hn:n<100)(hl:shD u)(q:∀J,Sa G J->Q (.bl (tabB W m u)) J):jab T (k+2) jco [.int W,.int m,u] G Q X:=by
 refine⟨rfl,?_⟩;obtain⟨d,h1,h2,h3⟩:=id h;simp! only[jcu,jah,Yag,jaJ h1 (show "tuple" ∈ ["bool", "int", "str", "list", "tuple", "dict"] by decide)]
 cases h1 with
 |@tup O ds hs=>
  rw[show isD (.tuple ds) "tuple" = true from rfl,if_neg (by decide)]
  simp! only[];by_cases c:O.length=m
  ·rw[if_neg (by lia)]
   have e:tabB W m (.tup O)=O.all (rowB W):=by show(decide _&&_)=_;lia
   refine jav (λi ς J=>Sa G J/\(∀x∈O.take i,rowB W x=true)/\∃o3,ς=[some (.int W),some (.int m),some (.tup O),o3]) ?_ ?_ ⟨Sa.refl,λx hx=>(nomatch hx),_,rfl⟩
   ·grind
   ·rintro i x ς G1 K hx ⟨s1,hp,o3,rfl⟩ hk;refine⟨trivial,?_⟩;have hm:=Yas hx;obtain⟨dx,xa,_,_⟩:=id ((h.un x hm).sa s1);have no:rowB W x=false->∀J,Sa G1 J->Q (.bl false) J:=λhb J s'=>by
     have:=q _ (s1.trans s')
     grind
    simp! only[jaJ xa (show "tuple" ∈ ["bool", "int", "str", "list", "tuple", "dict"] by decide)]
    cases xa with
    |@tup F es hv=>
     rw[show isD (.tuple es) "tuple" = true from rfl,if_neg (by decide)]
     simp! only[];have za:F.length<=200:=hl.2 _ hm F rfl;by_cases c2:F.length=W
     ·rw[if_neg (by lia)]
      have e2:rowB W (.tup F)=F.all nnB:=by show(decide _&&_)=_;lia
      refine⟨Yaf za (by decide),?_⟩
      refine jdk (λy=>if nnB y then none else some y) trivial (λy L KK Y=>?_) λp G2 n2=>⟨by decide,λp3 G3 Z=>?_⟩
      ·obtain⟨j,hj⟩:=List.mem_iff_getElem?.mp L;obtain⟨_,_,I⟩:=hv.get hj;simp! only[];refine jbl I ?_;simp! only[];cases I with
       |int z=>
        rw[show isI (.int z)=true from rfl,if_neg (by decide)]
        simp! only[];by_cases c3:z<0
        ·rw[if_pos (decide_eq_true c3)];rw[if_neg (show ¬nnB (.int z)=true by simp[nnB];lia)]at Y
         exact Y
        ·rw[if_neg (by lia)]
         rw[if_pos (show nnB (.int z)=true by simp[nnB];lia)]at Y
         exact Y
       |_=>exact Y
      ·simp! only[];have ja:∀y∈[]++F.filterMap (λy=>if nnB y then none else some y),TG G3 n y:=λy L=>by
        rw[Yb3]at L;obtain⟨y',I,e'⟩:=List.mem_filterMap.mp L;split at e'
        ·cases e'
        ·cases e';exact(((h.un _ hm).un y I).sa (s1.trans (n2.sa.trans Z.sa)))
       refine jiV (Z.sa _ _ n2.at) Z.at ja hn ?_;rw[Yb3];by_cases ha:F.all nnB=true
       ·rw[show F.filterMap (λy=>if nnB y then none else some y)=[]from List.filterMap_eq_nil_iff.mpr λy L=>by simp_all,if_neg (by decide)]
        refine hk _ _ ⟨s1.trans (n2.sa.trans Z.sa),λy L=>?_,_,rfl⟩;rw[Ybh,hx]at L
        grind
       ·have hb:F.all nnB=false:=by lia
        obtain⟨y,L,va⟩:=List.all_eq_false.mp hb;rw[show(F.filterMap (λy=>if nnB y then none else some y)).isEmpty=false by
         simp_all,if_pos (by decide)]
        exact no (by lia) _ (n2.sa.trans Z.sa)
     ·rw[if_pos (by lia)]
      exact no (by show(decide _&&_)=_;lia) _ Sa.refl
    |_=>exact no rfl _ Sa.refl
  ·rw[if_pos (by lia)]
   have e:tabB W m (.tup O)=false:=by show(decide _&&_)=_;lia
   have:=q _ Sa.refl
   lia
 |_=>exact q _ Sa.refl
def jnU    (g:G a=some (.lst xs)):mtU .extend (.loc a) G=some ("list", "list.extend"):=by unfold mtU;lia
def jpY    (g:G a=some (.lst xs))(g':G b=some (.lst ys)):jbh .extend (.loc a) [.loc b] G Q=(xs.length+ys.length<=Yai/\putO G a (.lst (xs++ys)) (Q .non)):=by unfold jbh jgn;dsimp only;rw[g,g']
def jdu    (ht:TbN m W t)(hm:m<=12)(Y:W<=8)(q:∀p y,y p=some (.lst ((spts t m W).map spU))->G p=none->Sa G y->Q (.loc p) y):jab T (k+1) jbd [tbU t] G Q X:=by
 refine⟨rfl,?_⟩;simp! only[jd1,jah,Yag,tbU];refine⟨by decide,λI G1 L=>?_⟩
 simp! only[];rw[Yaa,ht.1];refine⟨by lia,by lia,?_⟩
 refine jav (λi Z y=>Sa G y/\y I=some (.lst ((spts t i W).map spU))/\∃o2,Z=[some (.tup (t.map jaf)),some (.loc I),o2]) ?_ ?_ ⟨L.sa,L.at,_,rfl⟩
 ·rintro Z O ⟨s2,g2,o2,rfl⟩;refine⟨trivial,?_⟩;simp! only[];rw[jak]at g2;exact q I O (by lia) L.no s2
 ·rintro i x Z O K hx ⟨s2,g2,o2,rfl⟩ hk;obtain⟨hi,rfl⟩:=jaC hx;have hi:i<m:=by lia
  refine⟨trivial,?_⟩;obtain⟨row,e1,e2,e3⟩:=ht.row hi;simp! only[jnU g2,ix_t (atM (f:=jaf) e1),jaf];rw[Yaa,e3];refine⟨by lia,by lia,?_⟩
  refine⟨by rw[jak];exact Yaf Y (by decide),?_⟩
  refine jan (λj F y=>y=O/\F=(spj t i j).map spU) ?_ ?_ ⟨rfl,rfl⟩
  ·rintro F G3 ⟨rfl,ea⟩;refine⟨trivial,λp4 G4 J=>?_⟩;rw[ea,jak]at J;rw[jpY (J.sa _ _ g2) J.at];have za:I≠p4:=λz=>by have:=J.no;lia
   refine⟨?_,λG5 w5=>?_⟩
   ·rw[Yaa,Yaa];exact Yaf (YeR (jaz (by lia) Y) (Yaf jh5 Y)) (by decide)
   ·refine hk _ _ ⟨λb o e=>?_,?_,_,rfl⟩
    ·have hb:b≠I:=λz=>by rw[z,L.no]at e;cases e
     exact w5.sm _ _ hb (J.sa _ _ (s2 _ _ e))
    ·rw[w5.at,jdD,YaH]
  ·rintro j x F G3 K2 xa ⟨rfl,ea⟩ hs hn;obtain⟨hj,rfl⟩:=jaC xa;refine⟨trivial,?_⟩;have hj:j<row.length:=by lia
   have eg:gt t i j=row[j]:=by unfold gt;simp_all
   rw[ix_t (atM (f:=U.int) (Yah hj))];show(if decide (0<row[j])=true then _ else _)
   by_cases c:0<row[j]
   ·rw[if_pos (decide_eq_true c)];refine⟨by decide,hs _ _ ⟨rfl,?_⟩⟩
    rw[jds,if_pos (by lia),YaH,ea]
    rfl
   ·rw[if_neg (by lia)]
    refine hn _ ⟨rfl,?_⟩;rw[jds,if_neg (by lia),ea]
    simp


def Due  (r:Rs)(G:Gp)(Q:K1):Prop:=∀j,Sa G j->Q r.u j
def Due.sa    (h:Due r G Q)(s:Sa G G'):Due r G' Q:=λj s1=>h j (s.trans s1)
def jf2    (h:p∈spts t m W):p.1<m/\p.2<W:=by
 unfold spts at h;obtain⟨r,j,h⟩:=List.mem_flatMap.mp h;unfold spt at h;obtain⟨c,y,rfl⟩:=List.mem_map.mp h;exact⟨List.mem_range.mp j,List.mem_range.mp (List.mem_filter.mp y).1⟩
def ld_8  {X: KX}(L:w.Ok)(hw:jaL w.ss w.bs w.P w.wt ys)(ht:TbN w.m w.xs.length t)(hl:cs.length=(spts t w.m w.xs.length).length)(hc:Ths G cs es)(gs:G ps=some (.lst ((spts t w.m w.xs.length).map spU)))(h1:w.gv.findIdx? (gvP t)=none)(h2:w.wt.find? (spP w t)=none){o11 o12 o13 o14 o15 o16 o17 o18 o19:Option U}(q:Due (rsT w t cs) G Q) :
  jat T.gs (jab T (k+2)) jaT ⟨λ_ z=>Q .non z,Q,λx _ z=>X x z⟩ [some w.u,some u,some (jas w.xs w.ss),some (.int w.P),some (jaf w.bs),some (jau w.wt),some (.tup (w.gv.map gU)),some (.int w.m),some (tbU t),some (.tup cs),some (.loc ps),o11,o12,o13,o14,o15,o16,o17,o18,o19] G:=by
 simp! only[jaT,jdS gs];have hn:=jaz (t:=t) L.m2 L.x8;rw[Yaa];refine⟨by lia,by lia,?_⟩
 refine jav (λi I z=>z=G/\(∀(j:Nat) b,j<i->((spts t w.m w.xs.length).zip cs)[j]?=some b->chP w t b=false)/\∃o17 o18 o19,I=[some w.u,some u,some (jas w.xs w.ss),some (.int w.P),some (jaf w.bs),some (jau w.wt),some (.tup (w.gv.map gU)),some (.int w.m),some (tbU t),some (.tup cs),some (.loc ps),o11,o12,o13,o14,o15,o16,o17,o18,o19]) ?_ ?_ ⟨rfl,λj _ h=>absurd h (Ycx j),_,_,_,rfl⟩
 ·rintro I G2 ⟨rfl,hp,o17,o18,o19,rfl⟩;refine⟨trivial,?_⟩;simp! only[];have O:((spts t w.m w.xs.length).zip cs).findIdx? (chP w t)=none:=jjZ λj b e=>hp j b (by
   have:=(List.getElem?_eq_some_iff.mp e).1;rw[Ydm]at this;rw[jak]
   lia) e
  rw[jm4 h1 h2 O]at q;exact q _ Sa.refl
 ·rintro i x I G2 K hx ⟨rfl,hp,o17,o18,o19,rfl⟩ hk;obtain⟨hi,rfl⟩:=jaC hx;refine⟨trivial,?_⟩;have hi:i<(spts t w.m w.xs.length).length:=by lia
  obtain⟨y,Y⟩:∃y,(spts t w.m w.xs.length)[i]?=some y:=⟨_,Yah hi⟩;obtain⟨c,J⟩:∃c,cs[i]?=some c:=⟨_,Yah (by lia)⟩
  obtain⟨_,_,F⟩:=hc.get J;have ez:((spts t w.m w.xs.length).zip cs)[i]?=some (y,c):=YeE.mpr ⟨Y,J⟩;have bd:=jf2 (Yas Y);simp! only[];rw[ix_l gs (atM (f:=spU) Y),show spU y=.tup [.int y.1,.int y.2]from rfl];simp! only[];refine⟨trivial,?_⟩;simp! only[];refine ht.ix (r:=y.1) (c:=y.2) bd.1 bd.2 ?_;simp! only[];refine⟨by decide,?_⟩
  rw[ix_t (jaO J)];refine jeS (k:=k) (t:=t) (p:=y) L hw F ?_;simp! only[];cases eb:chB w t y c with
  |true=>
   rw[if_neg (by decide)]
   refine hk _ _ ⟨rfl,λj b Z e=>?_,_,_,_,rfl⟩;rcases Nat.lt_succ_iff_lt_or_eq.mp Z with Z|rfl
   ·grind
   ·rw[ez]at e;cases e;unfold chP;lia
  |false=>
   rw[if_pos (by decide)]
   have O:=jj0 ez (p:=chP w t) (by unfold chP;lia) hp
   rw[jgT h1 h2 O]at q;exact⟨by decide,q _ Sa.refl⟩
def ld_7  {X: KX}(Y:w.Ok)(hw:jaL w.ss w.bs w.P w.wt ys)(ht:TbN w.m w.xs.length t)(hl:cs.length=(spts t w.m w.xs.length).length)(hc:Ths G cs Z)(gs:G ps=some (.lst ((spts t w.m w.xs.length).map spU)))(h1:w.gv.findIdx? (gvP t)=none){o11 o12 o13 o14 o15 o16 o17 o18 o19:Option U}(q:Due (rsT w t cs) G Q) :
  jat T.gs (jab T (k+2)) jaU ⟨λ_ J=>Q .non J,Q,λx _ J=>X x J⟩ [some w.u,some u,some (jas w.xs w.ss),some (.int w.P),some (jaf w.bs),some (jau w.wt),some (.tup (w.gv.map gU)),some (.int w.m),some (tbU t),some (.tup cs),some (.loc ps),o11,o12,o13,o14,o15,o16,o17,o18,o19] G:=by
 have p1:=Y.p1;have m2:=Y.m2;simp! only[jaU,jau];refine jav (λi ς J=>Sa G J/\(∀(j:Nat) b,j<i->w.wt[j]?=some b->spP w t b=false)/\∃o12 o13 o14 o15 o16,ς=[some w.u,some u,some (jas w.xs w.ss),some (.int w.P),some (jaf w.bs),some (jau w.wt),some (.tup (w.gv.map gU)),some (.int w.m),some (tbU t),some (.tup cs),some (.loc ps),o11,o12,o13,o14,o15,o16,o17,o18,o19]) ?_ ?_ ⟨Sa.refl,λj _ h=>absurd h (Ycx j),_,_,_,_,_,rfl⟩
 ·rintro ς G2 ⟨s2,hp,o12,o13,o14,o15,o16,rfl⟩;refine⟨trivial,?_⟩;refine ld_8 (k:=k) Y hw ht hl (hc.sa s2) (s2 _ _ gs) h1 (jov λj b e=>hp j b ?_ e) (q.sa s2)
  grind
 ·rintro i x ς G2 K hx ⟨s2,hp,o12,o13,o14,o15,o16,rfl⟩ hk;refine⟨trivial,?_⟩;rw[Yau]at hx;cases ep:w.wt[i]? with
  |none=>simp_all
  |some s=>
   rw[ep]at hx;cases hx;obtain⟨F,x,y,O,dl,el,ok⟩:=jft Y hw (Yas ep);rw[el]at ok;simp! only[jas,ix_t (jcc _ _ _),ix_t (atM O.s)];rw[show F.u=.tup [.str F.w,.int F.o,.int F.t,.int F.lo,.int F.hi]from rfl];simp! only[ji6];refine⟨trivial,?_⟩;refine jg0 (k:=k+1) (xs:=w.xs) O (by lia) Y.p6 dl ?_
   simp! only[];refine⟨trivial,?_⟩;simp! only[];have Z:spB w.m t (wyOf w.P s F x y)=(YaA (w.m-(wyOf w.P s F x y).p)).all λi=>decide (gt t i F.o-(wyOf w.P s F x y).b<=gt t (i+(wyOf w.P s F x y).p) F.t):=rfl;have np:=ok.p;obtain⟨n,hn⟩:∃n,n=(wyOf w.P s F x y).p:=⟨_,rfl⟩;obtain⟨L,hb⟩:∃L,L=(wyOf w.P s F x y).b:=⟨_,rfl⟩;rw[<- hn,<- hb]at Z ⊢;rw[<- hn]at np;refine⟨by lia,by lia,?_⟩
   have en:((w.m:Int)-(n:Int)).toNat=w.m-n:=by lia
   rw[en];refine⟨by rw[jak];exact Yaf (Nat.sub_le _ _) (Yaf m2 (by decide)),?_⟩
   refine jan (λj I J=>J=G2/\I=((YaA j).filter λi=>!decide (gt t i F.o-L<=gt t (i+n) F.t)).map λi:Nat=>U.int (i:Int)) ?_ ?_ ⟨rfl,rfl⟩
   ·rintro I G3 ⟨rfl,ea⟩;refine⟨trivial,λp4 G4 n4=>⟨by decide,λp5 G5 n5=>?_⟩⟩
    simp! only[];rw[ea,jak]at n4;refine jhe (n:=0) (n5.sa _ _ n4.at) n5.at (λv hv=>by obtain⟨_,_,rfl⟩:=List.mem_map.mp hv;exact Sml.int _) (by decide) ?_
    cases eb:spB w.m t (wyOf w.P s F x y)with
    |true=>
     have ha:=List.all_eq_true.mp (Z.symm.trans eb);rw[show((YaA (w.m-n)).filter λi=>!decide (gt t i F.o-L<=gt t (i+n) F.t))=[]from List.filter_eq_nil_iff.mpr λi hi=>by simp_all]
     rw[if_neg (by decide)]
     refine hk _ _ ⟨s2.trans (n4.sa.trans n5.sa),λj b hj e=>?_,_,_,_,_,_,rfl⟩;rcases Nat.lt_succ_iff_lt_or_eq.mp hj with hj|rfl
     ·grind
     ·rw[ep]at e;cases e;unfold spP;lia
    |false=>
     obtain⟨i',ja,za⟩:=List.all_eq_false.mp (Z.symm.trans eb);rw[show(((YaA (w.m-n)).filter λi=>!decide (gt t i F.o-L<=gt t (i+n) F.t)).map λi:Nat=>U.int (i:Int)).isEmpty=false by
      simp_all]
     rw[if_pos (by decide)]
     have e3:=jmm ep (p:=spP w t) (by unfold spP;lia) hp
     rw[jic h1 e3]at q;exact⟨by decide,q _ (s2.trans (n4.sa.trans n5.sa))⟩
   ·rintro j z I G3 K2 xa ⟨rfl,ea⟩ hs hn2;obtain⟨hj,rfl⟩:=jaC xa;refine⟨trivial,?_⟩;simp! only[];rw[show((j:Int)+(n:Int))=((j+n:Nat):Int) by lia]
    refine ht.ix (r:=j+n) (c:=F.t) (by lia) ok.t ?_
    simp! only[];refine ht.ix (r:=j) (c:=F.o) (by lia) ok.o ?_
    simp! only[];by_cases c:gt t j F.o-L<=gt t (j+n) F.t
    ·rw[if_neg (by lia)]
     refine hn2 _ ⟨rfl,?_⟩;rw[Yby,YbW,ea,YeX (by lia)]
     simp
    ·rw[if_pos (by lia)]
     refine hs _ _ ⟨rfl,?_⟩;rw[Yby,YbW,ea,Yc9 (by lia),YaH]
     rfl


def jnX {l:List (Nat×Nat×Int)}{p:Nat×Nat×Int->Bool}{i:Nat}(h:l.findIdx? p=some i):∃r,(YaA l.length).filter (λj=>match l[j]? with|some g=>p g|none=>false)=i::r:=by
 obtain⟨J,F,I⟩:=List.findIdx?_eq_some_iff_getElem.mp h;obtain⟨m,y⟩:∃m,l.length=i+(m+1):=⟨l.length-i-1,by lia⟩
 refine⟨(((YaA m).map Nat.succ).map (i + ·)).filter λj=>match l[j]? with|some g=>p g|none=>false,?_⟩
 rw[y,List.range_add,YbW,List.range_succ_eq_map,YaO,Yed,List.filter_eq_nil_iff.mpr λj z=>by
  grind,Yb3,Yc9 (by simp_all)]
def ld_5  {X: KX}(ow:w.Ok)(hw:jaL w.ss w.bs w.P w.wt ys)(ht:TbN w.m w.xs.length t)(hl:cs.length=(spts t w.m w.xs.length).length)(hc:Ths G cs es)(gs:G ps=some (.lst ((spts t w.m w.xs.length).map spU)))(q:Due (rsT w t cs) G Q) :
  jat T.gs (jab T (k+2)) jaV ⟨λ_ I=>Q .non I,Q,λx _ I=>X x I⟩ [some w.u,some u,some (jas w.xs w.ss),some (.int w.P),some (jaf w.bs),some (jau w.wt),some (.tup (w.gv.map gU)),some (.int w.m),some (tbU t),some (.tup cs),some (.loc ps),o11,o12,o13,o14,o15,o16,o17,o18,o19] G:=by
 have gl:=ow.gl;simp! only[jaV];rw[Yaa];refine⟨by lia,by lia,?_⟩
 refine⟨by rw[jak];exact Yaf (by simpa using gl) (by decide),?_⟩
 refine jan (λj y I=>I=G/\y=((YaA j).filter λi=>match w.gv[i]? with|some g=>gvP t g|none=>false).map λi:Nat=>U.int (i:Int)) ?_ ?_ ⟨rfl,rfl⟩
 ·rintro y G3 ⟨rfl,ea⟩;refine⟨trivial,λp4 G4 Z=>?_⟩;simp! only[];refine⟨by decide,λp5 G5 J=>?_⟩
  simp! only[];rw[ea,jak]at Z;have F:G4 p4=some (.lst (((YaA w.gv.length).filter λi=>match w.gv[i]? with|some g=>gvP t g|none=>false).map λi:Nat=>U.int (i:Int))):=by simpa using Z.at
  refine jhe (n:=0) (J.sa _ _ F) J.at (λv hv=>by obtain⟨_,_,rfl⟩:=List.mem_map.mp hv;exact Sml.int _) (by decide) ?_
  have L:=Z.sa.trans J.sa;cases ef:w.gv.findIdx? (gvP t)with
  |none=>
   have hz:((YaA w.gv.length).filter λi=>match w.gv[i]? with|some g=>gvP t g|none=>false)=[]:=List.filter_eq_nil_iff.mpr λi hi=>by
    grind
   rw[hz,if_neg (by decide)]
   exact ld_7 (k:=k) ow hw ht hl (hc.sa L) (L _ _ gs) ef (q.sa L)
  |some i=>
   obtain⟨r,hz⟩:=jnX ef;rw[hz]at F ⊢;rw[if_pos (by rfl)]
   simp! only[];rw[ix_l (J.sa _ _ F) (jfS _ _)];simp! only[];rw[jgS ef]at q;exact⟨by decide,q _ L⟩
 ·rintro j z y G3 K2 xa ⟨rfl,ea⟩ hs hn2;obtain⟨O,rfl⟩:=jaC xa;have O:j<w.gv.length:=by lia
  have Y:=Yah O;have og:=ow.gg _ (YaM O);refine⟨trivial,?_⟩;simp! only[ix_t (atM (f:=gU) Y)];rw[show gU w.gv[j]=.tup [.int w.gv[j].1,.int w.gv[j].2.1,.int w.gv[j].2.2]from rfl];simp! only[ix_t (jcc _ _ _),ix_t (jfS _ _),ix_t (jke _ _ _ _)];refine ht.ix (r:=w.gv[j].2.1) (c:=w.gv[j].1) og.t og.w ?_;simp! only[ix_t (jke _ _ _ _)];by_cases c:gt t w.gv[j].2.1 w.gv[j].1<w.gv[j].2.2
  ·rw[if_pos (decide_eq_true c)];refine hs _ _ ⟨rfl,?_⟩;rw[Yby,YbW,ea,Yc9 (by rw[Y];exact decide_eq_true c),YaH]
   rfl
  ·rw[if_neg (by lia)]
   refine hn2 _ ⟨rfl,?_⟩;rw[Yby,YbW,ea,YeX (by rw[Y];exact λz=>c (of_decide_eq_true z))]
   simp
def jf9   (Z:w.Ok)(hw:jaL w.ss w.bs w.P w.wt ys)(h:TG G n u)(hn:n<100)(hz:szU u)(hr:Is w u r)(q:Due r G Q):jab T (k+3) jcn [w.u,u] G Q X:=by
 refine⟨rfl,?_⟩;obtain⟨d,I,h2,h3⟩:=id h;simp! only[jcs,jah,Yag,Wd.u];refine⟨trivial,?_⟩;simp! only[jaJ I (show "tuple" ∈ ["bool", "int", "str", "list", "tuple", "dict"] by decide)]
 have y:(¬∃t j,u=.tup [tbU t,.tup j]/\Pap w t j)->∀J,Sa G J->Q (.tup [.str "shape",.int 0]) J:=λza J s'=>by
  rcases hr with⟨t,j,e,p,_⟩|⟨_,e⟩
  ·simp_all
  ·subst e;exact q J s'
 cases I with
 |@tup Y ds hs=>
  rw[show isD (.tuple ds) "tuple" = true from rfl,if_neg (by decide)]
  simp! only[];by_cases c:Y.length=2
  ·obtain⟨z,L,rfl⟩:∃z L,Y=[z,L]:=by
    match Y,c with
    |[a,b],_=>lia
   rw[if_neg (by simp)]
   simp! only[Wd.plan,ix_t (jfS _ _)];rw[Yaa];refine jfp (k:=k) (h.un z Yav) hn (hz _ rfl z Yav) λG1 s1=>?_;simp! only[];cases F:tabB w.xs.length w.m z with
   |false=>
    rw[if_pos (by decide)]
    refine⟨by decide,y ?_ _ s1⟩
    rintro⟨t,j,e,p⟩;cases e;rw[jko p.1]at F;cases F
   |true=>
    rw[if_neg (by decide)]
    obtain⟨t,rfl,ht⟩:=jkr F;simp! only[];refine⟨trivial,?_⟩;simp! only[jbW];refine jdu (k:=k+1) ht Z.m2 Z.x8 λp G2 g2 _ s2=>?_;obtain⟨d1,xa,_,_⟩:=id (h.un L (Yaj _ Yav));have I:=xa.sa (s1.trans s2);simp! only[jaJ I (show "tuple" ∈ ["bool", "int", "str", "list", "tuple", "dict"] by decide)]
    cases I with
    |@tup j es hc=>
     rw[show isD (.tuple es) "tuple" = true from rfl,if_neg (by decide)]
     simp! only[jdS g2];rw[Yaa];by_cases hl:j.length=(spts t w.m w.xs.length).length
     ·rw[if_neg (by lia)]
      have er:r=rsT w t j:=by
       rcases hr with⟨t',O,e,_,rfl⟩|⟨hn,_⟩
       ·have e:=Yba (U.tup.inj e);rw[jeI e.1,U.tup.inj (Yba e.2).1]
       ·exact absurd ⟨t,j,rfl,ht,hl⟩ hn
      subst er;exact ld_5 (k:=k) (u:=.tup [tbU t,.tup j]) Z hw ht hl hc g2 (q.sa (s1.trans s2))
     ·rw[if_pos (by lia)]
      refine⟨by decide,y ?_ _ (s1.trans s2)⟩
      rintro⟨t',O,e,p'⟩;have e:=Yba (U.tup.inj e);have F:=jeI e.1;have ec:=U.tup.inj (Yba e.2).1;subst F;subst ec;exact hl p'.2
    |_=>exact⟨by decide,y (λ⟨t,j,e,_⟩=>(nomatch (Yba (Yba (U.tup.inj e)).2).1)) _ (s1.trans s2)⟩
  ·rw[if_pos (by lia)]
   exact⟨by decide,y (λ⟨t,j,e,_⟩=>c (by simp_all)) _ Sa.refl⟩
 |_=>exact⟨by decide,y (λ⟨t,j,e,_⟩=>(nomatch e)) _ Sa.refl⟩
def jf8   (F:w.Ok)(y:jaL w.ss w.bs w.P w.wt ys)(h:Th G u d)(I:szU u)(hr:Is w u r)(q:Due r G Q):jab T (k+6) jcm [w.u,u] G Q X:=by
 refine⟨rfl,?_⟩;simp! only[jcr,jah,Yag,Wd.u];refine⟨trivial,?_⟩;simp! only[];refine jfo (k:=k) F y h I hr ?_;cases r with
 |ok=>
  intro j s1;simp! only[];exact q j s1
 |no x z=>
  intro j s1;refine⟨.inl trivial,?_⟩;simp[hsH,hvH,jcB,lit1,litH,atsH,atH,clsF,clsA,-Yfs];exact q j s1

noncomputable def nI  (n:Nat):U:=.int (n:Int)
theorem jet  : ∀(ys:List Nat) j ,(ys.map nI).eraseIdx j=(ys.eraseIdx j).map nI
 |[],_=>rfl
 |_::_,0=>rfl
 |y::ys,j+1=>by simp[jet ys j]
def mt_pop     (g:G p=some (.lst us)):mtU .pop (.loc p) G=some ("list", "list.pop"):=by unfold mtU;lia
def jpu   {ys:List Nat}(g:G p=some (.lst (ys.map nI))) hj (hs:ys.length<=30)(q:∀y,Put G p (.lst ((ys.eraseIdx j).map nI)) y->Q (nI ys[j]) y):jbh .pop (.loc p) [.int (j:Int)] G Q:=by
 dsimp only[jbh];unfold popU;dsimp only;rw[g];dsimp only;refine⟨by lia,by lia,?_⟩
 have e:Yei (j:Int) (ys.map nI).length=some j:=by
  have z:¬((j:Int)<0):=by lia
  unfold Yei;simp[hj,z]
 rw[e];dsimp only;rw[Yau,Yah hj];dsimp only[Yew];rw[jet];exact q
theorem jes  {z:Type}:∀{ys:List z} {j } hj ,(ys[j]::ys.eraseIdx j).Perm ys
 |_::_,0,_=>.refl _
 |y::ys,j+1,hj=>by
  have:=jes (ys:=ys) (j:=j) (by simp_all)
  simp only[List.getElem_cons_succ,YeY];exact(List.Perm.swap _ _ _).trans (.cons y this)

def jc9     (hf:Fd G f c)(hn:ns.length<=30)(hx:∀φ ,(∀ok,φ (ns.map nI) ok)->itU x G φ)
  (q:∀p (os:List Nat) F ,os.Perm ns->G p=none->F p=some (.lst (os.map nI))->Fd F f c->Sm f G F->Q (.loc p) F):jab T (k+2) jcz [.loc f,x] G Q X:=by
 refine⟨rfl,?_⟩;simp! only[jd2,jah,Yag];refine hx _ λ_ p2 G1 O=>?_;simp! only[];refine⟨by decide,λY G2 L=>?_⟩
 have h2:=hf.away O;have f1:=hf.new O;have h3:=f1.away L;have ja:Y≠p2:=jb1 O.at L.no;have va:G Y=none:=by
  cases e:G Y with
  |none=>rfl
  |some o=>have:=O.sa _ _ e;rw[L.no]at this;lia
 dsimp only
 try rw[S_wh]
 refine⟨λn ς F=>∃left y:List Nat,ς=[some (.loc f),some x,some (.loc p2),some (.loc Y)]/\n=left.length/\(y++left).Perm ns/\F p2=some (.lst (left.map nI))/\F Y=some (.lst (y.map nI))/\Fd F f c/\Sm f G F,⟨_,ns,[],rfl,rfl,.refl _,L.sa _ _ O.at,L.at,f1.new L,(O.sa.trans L.sa).sm⟩,?_⟩;rintro n ς F ⟨left,y,rfl,rfl,pm,g2,g3,f3,s3⟩;have Z:=pm.length_eq;rw[Yat]at Z;simp! only[];refine⟨by decide,λp4 G4 I=>?_⟩
 simp! only[];refine jhe (n:=0) (I.sa _ _ g2) I.at (λv hv=>by obtain⟨_,_,rfl⟩:=List.mem_map.mp hv;exact Sml.int _) (by decide) ?_
 cases left with
 |nil=>
  rw[if_neg (by decide)]
  simp! only[];rw[YcO]at pm;exact q Y y G4 pm va (I.sa _ _ g3) (f3.new I) (s3.nw I)
 |cons l0 lr=>
  rw[if_pos (by rfl)]
  have J:=I.sa _ _ g2;have xa:=I.sa _ _ g3;simp! only[jfr xa,mt_pop J,jdS J,Yaa];refine jac (f3.new I) (by simp) (by grind) λz G5 a5 b5 f5 s5=>?_
  obtain⟨j,rfl⟩:=Yax a5;have hj:j<(l0::lr).length:=by grind
  refine jpu (s5 _ _ h2.1 J) hj (by lia) λG6 w6=>?_
  have za:=w6.sm _ _ ja (s5 _ _ h3.1 xa);rw[jjm za];refine⟨by rw[Yaa];exact YaW (show y.length<=30 by lia) (by decide),λG7 w7=>?_⟩
  refine⟨((l0::lr).eraseIdx j).length,by rw[List.length_eraseIdx_of_lt hj];simp,(l0::lr).eraseIdx j,y++[(l0::lr)[j]],trivial,rfl,?_,w7.sm _ _ (Ne.symm ja) w6.at,by rw[w7.at,YaH];rfl,(f5.off h2 w6).off h3 w7,?_⟩
  ·rw[Yc4];exact(List.Perm.append_left y (jes hj)).trans pm
  ·intro b o hb e;have wa:b≠Y:=λz=>by lia
   have ya:b≠p2:=λz=>by rw[z,O.no]at e;cases e
   exact w7.sm _ _ wa (w6.sm _ _ ya (s5 _ _ hb (I.sa _ _ (s3 _ _ hb e))))

open Classical in
def jf3 {m W:Nat}{ys:List Wy}{L:List (Nat×Nat×Int)}{R:Tb}(z:Lst m W ys L R)(O:∀y∈ys,y.Ok W)(H:Nat->Nat->Prop)(hA:∀g∈L,0<g.2.2->gt R g.2.1 g.1=g.2.2->H g.2.1 g.1)
  (hB:∀y∈ys,∀i,i<m-y.p->H i y.o->0<gt R i y.o-y.b->gt R (i+y.p) y.t=gt R i y.o-y.b->H (i+y.p) y.t) {r c:Nat} (hr:r<m) (I:c<W) (pos:0<gt R r c):H r c:=by
 refine Yea λhn=>?_;have h:=z.le (λr c=>if H r c then gt R r c else max 0 (gt R r c-1)) (λy F i Z=>?_) (λr c hr I=>?_) (λg J=>?_) r c hr I
 ·lia
 ·have c1:=z.cl y F i Z;have b0:=(O y F).b;have t0:=(z.ok.gt (r:=i+y.p) (c:=y.t) (by lia) (O y F).t).1
  dsimp only;by_cases j:H i y.o
  ·rw[if_pos j];by_cases Y:H (i+y.p) y.t
   ·lia
   ·rw[if_neg Y];by_cases h3:0<gt R i y.o-y.b
    ·have:gt R (i+y.p) y.t≠gt R i y.o-y.b:=λe=>Y (hB y F i Z j h3 e)
     lia
    ·lia
  ·rw[if_neg j];split<;>lia
 ·have:=(z.ok.gt hr I).1;split<;>lia
 ·have g1:=z.ge g J;split
  ·exact g1
  ·rename_i j;by_cases h0:0<g.2.2
   ·have:gt R g.2.1 g.1≠g.2.2:=λe=>j (hA g J h0 e)
    lia
   ·lia
noncomputable abbrev kyI  (r c:Nat):List Key:=[.inl (r:Int),.inl (c:Int)]
def Cn  (N:Nat)(u:U):Prop:=∃(g:Nat) (row:List Nat),u=.tup [nI g,.tup (row.map nI)]/\g<12/\row.length<=N/\∀s∈row,s<25
structure Kn (m W:Nat)(kvs:List (List Key×U)):Prop where
 nd:(kvs.map (·.1)).Nodup
 ks:∀p∈kvs,∃r c:Nat,r<m/\c<W/\p.1=kyI r c
 vs:∀p∈kvs,Cn kvs.length p.2
def has  (kvs:List (List Key×U))(r c:Nat):Prop:=∃u,dGet kvs (kyI r c)=some u
def jgl   [DecidableEq κ]{k:κ}{u:α}(h:dGet kvs k=some u):(k,u)∈kvs:=by
 unfold dGet at h;cases e:kvs.find? λj=>decide (j.1=k)with
 |none=>simp_all
 |some p=>
  grind
theorem jkH  : ∀W (l:List Nat),l.Nodup->(∀x∈l,x<W)->l.length<=W
 |0,l,_,h=>by
  cases l with
  |nil=>simp_all
  |cons a l=>have:=h a (by simp);lia
 |W+1,l,nd,h=>by
  have y:=jkH W (l.erase W) (nd.erase _) λx z=>by
   grind
  by_cases j:W∈l
  ·rw[List.length_erase_of_mem j]at y;lia
  ·rw[List.erase_of_not_mem j]at y;lia
noncomputable def kcode  (W:Nat):List Key->Nat
 |[.inl r,.inl c]=>r.toNat*W+c.toNat
 |_=>0
def jlO   {l:List (List Key)}(nd:l.Nodup)(h:∀k∈l,∃r c ,r<m/\c<W/\k=kyI r c):l.length<=m*W:=by
 have I:(l.map (kcode W)).Nodup:=List.pairwise_map.mpr (nd.imp_of_mem (by
  intro a b Z F z e;refine z ?_;obtain⟨r,c,O,L,rfl⟩:=h a Z;obtain⟨j,J,xa,y,rfl⟩:=h b F;have e:r*W+c=j*W+J:=by simpa[kcode,kyI]using e
  have e1:(r*W+c)/W=r:=by rw[Yfq,Nat.mul_add_div (by lia),Nat.div_eq_of_lt L,Yed]
  have e2:(j*W+J)/W=j:=by rw[Yfq,Nat.mul_add_div (by lia),Nat.div_eq_of_lt y,Yed]
  simp_all))
 have F:∀x∈l.map (kcode W),x<m*W:=by
  intro x Y;obtain⟨k,hk,rfl⟩:=List.mem_map.mp Y;obtain⟨r,c,O,L,rfl⟩:=h k hk;have e:kcode W (kyI r c)=r*W+c:=by simp[kcode,kyI]
  rw[e];have:=YcJ W (show r+1<=m by lia)
  rw[YfS]at this
  lia
 have:=jkH (m*W) _ I F
 simp_all
def Kn.len    (h:Kn m W kvs)(j:m<=12)(y:W<=8):kvs.length<=96:=by
 have:=jlO (m:=m) (W:=W) h.nd λk hk=>by
  obtain⟨p,z,rfl⟩:=List.mem_map.mp hk;exact h.ks p z
 rw[Yaa]at this;exact Yaf this (YeQ j y)
def jhj   {k:List Key}{v:U}(h:dGet kvs k=none):dPut kvs k v=kvs++[(k,v)]:=by
 unfold dPut;rw[if_neg];intro z;obtain⟨p,j,hk⟩:=List.any_eq_true.mp z;unfold dGet at h;rw[YeP]at h
 grind
def Kn.put    (h:Kn m W kvs)(hr:r<m)(hc:c<W)(hv:∀N,kvs.length<=N->(dGet kvs (kyI r c)=none->kvs.length+1<=N)->Cn N v):Kn m W (dPut kvs (kyI r c) v)/\kvs.length<=(dPut kvs (kyI r c) v).length:=by
 cases e:dGet kvs (kyI r c)with
 |none=>
  rw[jhj e];refine⟨⟨?_,λp j=>?_,λp j=>?_⟩,by simp⟩
  ·rw[YaH];refine List.nodup_append.mpr ⟨h.nd,by simp,λa ha b hb z=>?_⟩
   subst z;obtain⟨p,j,rfl⟩:=List.mem_map.mp ha;have hb:p.1=kyI r c:=by simp_all
   unfold dGet at e;rw[YeP]at e
   grind
  ·rcases List.mem_append.mp j with j|j
   ·exact h.ks p j
   ·rw[List.mem_singleton.mp j];exact⟨r,c,hr,hc,rfl⟩
  ·rw[Yat,Ybm];rcases List.mem_append.mp j with j|j
   ·obtain⟨g,row,I,L,e3,O⟩:=h.vs p j;exact⟨g,row,I,L,by lia,O⟩
   simp_all
 |some u=>
  have j:dPut kvs (kyI r c) v=kvs.map λy=>if y.1=kyI r c then (y.1,v) else y:=by
   unfold dPut;rw[if_pos];exact List.any_eq_true.mpr ⟨_,jgl e,by simp⟩
  have I:(kvs.map λy=>if y.1=kyI r c then (y.1,v) else y).map (·.1)=kvs.map (·.1):=by
   rw[List.map_map];refine YfC λp _=>?_
   lia
  rw[j];refine⟨⟨by rw[I];exact h.nd,λp j=>?_,λp j=>?_⟩,by simp⟩
  ·obtain⟨J,F,rfl⟩:=List.mem_map.mp j;obtain⟨r',c',Z,h2,Y⟩:=h.ks J F;refine⟨r',c',Z,h2,?_⟩;split<;>exact Y
  ·obtain⟨J,F,rfl⟩:=List.mem_map.mp j;rw[Yaa];split
   ·simp_all
   ·exact h.vs J F
def jgj     : has (dPut kvs (kyI r c) v) r' j↔(r'=r/\j=c)\/has kvs r' j:=by
 unfold has;rw[jj7];split
 ·lia
 grind
def Kn.nil   : Kn m W []:=⟨YeC,λp h=>(nomatch h),λp h=>(nomatch h)⟩
def okAt  (R:Tb)(kvs:List (List Key×U))(y:Wy)(i:Nat):Prop:=has kvs i y.o->0<gt R i y.o-y.b->gt R (i+y.p) y.t=gt R i y.o-y.b->has kvs (i+y.p) y.t
def jnZ    (Y:w.Ok)(F:jaL w.ss w.bs w.P w.wt ys)(h:y∈ys):∃s∈w.wt,lg w s=y:=by
 obtain⟨i,O⟩:=List.mem_iff_getElem?.mp h;obtain⟨Z,I⟩:=jeG F;have j:i<w.wt.length:=by grind
 have L:=Yah j;obtain⟨z,x,J,a,d,e⟩:=I i _ L;refine⟨w.wt[i],YaM j,?_⟩;rw[O]at e;cases e;unfold lg;rw[a.s];dsimp only;rw[show w.bs.getD z.o 0=x by rw[Ybf,a.x];rfl,show w.bs.getD z.t 0=J by rw[Ybf,a.y];rfl]


def Stp  (w:Wd)(R:Tb)(kvs j:List (List Key×U))(fl y:Bool)(ok:Prop):Prop:=Kn w.m w.xs.length j/\(∀r c,has kvs r c->has j r c)/\((y=fl/\j=kvs/\ok)\/(y=true/\kvs.length<j.length))
def jms  (ow:w.Ok)(hw:jaL w.ss w.bs w.P w.wt ys)(hR:TbOk w.m w.xs.length R)(kn:Kn w.m w.xs.length kvs)(hs:s∈w.wt)(hj:j<w.m-(lg w s).p){o10 o11 o13 o21 o22:Option U}
  (q:∀O Y J I L F,Stp w R kvs O fl Y (okAt R kvs (lg w s) j)->K [some (.loc f),some w.u,some (tbU R),some (jas w.xs w.ss),some (.int w.P),some (jaf w.bs),some (jau w.wt),some (.tup (w.gv.map gU)),some (.int w.m),some (.loc a),J,o11,some (.int j),I,some (.loc pl),some (.bl Y),some (.int s),some (.int (lg w s).o),some (.int (lg w s).t),some (.int (lg w s).p),some (.int (lg w s).b),L,F] (gup G a (.dT O))) :
  jat T.gs (jab T (k+2)) jax ⟨K,Q',X'⟩ [some (.loc f),some w.u,some (tbU R),some (jas w.xs w.ss),some (.int w.P),some (jaf w.bs),some (jau w.wt),some (.tup (w.gv.map gU)),some (.int w.m),some (.loc a),o10,o11,some (.int j),o13,some (.loc pl),some (.bl fl),some (.int s),some (.int (lg w s).o),some (.int (lg w s).t),some (.int (lg w s).p),some (.int (lg w s).b),o21,o22] (gup G a (.dT kvs)):=by
 obtain⟨sp,x,y,za,dl,el,ok⟩:=jft ow hw hs;have m2:=ow.m2;have ht:=hR.tn;simp! only[jax];refine ht.ix (r:=j) (c:=(lg w s).o) (by lia) ok.o ?_
 simp! only[];rw[jok jar];refine⟨by decide,?_⟩
 have stay:∀J I L F,okAt R kvs (lg w s) j->K [some (.loc f),some w.u,some (tbU R),some (jas w.xs w.ss),some (.int w.P),some (jaf w.bs),some (jau w.wt),some (.tup (w.gv.map gU)),some (.int w.m),some (.loc a),J,o11,some (.int j),I,some (.loc pl),some (.bl fl),some (.int s),some (.int (lg w s).o),some (.int (lg w s).t),some (.int (lg w s).p),some (.int (lg w s).b),L,F] (gup G a (.dT kvs)):=λ_ _ _ _ h=>q kvs fl _ _ _ _ ⟨kn,λ_ _ z=>z,.inl ⟨rfl,rfl,h⟩⟩;cases e1:dGet kvs [Sum.inl (j:Int),Sum.inl ((lg w s).o:Int)]with
 |none=>
  rw[if_neg (by decide)]
  simp! only[];exact stay _ _ _ _ λ⟨u,h⟩=>by lia
 |some u=>
  rw[if_pos (show(some u).isSome=true from rfl),show((j:Int)+((lg w s).p:Int))=((j+(lg w s).p:Nat):Int) by lia,jok jar]
  refine⟨by decide,?_⟩
  cases e2:dGet kvs [Sum.inl ((j+(lg w s).p:Nat):Int),Sum.inl ((lg w s).t:Int)]with
  |some v=>
   rw[if_neg (by simp)]
   simp! only[];exact stay _ _ _ _ λ_ _ _=>⟨v,e2⟩
  |none=>
   rw[if_pos (by decide)]
   by_cases c1:0<gt R j (lg w s).o-(lg w s).b
   ·rw[if_pos (decide_eq_true c1)];refine ht.ix (r:=j+(lg w s).p) (c:=(lg w s).t) (by lia) ok.t ?_
    simp! only[];by_cases c2:gt R (j+(lg w s).p) (lg w s).t=gt R j (lg w s).o-(lg w s).b
    ·rw[if_pos (decide_eq_true c2)];refine⟨by decide,?_⟩
     rw[jog jar e1];obtain⟨g,row,rfl,hg,xa,va⟩:=kn.vs _ (jgl e1);simp! only[];refine⟨trivial,?_⟩;simp! only[];have kl:=kn.len m2 ow.x8;have ya:=ow.ww s hs;have ja:=ow.s25;refine⟨by decide,by rw[Yaa];exact Yaf (show row.length+(0+1)<=97 by lia) (by decide),by decide,by decide,?_⟩
     rw[show((j:Int)+((lg w s).p:Int))=((j+(lg w s).p:Nat):Int) by lia,jkw jar]
     refine⟨YaW kl (by decide),?_⟩
     rw[jdE,jeZ,show(row.map nI++[U.int (s:Int)])=(row++[s]).map nI by rw[YaH];rfl]
     have Z:=kn.put (r:=j+(lg w s).p) (c:=(lg w s).t) (by lia) ok.t (v:=.tup [nI g,.tup ((row++[s]).map nI)]) λN h1 h2=>⟨g,row++[s],rfl,hg,by
      have:=h2 e2;rw[Yat,Ybm]
      lia,λz hz=>by
      grind⟩
     exact q _ true _ _ _ _ ⟨Z.1,λr c h=>jgj.mpr (.inr h),.inr ⟨rfl,by rw[jhj e2,Yat,Ybm];lia⟩⟩
    ·rw[if_neg (by lia)]
     exact stay _ _ _ _ λ_ _ h=>absurd h c2
   ·rw[if_neg (by lia)]
    exact stay _ _ _ _ λ_ h=>absurd h c1
def joH  (ow:w.Ok)(hw:jaL w.ss w.bs w.P w.wt ys)(hR:TbOk w.m w.xs.length R)(kn:Kn w.m w.xs.length kvs)(hs:s∈w.wt){o10 o11 o12 o13 o21 o22:Option U}
  (q:∀F I o10 o12 o13 o21 o22,Stp w R kvs F fl I (∀j,j<w.m-(lg w s).p->okAt R kvs (lg w s) j)->K [some (.loc f),some w.u,some (tbU R),some (jas w.xs w.ss),some (.int w.P),some (jaf w.bs),some (jau w.wt),some (.tup (w.gv.map gU)),some (.int w.m),some (.loc a),o10,o11,o12,o13,some (.loc pl),some (.bl I),some (.int s),some (.int (lg w s).o),some (.int (lg w s).t),some (.int (lg w s).p),some (.int (lg w s).b),o21,o22] (gup G a (.dT F))) :
  jat T.gs (jab T (k+2)) jaB ⟨K,Q',X'⟩ [some (.loc f),some w.u,some (tbU R),some (jas w.xs w.ss),some (.int w.P),some (jaf w.bs),some (jau w.wt),some (.tup (w.gv.map gU)),some (.int w.m),some (.loc a),o10,o11,o12,o13,some (.loc pl),some (.bl fl),some (.int s),some (.int (lg w s).o),some (.int (lg w s).t),some (.int (lg w s).p),some (.int (lg w s).b),o21,o22] (gup G a (.dT kvs)):=by
 obtain⟨sp,x,y,wa,dl,el,ok⟩:=jft ow hw hs;have m2:=ow.m2;have np:=ok.p;simp! only[jaB];refine⟨by lia,by lia,?_⟩
 refine jav (λi ς G'=>∃F I o10 o12 o13 o21 o22,ς=[some (.loc f),some w.u,some (tbU R),some (jas w.xs w.ss),some (.int w.P),some (jaf w.bs),some (jau w.wt),some (.tup (w.gv.map gU)),some (.int w.m),some (.loc a),o10,o11,o12,o13,some (.loc pl),some (.bl I),some (.int s),some (.int (lg w s).o),some (.int (lg w s).t),some (.int (lg w s).p),some (.int (lg w s).b),o21,o22]/\G'=gup G a (.dT F)/\Stp w R kvs F fl I (∀j,j<i->okAt R kvs (lg w s) j)) ?_ ?_ ⟨kvs,fl,o10,o12,o13,o21,o22,rfl,rfl,kn,λ_ _ h=>h,.inl ⟨rfl,rfl,λj h=>absurd h (Ycx j)⟩⟩
 ·rintro ς G' ⟨F,I,o10,o12,o13,o21,o22,rfl,rfl,h⟩;refine⟨trivial,?_⟩;rw[jak]at h;refine q F I _ _ _ _ _ ?_
  simp_all
 ·rintro i z ς G' KK hz ⟨F,I,o10,o12,o13,o21,o22,rfl,rfl,kn',mo,h⟩ hk;obtain⟨hi,rfl⟩:=jaC hz;refine⟨trivial,?_⟩;refine jms (k:=k) ow hw hR kn' hs (by lia) λJ O va ja ya za Z=>?_
  obtain⟨L,xa,h'⟩:=Z;refine hk _ _ ⟨J,O,_,_,_,_,_,rfl,rfl,L,λr c z=>xa r c (mo r c z),?_⟩;rcases h' with⟨rfl,rfl,h2⟩|⟨rfl,hl⟩
  ·rcases h with⟨rfl,rfl,h1⟩|h
   ·refine .inl ⟨rfl,rfl,λj Y=>?_⟩;rcases Nat.lt_succ_iff_lt_or_eq.mp Y with Y|rfl
    ·exact h1 j Y
    ·exact h2
   ·exact .inr h
  ·refine .inr ⟨rfl,?_⟩;rcases h with⟨_,rfl,_⟩|⟨_,h⟩
   ·exact hl
   ·lia
def jmt  (ow:w.Ok)(hw:jaL w.ss w.bs w.P w.wt ys)(hR:TbOk w.m w.xs.length R)(kn:Kn w.m w.xs.length kvs){Y:List Nat}(za:∀s∈Y,s∈w.wt)(ya:pl≠a)(gl:G pl=some (.lst (Y.map λs=>wyU (lg w s)))){o10 o11 o12 o13 o16 o17 o18 o19 o20 o21 o22:Option U}
  (q:∀F I o10 o12 o13 o16 o17 o18 o19 o20 o21 o22,Stp w R kvs F fl I (∀s∈Y,∀j,j<w.m-(lg w s).p->okAt R kvs (lg w s) j)->K [some (.loc f),some w.u,some (tbU R),some (jas w.xs w.ss),some (.int w.P),some (jaf w.bs),some (jau w.wt),some (.tup (w.gv.map gU)),some (.int w.m),some (.loc a),o10,o11,o12,o13,some (.loc pl),some (.bl I),o16,o17,o18,o19,o20,o21,o22] (gup G a (.dT F))) :
  jat T.gs (jab T (k+2)) jaN ⟨K,Q',X'⟩ [some (.loc f),some w.u,some (tbU R),some (jas w.xs w.ss),some (.int w.P),some (jaf w.bs),some (jau w.wt),some (.tup (w.gv.map gU)),some (.int w.m),some (.loc a),o10,o11,o12,o13,some (.loc pl),some (.bl fl),o16,o17,o18,o19,o20,o21,o22] (gup G a (.dT kvs)):=by
 have O:∀F,gup G a (.dT F) pl=some (.lst (Y.map λs=>wyU (lg w s))):=λF=>by rw[jbf ya];exact gl
 simp! only[jaN,it_l (O kvs)];refine jav (λi ς G'=>∃F I o10 o12 o13 o16 o17 o18 o19 o20 o21 o22,ς=[some (.loc f),some w.u,some (tbU R),some (jas w.xs w.ss),some (.int w.P),some (jaf w.bs),some (jau w.wt),some (.tup (w.gv.map gU)),some (.int w.m),some (.loc a),o10,o11,o12,o13,some (.loc pl),some (.bl I),o16,o17,o18,o19,o20,o21,o22]/\G'=gup G a (.dT F)/\Stp w R kvs F fl I (∀s∈Y.take i,∀j,j<w.m-(lg w s).p->okAt R kvs (lg w s) j)) ?_ ?_ ⟨kvs,fl,o10,o12,o13,o16,o17,o18,o19,o20,o21,o22,rfl,rfl,kn,λ_ _ h=>h,.inl ⟨rfl,rfl,λs h=>(nomatch h)⟩⟩
 ·rintro ς G' ⟨F,I,o10,o12,o13,o16,o17,o18,o19,o20,o21,o22,rfl,rfl,h⟩;rw[Yaa,Ybr]at h;exact⟨jdn (O F),q F I _ _ _ _ _ _ _ _ _ _ h⟩
 ·rintro i z ς G' KK hz ⟨F,I,o10,o12,o13,o16,o17,o18,o19,o20,o21,o22,rfl,rfl,kn',mo,h⟩ hk;refine⟨jdn (O F),?_⟩;rw[Yau]at hz;cases es:Y[i]? with
  |none=>simp_all
  |some s=>
   rw[es]at hz;cases hz;have hs:=za s (Yas es);have e0:wyU (lg w s)=.tup [.int (s:Int),.int (lg w s).o,.int (lg w s).t,.int (lg w s).p,.int (lg w s).b]:=by
    obtain⟨sp,x,y,jb,dl,el,ok⟩:=jft ow hw hs;rw[el];rfl
   dsimp only;rw[e0];simp! only[];refine⟨trivial,?_⟩;refine joH (k:=k) ow hw hR kn' hs λL xa ha xb ka zb wa ja=>?_;obtain⟨Z,va,h'⟩:=ja;refine hk _ _ ⟨L,xa,_,_,_,_,_,_,_,_,_,_,rfl,rfl,Z,λr c z=>va r c (mo r c z),?_⟩;rcases h' with⟨rfl,rfl,h2⟩|⟨rfl,hl⟩
   ·rcases h with⟨rfl,rfl,h1⟩|h
    ·refine .inl ⟨rfl,rfl,λs' J=>?_⟩;rw[Ybh,es]at J;rcases List.mem_append.mp J with J|J
     ·exact h1 s' J
     ·rw[List.mem_singleton.mp J];exact h2
    lia
   ·refine .inr ⟨rfl,?_⟩;rcases h with⟨_,rfl,_⟩|⟨_,h⟩
    ·exact hl
    ·lia


def KA2  (w:Wd)(R:Tb)(l:List Nat)(kvs:List (List Key×U)):Prop:=∀i∈l,∀g,w.gv[i]?=some g->0<g.2.2->gt R g.2.1 g.1=g.2.2->has kvs g.2.1 g.1
def jjr     (h:p∈spts t m W):0<gt t p.1 p.2:=by
 unfold spts at h;obtain⟨r,y,h⟩:=List.mem_flatMap.mp h;unfold spt at h;obtain⟨c,j,rfl⟩:=List.mem_map.mp h;exact of_decide_eq_true (List.mem_filter.mp j).2
def ch_6  {X: KX}{w: Wd}(I:w.Ok)(hR:TbOk w.m w.xs.length R)(kn:Kn w.m w.xs.length kvs)(ga:G a=some (.dT kvs))(hk:∀r c,r<w.m->c<w.xs.length->0<gt R r c->has kvs r c){o10 o11 o12 o13 o14 o15 o16 o17 o18 o19 o20 o21 o22:Option U}
  (q:∀p (us:List U) F ,us.length=(spts R w.m w.xs.length).length->(∀u∈us,Cn 96 u)->G p=none->F p=some (.lst us)->Sa G F->Q (.loc p) F) :
  jat T.gs (jab T (k+2)) jbn ⟨λ_ F=>Q .non F,Q,λx _ F=>X x F⟩ [some (.loc f),some w.u,some (tbU R),some (jas w.xs w.ss),some (.int w.P),some (jaf w.bs),some (jau w.wt),some (.tup (w.gv.map gU)),some (.int w.m),some (.loc a),o10,o11,o12,o13,o14,o15,o16,o17,o18,o19,o20,o21,o22] G:=by
 have kl:=kn.len I.m2 I.x8;simp! only[jbn];refine jdu (k:=k+1) hR.tn I.m2 I.x8 λp G1 Y n1 s1=>?_;simp! only[it_l Y];have hn:=jaz (t:=R) I.m2 I.x8;refine⟨by rw[Yaa];exact Yaf hn (by decide),?_⟩
 refine jan (λj y F=>F=G1/\y.length=j/\∀u∈y,Cn 96 u) ?_ ?_ ⟨rfl,rfl,λ_ h=>(nomatch h)⟩
 ·rintro y G2 ⟨rfl,hl,hc⟩;refine⟨jdn Y,λp3 G3 O=>?_⟩;refine q p3 y G3 (by simp_all) hc ?_ O.at (s1.trans O.sa)
  cases e:G p3 with
  |none=>rfl
  |some o=>have:=s1 _ _ e;rw[O.no]at this;lia
 ·rintro j z y G2 KK hz ⟨rfl,hl,hc⟩ hs hn2;refine⟨jdn Y,?_⟩;rw[Yau]at hz;cases Z:(spts R w.m w.xs.length)[j]? with
  |none=>simp_all
  |some J=>
   rw[Z]at hz;cases hz;have bd:=jf2 (Yas Z);have ps:0<gt R J.1 J.2:=jjr (Yas Z);obtain⟨u,hu⟩:=hk J.1 J.2 bd.1 bd.2 ps;show ixU (.loc a) (spU J) G2 _;unfold spU;rw[jog (s1 _ _ ga) hu];refine hs _ _ ⟨rfl,by simp_all,λv L=>?_⟩
   rcases List.mem_append.mp L with L|L
   ·exact hc v L
   ·rw[List.mem_singleton.mp L];obtain⟨g,row,e1,e2,e3,e4⟩:=kn.vs _ (jgl hu);exact⟨g,row,e1,e2,by lia,e4⟩
def ch_5  {X: KX}(J:w.Ok)(hw:jaL w.ss w.bs w.P w.wt ys)(hL:Lst w.m w.xs.length ys w.gv R)(kn:Kn w.m w.xs.length kvs)(hA:KA2 w R (YaA w.gv.length) kvs){os:List Nat}(xa:os.Perm w.wt)(ya:pl≠a)(ga:G a=some (.dT kvs))(gl:G pl=some (.lst (os.map λs=>wyU (lg w s)))){o10 o11 o12 o13 o16 o17 o18 o19 o20 o21 o22:Option U}
  (q:∀p (us:List U) L ,us.length=(spts R w.m w.xs.length).length->(∀u∈us,Cn 96 u)->G p=none->L p=some (.lst us)->(∀b o,b≠a->G b=some o->L b=some o)->Q (.loc p) L) :
  jat T.gs (jab T (k+2)) jbo ⟨λ_ L=>Q .non L,Q,λx _ L=>X x L⟩ [some (.loc f),some w.u,some (tbU R),some (jas w.xs w.ss),some (.int w.P),some (jaf w.bs),some (jau w.wt),some (.tup (w.gv.map gU)),some (.int w.m),some (.loc a),o10,o11,o12,o13,some (.loc pl),some (.bl true),o16,o17,o18,o19,o20,o21,o22] G:=by
 have hy:∀y∈ys,y.Ok w.xs.length:=je8 (by have:=J.p1;lia) J.p6 J.so J.bb hw
 simp! only[jbo]
 try rw[S_wh]
 refine⟨λn ς L=>∃F fl o10 o12 o13 o16 o17 o18 o19 o20 o21 o22,ς=[some (.loc f),some w.u,some (tbU R),some (jas w.xs w.ss),some (.int w.P),some (jaf w.bs),some (jau w.wt),some (.tup (w.gv.map gU)),some (.int w.m),some (.loc a),o10,o11,o12,o13,some (.loc pl),some (.bl fl),o16,o17,o18,o19,o20,o21,o22]/\L=gup G a (.dT F)/\Kn w.m w.xs.length F/\KA2 w R (YaA w.gv.length) F/\(fl=true->n=97-F.length)/\(fl=false->n=0/\∀s∈os,∀j,j<w.m-(lg w s).p->okAt R F (lg w s) j),⟨_,kvs,true,_,_,_,_,_,_,_,_,_,_,rfl,jjY ga,kn,hA,λ_=>rfl,λz=>(nomatch z)⟩,?_⟩;rintro n ς L ⟨F,fl,o10,o12,o13,o16,o17,o18,o19,o20,o21,o22,rfl,rfl,kn',hA',hT,hF⟩;have kl:=kn'.len J.m2 J.x8;simp! only[];cases fl with
 |false=>
  rw[if_neg (by decide)]
  obtain⟨_,hC⟩:=hF rfl;refine ch_6 (k:=k) J hL.ok kn' jar (λr c hr hc ja=>?_) λp us G1 h1 h2 h3 h4 h5=>?_
  ·refine jf3 hL hy (has F) (λg hg h0 e=>?_) (λy hm i Z h0 h1 h2=>?_) hr hc ja
   ·obtain⟨i,Z⟩:=List.mem_iff_getElem?.mp hg;exact hA' i (List.mem_range.mpr (List.getElem?_eq_some_iff.mp Z).1) g Z h0 e
   ·obtain⟨s,hs,rfl⟩:=jnZ J hw hm;exact hC s (xa.mem_iff.mpr hs) i Z h0 h1 h2
  ·refine q p us G1 h1 h2 ?_ h4 λb o hb e=>h5 _ _ (by rw[jbf hb];exact e)
   have za:p≠a:=λz=>by rw[z,jar]at h3;cases h3
   rw[jbf za]at h3;exact h3
 |true=>
  rw[if_pos rfl];simp! only[];refine jmt (k:=k) J hw hL.ok kn' (λs hs=>xa.mem_iff.mp hs) ya gl λI Y xb jb ka ha kb zb qc vb yb wa va=>?_;obtain⟨O,mo,h⟩:=va;have wb:=O.len J.m2 J.x8;have hn:=hT rfl;refine⟨if Y=true then 97-I.length else 0,?_,I,Y,_,_,_,_,_,_,_,_,_,_,rfl,rfl,O,λi Z g e h0 e1=>mo _ _ (hA' i Z g e h0 e1),λz=>by lia,λz=>⟨by lia,?_⟩⟩
  ·rcases h with⟨rfl,rfl,_⟩|⟨rfl,hl⟩
   ·rw[if_neg (by decide)];lia
   ·rw[if_pos rfl];lia
  simp_all


def jk4 {F:List U}{y:Cl}{z:Sg}{G:Gp}{Q:K1}{X:KX}{e:E}:(den F y (.rngL e)).1 z G Q X=(den F y e).1 z G (λx I=>match x with|.int j=>0<=j/\j<=1000000/\newO I (.lst (rngU 0 j.toNat)) Q|_=>False) X:=rfl
def jm5   n:rngU 0 n=(YaA n).map nI:=by
 unfold rngU nI
 lia
def ch_3  {X: KX}(Y:w.Ok)(hw:jaL w.ss w.bs w.P w.wt ys)(hL:Lst w.m w.xs.length ys w.gv R)(kn:Kn w.m w.xs.length kvs)(hA:KA2 w R (YaA w.gv.length) kvs)(hf:Fd G f c)(ha:a≠f/\a≠c)(ga:G a=some (.dT kvs)){o10 o11 o12 o13 o14 o15 o16 o17 o18 o19 o20 o21 o22:Option U}
  (q:∀p (us:List U) j ,us.length=(spts R w.m w.xs.length).length->(∀u∈us,Cn 96 u)->G p=none->j p=some (.lst us)->Fd j f c->(∀b o,b≠f->b≠a->G b=some o->j b=some o)->Q (.loc p) j) :
  jat T.gs (jab T (k+2)) jbp ⟨λ_ j=>Q .non j,Q,λx _ j=>X x j⟩ [some (.loc f),some w.u,some (tbU R),some (jas w.xs w.ss),some (.int w.P),some (jaf w.bs),some (jau w.wt),some (.tup (w.gv.map gU)),some (.int w.m),some (.loc a),o10,o11,o12,o13,o14,o15,o16,o17,o18,o19,o20,o21,o22] G:=by
 have p1:=Y.p1;have wl:=Y.wl;simp! only[jbp];refine jc9 (k:=k) hf (by lia) (λφ h=>h _) λp os G1 pm np g1 f1 s1=>?_
 have ol:=pm.length_eq;simp! only[it_l g1];refine⟨by rw[Yaa];exact Yaf (show os.length<=30 by lia) (by decide),?_⟩
 refine jan (λi I j=>j=G1/\I=(os.take i).map λs=>wyU (lg w s)) ?_ ?_ ⟨rfl,rfl⟩
 ·rintro I G2 ⟨rfl,ea⟩;refine⟨jdn g1,λp3 G3 F=>?_⟩;rw[ea,Yaa,Ybr]at F;simp! only[];have Z:=s1 _ _ ha.1 ga;refine ch_5 (k:=k) (pl:=p3) Y hw hL kn hA pm (jb1 Z F.no) (F.sa _ _ Z) F.at λL us G4 h1 h2 h3 h4 h5=>?_;have za:G L=none\/L=f:=by
   cases e:G L with
   |none=>lia
   |some o=>
    by_cases z:L=f
    ·lia
    ·have:=F.sa _ _ (s1 _ _ z e);lia
  have nf:L≠f:=λz=>by
   obtain⟨ns,x,l,t,e1,_⟩:=(f1.new F).ex
   lia
  refine q L us G4 h1 h2 (za.resolve_right nf) h4 ?_ λb o hb xa e=>h5 _ _ xa (F.sa _ _ (s1 _ _ hb e));obtain⟨ns,x,l,t,e1,e2,e3⟩:=(f1.new F).ex;exact⟨ns,x,l,t,h5 _ _ (Ne.symm ha.1) e1,h5 _ _ (Ne.symm ha.2) e2,e3⟩
 ·rintro i z I G2 KK hz ⟨rfl,ea⟩ hs hn2;refine⟨jdn g1,?_⟩;rw[Yau]at hz;cases es:os[i]? with
  |none=>simp_all
  |some s=>
   rw[es]at hz;cases hz;obtain⟨J,x,y,O,dl,el,ok⟩:=jft Y hw (pm.mem_iff.mp (Yas es));rw[show nI s=.int (s:Int)from rfl];simp! only[jas,ix_t (jcc _ _ _),ix_t (atM O.s)];rw[show J.u=.tup [.str J.w,.int J.o,.int J.t,.int J.lo,.int J.hi]from rfl];simp! only[ji6];refine⟨by decide,by decide,?_⟩
   refine jg0 (k:=k+1) (xs:=w.xs) O (by lia) Y.p6 dl ?_
   simp! only[];refine⟨by decide,hs _ _ ⟨rfl,?_⟩⟩
   rw[Ybh,es,YaH,ea];show _++[_]=_++[wyU (lg w s)];rw[el];rfl
def ch_2  {X: KX}{w: Wd}(ow:w.Ok)(hw:jaL w.ss w.bs w.P w.wt ys)(hL:Lst w.m w.xs.length ys w.gv R)(hf:Fd G f c)(ha:a≠f/\a≠c)(ga:G a=some (.dT [])){o10 o11 o12 o13 o14 o15 o16 o17 o18 o19 o20 o21 o22:Option U}
  (q:∀p (us:List U) I ,us.length=(spts R w.m w.xs.length).length->(∀u∈us,Cn 96 u)->G p=none->I p=some (.lst us)->Fd I f c->(∀b o,b≠f->b≠a->G b=some o->I b=some o)->Q (.loc p) I) :
  jat T.gs (jab T (k+2)) jbq ⟨λ_ I=>Q .non I,Q,λx _ I=>X x I⟩ [some (.loc f),some w.u,some (tbU R),some (jas w.xs w.ss),some (.int w.P),some (jaf w.bs),some (jau w.wt),some (.tup (w.gv.map gU)),some (.int w.m),some (.loc a),o10,o11,o12,o13,o14,o15,o16,o17,o18,o19,o20,o21,o22] G:=by
 have gl:=ow.gl;simp! only[jbq,jk4];rw[Yaa];refine⟨by lia,by lia,λp0 G0 Z=>?_⟩
 rw[jm5]at Z;refine jc9 (k:=k) (hf.new Z) (ns:=YaA w.gv.length) (by grind) (λφ h=>by rw[it_l Z.at];exact h _) λp O G1 pm np g1 f1 s1=>?_
 have ja:=s1 _ _ ha.1 (Z.sa _ _ ga);have za:a≠p:=λz=>by lia
 simp! only[it_l g1];refine jav (λi ς I=>∃y o10 o11 o12 o13,ς=[some (.loc f),some w.u,some (tbU R),some (jas w.xs w.ss),some (.int w.P),some (jaf w.bs),some (jau w.wt),some (.tup (w.gv.map gU)),some (.int w.m),some (.loc a),o10,o11,o12,o13,o14,o15,o16,o17,o18,o19,o20,o21,o22]/\I a=some (.dT y)/\Kn w.m w.xs.length y/\KA2 w R (O.take i) y/\I p=some (.lst (O.map nI))/\Fd I f c/\(∀b o,b≠f->b≠a->G b=some o->I b=some o)/\∀b,I b=none->b≠p0->b≠p->True) ?_ ?_ ⟨[],_,_,_,_,rfl,ja,Kn.nil,λi h=>(nomatch h),g1,f1,λb o Y _ e=>s1 _ _ Y (Z.sa _ _ e),λ_ _ _ _=>trivial⟩
 ·rintro ς G2 ⟨y,o10,o11,o12,o13,rfl,g2,kn,hA,gp,f2,s2,_⟩;refine⟨jdn gp,?_⟩;rw[Yaa,Ybr]at hA;refine ch_3 (k:=k) ow hw hL kn (λi hi=>hA i (pm.mem_iff.mpr hi)) f2 ha g2 λp3 us G3 h1 h2 h3 h4 h5 h6=>?_;refine q p3 us G3 h1 h2 ?_ h4 h5 λb o Y J e=>h6 _ _ Y J (s2 _ _ Y J e);cases e:G p3 with
  |none=>rfl
  |some o=>
   by_cases z:p3=f
   ·obtain⟨ns,x,l,t,e1,_⟩:=f2.ex
    lia
   grind
 ·rintro i z ς G2 KK hz ⟨y,o10,o11,o12,o13,rfl,g2,kn,hA,gp,f2,s2,_⟩ hk;refine⟨jdn gp,?_⟩;rw[Yau]at hz;cases es:O[i]? with
  |none=>simp_all
  |some j=>
   rw[es]at hz;cases hz;have hj:j<w.gv.length:=List.mem_range.mp (pm.mem_iff.mp (Yas es));have eg:=Yah hj;have og:=ow.gg _ (YaM hj);have kl:=kn.len ow.m2 ow.x8;rw[show nI j=.int (j:Int)from rfl];simp! only[ix_t (atM (f:=gU) eg)];rw[show gU w.gv[j]=.tup [.int w.gv[j].1,.int w.gv[j].2.1,.int w.gv[j].2.2]from rfl];simp! only[];refine⟨trivial,?_⟩;simp! only[];have nx:∀(F:List (List Key×U)) (G3:Gp),KA2 w R (O.take i) F->(0<w.gv[j].2.2->gt R w.gv[j].2.1 w.gv[j].1=w.gv[j].2.2->has F w.gv[j].2.1 w.gv[j].1)->KA2 w R (O.take (i+1)) F:=λF G3 h1 h2 x L g hg h0 e=>by
    rw[Ybh,es]at L;rcases List.mem_append.mp L with L|L
    ·exact h1 x L g hg h0 e
    ·rw[List.mem_singleton.mp L,eg]at hg;cases hg;exact h2 h0 e
   have no:¬(0<w.gv[j].2.2/\gt R w.gv[j].2.1 w.gv[j].1=w.gv[j].2.2)->KA2 w R (O.take (i+1)) y:=λh=>nx y G2 hA λh0 e=>absurd ⟨h0,e⟩ h;by_cases c1:0<w.gv[j].2.2
   ·rw[if_pos (decide_eq_true c1)];refine hL.ok.tn.ix (r:=w.gv[j].2.1) (c:=w.gv[j].1) og.t og.w ?_;simp! only[];by_cases c2:gt R w.gv[j].2.1 w.gv[j].1=w.gv[j].2.2
    ·rw[if_pos (decide_eq_true c2)];refine⟨by decide,by decide,by decide,?_⟩
     rw[jkw g2];refine⟨YaW kl (by decide),λG3 w3=>?_⟩
     have xa:=kn.put (r:=w.gv[j].2.1) (c:=w.gv[j].1) og.t og.w (v:=.tup [.int (j:Int),.tup []]) λN h1 h2=>⟨j,[],rfl,by lia,YaF _,λz hz=>(nomatch hz)⟩
     refine hk _ _ ⟨_,_,_,_,_,rfl,w3.at,xa.1,nx _ G3 (λx L g hg h0 e=>jgj.mpr (.inr (hA x L g hg h0 e))) (λ_ _=>jgj.mpr (.inl ⟨rfl,rfl⟩)),w3.sm _ _ (Ne.symm za) gp,f2.off ha w3,λb o Y J e=>w3.sm _ _ J (s2 _ _ Y J e),λ_ _ _ _=>trivial⟩
    ·rw[if_neg (by lia)]
     exact hk _ _ ⟨y,_,_,_,_,rfl,g2,kn,no (λh=>c2 h.2),gp,f2,s2,λ_ _ _ _=>trivial⟩
   ·rw[if_neg (by lia)]
    exact hk _ _ ⟨y,_,_,_,_,rfl,g2,kn,no (λh=>c1 h.1),gp,f2,s2,λ_ _ _ _=>trivial⟩
def jeT  {w: Wd}(L:w.Ok)(F:jaL w.ss w.bs w.P w.wt ys)(hL:Lst w.m w.xs.length ys w.gv R)(y:Fd G f c)
  (q:∀p (us:List U) G' ,us.length=(spts R w.m w.xs.length).length->(∀u∈us,Cn 96 u)->G p=none->G' p=some (.lst us)->Fd G' f c->Sm f G G'->Q (.loc p) G'):jab T (k+3) jdd [.loc f,w.u,tbU R] G Q X:=by
 refine⟨rfl,?_⟩;simp! only[jdj,jah,Yag,Wd.u];refine⟨trivial,?_⟩;simp! only[];intro a G1 j;refine ch_2 (k:=k) L F hL (y.new j) (y.away j) j.at λp us J h1 Z h3 Y O I=>?_;refine q p us J h1 Z ?_ Y O λb o hb e=>I _ _ hb (λz=>by rw[z,j.no]at e;cases e) (j.sa _ _ e)
 cases e:G p with
 |none=>rfl
 |some o=>have:=j.sa _ _ e;lia

def jot   (h:i.natAbs<10 ^ 32):Fits 34 0 (.int i):=by
 have j:i.natAbs.log2<1920:=by
  by_cases z:i.natAbs=0
  ·rw[z];decide
  ·exact Yar ((Nat.log2_lt z).mpr (Yar h (by decide:10 ^ 32<=2 ^ 107))) (by decide)
 refine⟨by simp[YcI,j],?_,Yac _⟩
 simp only[YbX];have:=int_text_length_le10 (a:=i) (k:=32) (by decide) h
 show(PySem.Str.ofString (toString i)).length<=34;rw[ofString_length]
 lia
def Tk  (G:Gp)(N n:Nat)(u:U):Prop:=∃d,Th G u d/\d.canLay0=true/\d.depth<=n/\Fits N n d
def Tk.tg     (h:Tk G N n u):TG G n u:=let ⟨d,a,b,c,_⟩:=h;⟨d,a,b,c⟩
def Tk.sa     (h:Tk G N n u)(s:Sa G G'):Tk G' N n u:=let ⟨d,a,b⟩:=h;⟨d,a.sa s,b⟩
def Tk.sm      (h:Tk G N n u)(j:Fd G f c)(s:Sm f G G'):Tk G' N n u:=let ⟨d,a,b⟩:=h;⟨d,a.mono j s,b⟩
def Tk.mono     (h:Tk G N n u)(z:N<=N')(j:n<=y):Tk G N' y u:=let ⟨d,a,b,c,e⟩:=h;⟨d,a,b,Yaf c j,e.mono z j⟩
def Tk.non    (h:4<=N):Tk G N n .non:=⟨_,.non,rfl,YaF _,Fits.non.mono h (YaF _)⟩
def Tk.bl     b (h:5<=N):Tk G N n (.bl b):=⟨_,.bl b,rfl,YaF _,(Fits.bl b).mono h (YaF _)⟩
def Tk.int     (hi:i.natAbs<10 ^ 32)(h:34<=N):Tk G N n (.int i):=⟨_,.int i,rfl,YaF _,(jot hi).mono h (YaF _)⟩
def Tk.nat     (hi:i<10000)(h:34<=N):Tk G N n (nI i):=Tk.int (by show(i:Int).natAbs<_;exact Yar (show(i:Int).natAbs<10000 by lia) (by decide)) h
def Tk.str     (z:x.length<=m)(y:∀c∈x.cps.toList,c<128)(h:10*m+2<=N):Tk G N n (.str x):=
 ⟨_,.str x,(Sml.str y).l,YaF _,(Fits.str z λc j=>Yfr (y c j) (by decide)).mono h (YaF _)⟩
theorem tks    : ∀{us },(∀u∈us,Tk G N n u)->∃ds,Ths G us ds/\YaL ds=true/\YaE ds<=n/\ds.length=us.length/\∀d∈ds,Fits N n d
 |[],_=>⟨[],.nil,rfl,YaF _,rfl,λ_ h=>(nomatch h)⟩
 |u::us,h=>by
  obtain⟨ds,Z,Y,F,O,L⟩:=tks λv y=>h v (Yaj _ y);obtain⟨d,J,z,I,g4⟩:=h u Yav;refine⟨d::ds,.cons J Z,?_,?_,by rw[YaU,YaU,O],λe j=>?_⟩
  ·show(d.canLay0&&YaL ds)=true;rw[z,Y];rfl
  ·show max d.depth (YaE ds)<=n;exact Nat.max_le.mpr ⟨I,F⟩
  ·rcases Yap.mp j with rfl|j
   ·exact g4
   ·exact L e j
def Tk.tup     (h:∀u∈us,Tk G N n u)(O:us.length<=m)(j:m*(N+2)+3<=N'):Tk G N' (n+1) (.tup us):=by
 obtain⟨y,J,I,z,L,F⟩:=tks h;exact⟨.tuple y,.tup J,I,YbC z,Fits.tupLe (by lia) F j⟩
def Tk.lst      (g:G a=some (.lst us))(h:∀u∈us,Tk G N n u)(O:us.length<=m)(j:m*(N+2)+3<=N'):Tk G N' (n+1) (.loc a):=by
 obtain⟨y,J,I,z,L,F⟩:=tks h;exact⟨.list y,.lst g J,I,YbC z,Fits.lstLe (by lia) F j⟩
def Tk.repr     (h:Tk G N n u)(F:N<=16000000)(y:n<=60):∃z ,∀j Q ,Sa G j->Q (.str z) j->jjy [u] j Q:=by
 obtain⟨d,a,_,_,f⟩:=h;exact⟨d.shown,λj Q s q=>⟨d,(a.sa s).du,f.mono F y,q⟩⟩

def Od  (G:Gp)(u:U):Prop:=Tk G 200 2 u/\shD u/\∀j,u=.tup j->∀x∈j,shD x
def jbk   (h:∀us,u≠.tup us):shD u/\∀us,u=.tup us->∀x∈us,shD x:=by
 refine⟨?_,λus e=>absurd e (h us)⟩;cases u with
 |tup us=>exact absurd rfl (h us)
 |_=>trivial
def jcd  (hf:Fd G f c)(q:∀u O,Od O u->Fd O f c->Sm f G O->Q u O):jab T (k+2) jb3 [.loc f] G Q X:=by
 refine⟨rfl,?_⟩;simp! only[jfH,jah,Yag];refine⟨⟨by decide,by decide,by decide⟩,by decide,by decide,by decide,λp1 G1 J=>⟨by decide,λp2 G2 F=>⟨by decide,by decide,by decide,by decide,by decide,by decide,λp3 G3 y=>?_⟩⟩⟩
 have f1:=hf.new J;have f2:=f1.new F;have f3:=f2.new y;have h1:=hf.away J;have h2:=f1.away F;have h3:=f2.away y;refine jac f3 (by decide) (by decide) λz I a4 b4 f4 L=>?_
 have g1:=L _ _ h1.1 (y.sa _ _ (F.sa _ _ J.at));have g2:=L _ _ h2.1 (y.sa _ _ F.at);have s0:Sm f G I:=(J.sa.trans (F.sa.trans y.sa)).sm.trans L;have Y:∀{N n:Nat},34<=N->Tk I N n (.int 0):=λh=>Tk.int (by decide) h
 have t0:Tk I 40 1 (.tup []):=Tk.tup (N:=34) (n:=0) (m:=0) (λu hu=>(nomatch hu)) (Yac _) (by decide)
 have e0:shD (.tup []):=⟨YaF _,λx j=>(nomatch j)⟩;refine jbR (L _ _ h3.1 y.at) a4 (by simpa using b4) λu hu=>q u I ?_ f4 s0
 simp only[Yap,Yak,or_false]at hu;rcases hu with rfl|rfl|rfl|rfl|rfl|rfl|rfl|rfl|rfl|rfl|rfl|rfl|rfl|rfl|rfl|rfl|rfl|rfl
 ·exact⟨Tk.non (by decide),jbk λ_=>nofun⟩
 ·exact⟨Tk.bl _ (by decide),jbk λ_=>nofun⟩
 ·exact⟨Tk.bl _ (by decide),jbk λ_=>nofun⟩
 ·exact⟨Tk.int (by decide) (by decide),jbk λ_=>nofun⟩
 ·exact⟨Tk.int (by decide) (by decide),jbk λ_=>nofun⟩
 ·exact⟨Tk.int (by decide) (by decide),jbk λ_=>nofun⟩
 ·exact⟨Tk.int (by decide) (by decide),jbk λ_=>nofun⟩
 ·exact⟨Tk.int (by decide) (by decide),jbk λ_=>nofun⟩
 ·exact⟨Tk.int (by decide) (by decide),jbk λ_=>nofun⟩
 ·exact⟨Tk.str (m:=8) (by decide +kernel) (by decide +kernel) (by decide),jbk λ_=>nofun⟩
 ·exact⟨Tk.str (m:=8) (by decide +kernel) (by decide +kernel) (by decide),jbk λ_=>nofun⟩
 ·exact⟨Tk.str (m:=8) (by decide +kernel) (by decide +kernel) (by decide),jbk λ_=>nofun⟩
 ·exact⟨t0.mono (by decide) (by decide),e0,λZ e x j=>by cases e;cases j⟩
 ·refine⟨Tk.tup (N:=34) (n:=1) (m:=1) (λu hu=>by rw[List.mem_singleton.mp hu];exact Y (by decide)) (Yac _) (by decide),⟨by decide,λx j vs e=>?_⟩,λZ e x j=>?_⟩
  ·rw[List.mem_singleton.mp j]at e;cases e
  ·cases e;rw[List.mem_singleton.mp j];trivial
 ·exact⟨Tk.lst (N:=34) (n:=1) (m:=0) g1 (λu hu=>(nomatch hu)) (Yac _) (by decide),jbk λ_=>nofun⟩
 ·exact⟨Tk.lst (N:=34) (n:=1) (m:=1) g2 (λu hu=>by rw[List.mem_singleton.mp hu];exact Y (by decide)) (Yac _) (by decide),jbk λ_=>nofun⟩
 ·refine⟨Tk.tup (N:=40) (n:=1) (m:=2) (λu hu=>?_) (Yac _) (by decide),⟨by decide,λx j vs e=>?_⟩,λZ e x j=>?_⟩
  ·simp only[Yap,Yak,or_false,or_self]at hu;rw[hu];exact t0
  ·simp only[Yap,Yak,or_false,or_self]at j;rw[j]at e;cases e;exact YaF _
  ·cases e;simp only[Yap,Yak,or_false,or_self]at j;rw[j];exact e0
 ·refine⟨Tk.tup (N:=40) (n:=1) (m:=2) (λu hu=>?_) (Yac _) (by decide),⟨by decide,λx j vs e=>?_⟩,λZ e x j=>?_⟩
  ·simp only[Yap,Yak,or_false]at hu;rcases hu with rfl|rfl
   ·exact Y (by decide)
   ·exact t0
  ·simp only[Yap,Yak,or_false]at j;rcases j with rfl|rfl
   ·cases e
   ·cases e;exact YaF _
  ·cases e;simp only[Yap,Yak,or_false]at j;rcases j with rfl|rfl
   ·trivial
   ·exact e0
def Ce  (G:Gp)(u:U):Prop:=Tk G 40 1 u
def Rw  (G:Gp)(u:U):Prop:=Tk G 900 2 u/\∀j,u=.tup j->j.length<=200
def Ta  (G:Gp)(u:U):Prop:=Tk G 24000 3 u/\shD u
def Ce.row   (h:∀u∈us,Ce G u)(j:us.length<=20):Rw G (.tup us):=⟨Tk.tup (m:=20) h j (by decide),λy e=>by cases e;lia⟩
def Rw.tab   (h:∀u∈us,Rw G u)(z:us.length<=26):Ta G (.tup us):=⟨Tk.tup (m:=26) (λu hu=>(h u hu).1) z (by decide),by lia,λx y j e=>(h x y).2 j e⟩
def ji5   (xs:List α) a b:(cut xs a b).length<=xs.length:=by
 unfold cut;simp
 lia
def jmp      (h:x∈cut xs a b):x∈xs:=by
 unfold cut at h
 first|exact YaP (YaQ h)|exact YaQ (YaP h)

def Co  (G:Gp)(u:U):Prop:=Tk G 700000 3 u/\shD u
def Tg2  (G:Gp)(u:U):Prop:=Tk G 3000000 6 u/\szU u
section
variable {k:Nat}{G G':Gp}{Q:K1}{X:KX}{f c:Addr}
def Co.sm   (h:Co G u)(j:Fd G f c)(s:Sm f G G'):Co G' u:=⟨h.1.sm j s,h.2⟩
def Co.sa   (h:Co G u)(s:Sa G G'):Co G' u:=⟨h.1.sa s,h.2⟩
def Co.tup   (h:∀u∈us,Co G u)(y:us.length<=3):Tg2 G (.tup us):=⟨(Tk.tup (m:=3) (λu hu=>(h u hu).1) y (by decide)).mono (Yac 3000000) (by decide),λz e x j=>by cases e;exact(h x j).2⟩
def Co.two   (j:Co G x)(z:Co G y):Tg2 G (.tup [x,y]):=Co.tup (λu hu=>by
 simp only[Yap,Yak,or_false]at hu;rcases hu with rfl|rfl
 ·exact j
 ·exact z) (by simp)
def Ta.co   (h:Ta G u):Co G u:=⟨h.1.mono (by decide) (by decide),h.2⟩
def joG    (j:TbOk m W R)(Y:m<=12)(O:W<=8):Co G (tbU R):=Ta.co (Rw.tab (λx J=>by
 obtain⟨y,F,rfl⟩:=List.mem_map.mp J;refine Ce.row (λv L=>?_) (by rw[Yaa];have:=j.2 y F;lia)
 obtain⟨z,I,rfl⟩:=List.mem_map.mp L;have:=j.3 y F z I;exact Tk.int (Yar (show z.natAbs<1000 by lia) (by decide)) (by decide)) (by rw[Yaa,j.1];lia))
def jmr   (h:∀u∈us,Cn 96 u)(O:us.length<=96):Co G (.tup us):=by
 refine⟨Tk.tup (N:=7100) (n:=2) (m:=96) (λu hu=>?_) O (by decide),by lia,λx J Y e=>?_⟩
 ·obtain⟨g,row,rfl,Z,F,L⟩:=h u hu;refine Tk.tup (N:=3500) (n:=1) (m:=2) (λv y=>?_) (Yac _) (by decide)
  simp only[Yap,Yak,or_false]at y;rcases y with rfl|rfl
  ·exact Tk.nat (by lia) (by decide)
  ·refine Tk.tup (N:=34) (n:=0) (m:=96) (λz I=>?_) (by rw[Yaa];exact F) (by decide)
   obtain⟨s,j,rfl⟩:=List.mem_map.mp I;exact Tk.nat (by have:=L s j;lia) (by decide)
 ·obtain⟨g,row,rfl,_⟩:=h x J;cases e;simp
def joh     (y:w.Ok)(h:Is w u r):Tk G 200 1 r.u:=by
 have j:∀(x:Str) (i:Nat),x.length<=5->(∀c∈x.cps.toList,c<128)->i<10000->Tk G 200 1 (Rs.no x (i:Int)).u:=λx i F J I=>Tk.tup (N:=60) (n:=0) (m:=2) (λv z=>by
  simp only[Yap,Yak,or_false]at z;rcases z with rfl|rfl
  ·exact Tk.str F J (by decide)
  ·exact Tk.nat I (by decide)) (Yac _) (by decide)
 rcases h with⟨t,L,_,p,rfl⟩|⟨_,rfl⟩
 ·unfold rsT;split
  ·rename_i i e;have:=(List.findIdx?_eq_some_iff_getElem.mp e).1;have:=y.gl;exact j _ i (by decide +kernel) (by decide +kernel) (by lia)
  ·split
   ·rename_i s e;have:=y.ww s (YeD e);have:=y.s25;exact j _ s (by decide +kernel) (by decide +kernel) (by lia)
   ·split
    ·rename_i i e;have:=(List.findIdx?_eq_some_iff_getElem.mp e).1;rw[Ydm]at this;have:=jaz (t:=t) y.m2 y.x8;exact j _ i (by decide +kernel) (by decide +kernel) (by lia)
    ·exact Tk.bl _ (by decide)
 ·exact j _ 0 (by decide +kernel) (by decide +kernel) (by decide)
end

def jpi     : strU [.int i] G Q=(i.natAbs.log2<1920/\Q (.str (toString i:String)) G):=rfl
def Dl  : Nat->U->Prop
 |0,_=>True
 |n+1,u=>∀j,u=.tup j->j.length<=200/\∀x∈j,Dl n x
def Dl.no    (h:∀us,u≠.tup us):Dl n u:=by
 cases n with
 |zero=>trivial
 |succ n=>exact λus e=>absurd e (h us)
theorem Dl.down  : ∀{n } {u },Dl (n+1) u->Dl n u
 |0,_,_=>trivial
 |n+1,_,h=>λj e=>⟨(h j e).1,λx y=>((h j e).2 x y).down⟩
def Dl.sh   (h:Dl 2 u):shD u:=by
 cases u with
 |tup j=>exact⟨(h j rfl).1,λx z y e=>((h j rfl).2 x z y e).1⟩
 |_=>trivial
def Dl.sz   (h:Dl 3 u):szU u:=λj e x y=>Dl.sh ((h j e).2 x y)
def jp0   (h:shD u):Dl 2 u:=λz e=>by
 subst e;exact⟨h.1,λx y j e=>⟨h.2 x y j e,λ_ _=>trivial⟩⟩
def Od.dl    (h:Od G u):Dl 3 u:=λj e=>⟨by have:=h.2.1;subst e;exact this.1,λx y=>jp0 (h.2.2 j e x y)⟩
def Ni  (u:U):Prop:=∃z:Int,u=.int z/\0<=z/\z<=9999
def Lw  : List Nat->U->Prop
 |[],u=>Ni u
 |w::ws,u=>∃j,u=.tup j/\j.length<=w/\∀x∈j,Lw ws x\/Ni x
noncomputable def oW  : List Nat->Nat
 |[]=>34
 |w::ws=>w*(oW ws+34+2)+3
noncomputable def bW  : List Nat->Nat
 |[]=>200
 |w::ws=>max (w*(oW ws+34+2)+bW ws+5) ((w+1)*(oW ws+34+200+2)+3)
theorem jjl  : ∀j ,200<=bW j
 |[]=>Yac _
 |w::j=>Yaf (Yaf (jjl j) (by lia)) (Ydq (w*(oW j+34+2)+bW j+5) _)
def Ni.tk     (h:Ni u)(j:34<=N):Tk G N n u:=by
 obtain⟨z,rfl,y⟩:=h;exact Tk.int (YaW (show z.natAbs<=9999 by lia) (by decide)) j
theorem Lw.tk   : ∀{j } {u },Lw j u->Tk G (oW j) j.length u
 |[],_,h=>Ni.tk h (Yac _)
 |w::j,_,⟨us,rfl,hl,h⟩=>Tk.tup (N:=oW j+34) (m:=w) (λx y=>by
   rcases h x y with h|h
   ·exact h.tk.mono (YcG _ _) (Yac _)
   ·exact Ni.tk h (Yex _ _)) hl (Yac _)
def Ni.dl    (h:Ni u):Dl n u:=by
 obtain⟨z,rfl,_⟩:=h;exact Dl.no λ_=>nofun
theorem Lw.dl  : ∀{j } {n } {u },(∀w∈j,w<=150)->Lw j u->Dl n u
 |[],_,_,_,h=>Ni.dl h
 |_::_,0,_,_,_=>trivial
 |w::j,n+1,_,hw,⟨us,rfl,hl,h⟩=>λF e=>by
  cases e;have:=hw w Yav;refine⟨by lia,λx z=>?_⟩
  rcases h x z with h|h
  ·exact h.dl λv y=>hw v (Yaj _ y)
  ·exact Ni.dl h
def Be  (G:Gp)(j:List Nat)(u:U):Prop:=Tk G (bW j) (j.length+3) u/\Dl 3 u
def Od.be     (h:Od G u):Be G j u:=⟨h.1.mono (jjl j) (by lia),h.dl⟩

noncomputable def nstr  (t:Int):Str:=(toString t:String)
theorem jiZ  : ∀n m ,m<=n->0<m->((YcU 10 m).map Ydu).head?≠some 48
 |0,m,h,h0=>by lia
 |n+1,m,h,h0=>by
  by_cases j:m<10
  ·rw[Nat.toDigits_of_lt_base j];have:∀m∈YaA 10,0<m->([Nat.digitChar m].map Ydu).head?≠some 48:=by decide
   exact this m (List.mem_range.mpr j) h0
  ·rw[Nat.toDigits_of_base_le (by decide) (by lia),YaH]
   have y:=jiZ n (m/10) (by lia) (by lia)
   cases z:(YcU 10 (m/10)).map Ydu with
   |nil=>exact absurd (List.map_eq_nil_iff.mp z) Nat.toDigits_ne_nil
   |cons a l=>
    rw[z]at y;rw[Ygr];exact y
def jl0   (h0:0<=t)(J:t<=9999):(1<=(nstr t).length/\(nstr t).length<=4)/\(∀c∈(nstr t).cps.toList,48<=c/\c<=57)/\((nstr t).length<=1\/(nstr t).cps.toList.head?≠some 48):=by
 obtain⟨m,rfl⟩:=Yax h0;have e:nstr (m:Int)=⟨((YcU 10 m).map Ydu).toArray⟩:=PyProof.Rows.text_ofNat m;have y:(nstr (m:Int)).length=(YcU 10 m).length:=by
  rw[e];show(((YcU 10 m).map Ydu).toArray).size=_;rw[Yao,Yaa]
 have j:(nstr (m:Int)).cps.toList=(YcU 10 m).map Ydu:=by rw[e]
 rw[y,j];refine⟨⟨Nat.length_toDigits_pos,(YeB (by decide) (by decide)).mpr (by lia)⟩,λc F=>?_,?_⟩
 ·obtain⟨d,hd,rfl⟩:=List.mem_map.mp F;have:=Nat.isDigit_of_mem_toDigits (by decide) (by decide) hd
  unfold Char.isDigit at this;obtain⟨a,b⟩:=(Yaq _ _).mp this |> λz=>(⟨of_decide_eq_true z.1,of_decide_eq_true z.2⟩:_/\_);exact⟨UInt32.le_iff_toNat_le.mp a,UInt32.le_iff_toNat_le.mp b⟩
 ·by_cases I:m<10
  ·exact .inl ((YeB (by decide) (by decide)).mpr (by lia))
  ·exact .inr (jiZ m m (Yac _) (by lia))


def jk2   (h:Ni u)(hf:Fd G f c)(q:∀r F,Be F [] r->Fd F f c->Sm f G F->Q r F):jab T (k+3) jbE [.loc f,u] G Q X:=by
 obtain⟨z,rfl,z0,z1⟩:=h;have t:Th G (.int z) (.int z):=.int _;refine⟨rfl,?_⟩;simp! only[jc6,jah,Yag,jaJ t (show "tuple" ∈ ["bool", "int", "str", "list", "tuple", "dict"] by decide)]
 rw[show isD (.int z) "tuple" = false from rfl,if_neg (by decide)]
 simp! only[jaR,jaJ t (show "tuple" ∈ ["bool", "int", "str", "list", "tuple", "dict"] by decide)]
 rw[show isD (.int z) "tuple" = false from rfl,if_neg (by decide)]
 simp! only[jc7];refine jcd (k:=k) hf λo1 G1 h1 f1 s1=>?_;simp! only[];refine⟨by decide,λp1 G2 Z=>?_⟩
 refine jbl (k:=k+1) (.int _) ?_;have iz:isI (.int z)=true:=rfl;rw[iz];simp! only[];rw[jpi];have hl:z.natAbs.log2<1920:=by
  by_cases e:z.natAbs=0
  ·rw[e];decide
  ·exact Yar ((Nat.log2_lt e).mpr (YaW (show z.natAbs<=9999 by lia) (by decide:9999<2 ^ 14))) (by decide)
 refine⟨hl,jcd (k:=k) (f1.new Z) λo2 G3 Y J s3=>?_⟩;simp! only[];refine⟨by decide,λp4 G4 j=>?_⟩
 have f4:=J.new j;dsimp only;rw[jdS j.at];refine jac f4 (by simp) (by simp) λr G5 a5 b5 f5 L=>?_
 refine jbR (L _ _ (J.away j).1 j.at) a5 (by simpa using b5) λu hu=>q u G5 ?_ f5 (s1.trans (Z.sa.sm.trans (s3.trans (j.sa.sm.trans L))))
 have I:∀y:Int,y.natAbs<=10001->Be G5 [] (.int y):=λy hy=>⟨Tk.int (YaW hy (by decide)) (by decide),Dl.no λ_=>nofun⟩
 simp only[Yap,Yak,or_false]at hu;rcases hu with rfl|rfl|rfl|rfl|rfl|rfl
 ·exact I _ (by lia)
 ·exact I _ (by lia)
 ·exact⟨Tk.bl _ (by decide),Dl.no λ_=>nofun⟩
 ·have O:=jl0 z0 z1;exact⟨Tk.str (m:=4) O.1.2 (λx hx=>YaW (O.2.1 x hx).2 (by decide)) (by decide),Dl.no λ_=>nofun⟩
 ·exact I _ (by decide)
 ·exact Od.be ⟨Y.1.sm J (j.sa.sm.trans L),Y.2⟩

def jlt     : revU (.tup xs) (.int (-1)) G Q=Q (.tup xs.reverse) G:=by
 show((-1:Int)=-1/\Q (.tup xs.reverse) G)=_;simp


def Tks  (G:Gp)(n:Nat):Nat->List U->Prop
 |_,[]=>True
 |S,u::us=>∃N j,Tk G N n u/\Tks G n j us/\N+2+j<=S
theorem Tks.all    : ∀{us } {S },(∀u∈us,Tk G N n u)->us.length*(N+2)<=S->Tks G n S us
 |[],_,_,_=>trivial
 |u::us,S,h,hS=>⟨N,us.length*(N+2),h u Yav,Tks.all (λv j=>h v (Yaj _ j)) (Yac _),by rw[YaU,Yfp]at hS;lia⟩
theorem Tks.app     : ∀{us } {j S },Tks G n j us->Tks G n S2 vs->j+S2<=S->Tks G n S (us++vs)
 |[],j,S,_,h2,hS=>by
  cases vs with
  |nil=>trivial
  |cons v vs=>
   obtain⟨N,y,a,b,c⟩:=h2;exact⟨N,y,a,b,by lia⟩
 |u::us,j,S,⟨N,y,a,b,c⟩,h2,hS=>⟨N,y+S2,a,Tks.app b h2 (Yac _),by lia⟩
theorem Tks.data    : ∀{us } {S },Tks G n S us->∃ds,Ths G us ds/\YaL ds=true/\YcQ ds=true/\YaE ds<=n/\piled (Ybc ds)<=S
 |[],_,_=>⟨[],.nil,rfl,rfl,YaF _,YaF _⟩
 |u::us,S,⟨N,S',⟨d,g1,g2,g3,g4⟩,b,c⟩=>by
  obtain⟨ds,F,z,j,y,I⟩:=Tks.data b;refine⟨d::ds,.cons g1 F,?_,?_,?_,?_⟩
  ·show(d.canLay0&&YaL ds)=true;rw[g2,z];rfl
  ·show(d.showable&&YcQ ds)=true;rw[g4.sh,j];rfl
  ·show max d.depth (YaE ds)<=n;exact Nat.max_le.mpr ⟨g3,y⟩
  ·have:=g4.ln;rw[Ybc,piled_cons]
   lia
def Tks.tup   {n S N':Nat}(h:Tks G n S us)(O:S+3<=N'):Tk G N' (n+1) (.tup us):=by
 obtain⟨j,L,J,F,y,I⟩:=h.data;refine⟨.tuple j,.tup L,J,YbC y,?_,?_,YbC y⟩
 ·simp only[YcI];exact F
 ·simp only[YbX];have Y:=Yaf (jiI (Ybc j)) I;have two:∀b:Bool,((((if b=true then ",)" else ")"):String):Str)).length<=2:=by decide
  have z:=two ((Ybc j).length==1);have one:(("(" : String):Str).length=1:=rfl
  simp only[tupleText,Yef]at z ⊢
  lia
def Tk.one      (z:∀u∈as,Tk G N n u)(F:Tk G M n b)(y:∀u∈cs,Tk G N n u)(j:(as.length+cs.length)*(N+2)+(M+2)+3<=N'):Tk G N' (n+1) (.tup (as++[b]++cs)):=by
 rw[YfS]at j;exact(((Tks.all z (Yac _)).app (S2:=M+2) (vs:=[b]) ⟨M,0,F,trivial,Yac _⟩ (Yac _)).app (Tks.all y (Yac _)) (Yac _)).tup (by lia)


def jk3    (h:∀x∈us,Tk G N (j.length+2) x/\Dl 2 x)(F:us.length<=w+1)(J:w<=150)(z:N<=oW j+34+200):Be G (w::j) (.tup us):=by
 refine⟨(Tk.tup (n:=j.length+2) (m:=w+1) (λx y=>(h x y).1.mono z (Yac _)) F (N':=bW (w::j)) ?_).mono (Yac _) (by simp),λI e=>?_⟩
 ·exact Nat.le_max_right _ _
 ·cases e;exact⟨by lia,λx y=>(h x y).2⟩
def jkd  {X: KX}(hl:us.length<=w)(hw:∀v∈w::y,v<=150)(h:∀x∈us,Lw y x\/Ni x)(hf:Fd G f c)(q:∀r z,Be z (w::y) r->Fd z f c->Sm f G z->Q r z) :
  jat T.gs (jab T (k+2)) jaR ⟨λ_ z=>Q .non z,Q,λx _ z=>X x z⟩ [some (.loc f),some (.tup us),u2,u3] G:=by
 have w1:=hw w Yav;have big:∀n:Nat,n<=1000->n<=Yai:=λn h=>Yaf h (by decide)
 have L:∀{G:Gp} (x:U),x∈us->Tk G (oW y+34) (y.length+2) x/\Dl 2 x:=λx j=>by
  rcases h x j with h|h
  ·exact⟨h.tk.mono (YcG _ _) (by lia),h.dl λv hv=>hw v (Yaj _ hv)⟩
  ·exact⟨Ni.tk h (Yex _ _),Ni.dl h⟩
 have tt:Tk G (w*(oW y+34+2)+3) (y.length+2+1) (.tup us):=Tk.tup (m:=w) (λx j=>(L x j).1) hl (Yac _);obtain⟨d,hd,_⟩:=id tt;simp! only[jaR];cases hd with
 |@tup _ ds hs=>
 simp! only[jaJ (Th.tup hs) (show "tuple" ∈ ["bool", "int", "str", "list", "tuple", "dict"] by decide)]
 rw[show isD (.tuple ds) "tuple" = true from rfl,if_pos rfl];simp! only[];have za:us.length<=150:=Yaf hl w1;refine jac (k:=k+1) hf (by lia) (by lia) λr G1 a1 b1 f1 s1=>?_
 obtain⟨i,rfl⟩:=Yax a1;dsimp only;intro p2 G2 Z;simp! only[show((i:Int)+1)=((i+1:Nat):Int) by omega,jb9,jaX]
 have c1:=ji5 us (some ((i:Nat):Int)) (some ((i+1:Nat):Int));have t1:(us.take i).length<=us.length:=by rw[YaT];lia
 have d1:(us.drop (i+1)).length<=us.length:=by rw[Ybt];lia
 have d0:(us.drop i).length<=us.length:=by rw[Ybt];lia
 refine⟨big _ (by lia),big _ (by lia),big _ (by rw[Yat];lia),?_⟩
 rw[jlt];refine⟨by decide,λp3 G3 Y=>?_⟩
 dsimp only;have f3:=(f1.new Z).new Y;refine jcd (k:=k) f3 λo1 G4 h4 f4 s4=>?_;refine⟨by decide,big _ (by lia),jcd (k:=k) f4 λo2 G5 h5 f5 s5=>?_⟩
 refine⟨by decide,λp6 G6 n6=>?_⟩
 dsimp only;have a3:=(f1.new Z).away Y;have g3:=n6.sa _ _ (s5 _ _ a3.1 (s4 _ _ a3.1 Y.at))
 try rw[jeF]
 refine⟨_,_,g3,n6.at,by simp;decide,λp7 G7 n7=>?_⟩
 have f6:=f5.new n6;have f7:=f6.new n7;refine jac (k:=k+1) f7 (by decide) (by decide) λr8 J a8 b8 f8 s8=>?_
 have a2:=f1.away Z;have xa:Sm f G6 J:=n7.sa.sm.trans s8;have O:Sm f G5 J:=n6.sa.sm.trans xa;have I:Sm f G4 J:=s5.trans O;refine jbR (s8 _ _ (f6.away n7).1 n7.at) a8 (by simpa using b8) λu hu=>q u J ?_ f8 (s1.trans (Z.sa.sm.trans (Y.sa.sm.trans (s4.trans I))))
 have g2:J p2=some (.lst us):=I _ _ a2.1 (s4 _ _ a2.1 (Y.sa _ _ Z.at));have F:∀{vs:List U},(∀x∈vs,x∈us)->vs.length<=w+1->Be J (w::y) (.tup vs):=λh1 h2=>jk3 (N:=oW y+34) (λx j=>L x (h1 x j)) h2 w1 (YcG _ _);have c2:(cut us (some ((i:Nat):Int)) (some ((i+1:Nat):Int))).length<=1:=by
  unfold cut;rw[YaT,HT.sIx_nat,HT.sIx_nat]
  lia
 simp only[List.mem_append,Yap,Yak,or_false]at hu;rcases hu with(rfl|rfl|rfl|rfl)|rfl|rfl
 ·refine⟨(Tk.lst (n:=y.length+2) (m:=w) (N':=bW (w::y)) g2 (λx j=>(L x j).1) hl ?_).mono (Yac _) (by simp),Dl.no λ_=>nofun⟩
  exact Yaf (show _<=w*(oW y+34+2)+bW y+5 by lia) (Ydq _ _)
 ·refine F (λx j=>?_) (by rw[Yat,YaT,Ybt];lia)
  rcases List.mem_append.mp j with j|j
  ·exact YaP j
  ·exact YaQ j
 ·refine F (λx j=>?_) (by rw[Yat,Yat,YaT,Ybt];lia)
  rcases List.mem_append.mp j with j|j
  ·rcases List.mem_append.mp j with j|j
   ·exact YaP j
   ·exact jmp j
  ·exact YaQ j
 ·exact F (λx j=>List.mem_reverse.mp j) (by rw[List.length_reverse];lia)
 ·refine jk3 (N:=oW y+34+200) (λx j=>?_) (by rw[Yat,Ybm];lia) w1 (Yac _)
  rcases List.mem_append.mp j with j|j
  ·exact⟨(L x j).1.mono (YcG _ _) (Yac _),(L (G:=J) x j).2⟩
  ·rw[List.mem_singleton.mp j];exact⟨(h4.1.sm f4 I).mono (by lia) (by lia),h4.dl.down⟩
 ·exact Od.be ⟨h5.1.sm f5 O,h5.2⟩

def jj1      (h:Tk G N n (.tup us))(F:n<=100)(q:k us.isEmpty):eqU (.tup us) (.tup []) G k:=by
 obtain⟨d,hd,I,z,_⟩:=h;cases hd with
 |@tup _ j y=>
 refine⟨.tuple j,.tuple [],.tup y.dus,.tup .nil,⟨I,Yaf z F⟩,⟨rfl,by decide⟩,?_⟩
 have e:YaK (.tuple j) (.tuple [])=us.isEmpty:=by
  show YbM j []=_;rw[jc3];cases y<;>rfl
 rw[e];exact q
section
variable {f c:Addr}
def Be.up     (h:Be G [] u):Be G j u:=⟨h.1.mono (jjl j) (by simp),h.2⟩
theorem jis  : ∀(j:List Nat) {k } {u } {G } {Q } {X },(∀v∈j,v<=150)->j.length<=50->Lw j u->Fd G f c->(∀r y,Be y j r->Fd y f c->Sm f G y->Q r y)->jab T (k+j.length+3) jbE [.loc f,u] G Q X
 |[],k,u,G,Q,X,_,_,h,hf,q=>jk2 (k:=k) h hf q
 |w::j,k,u,G,Q,X,hw,hws,h,hf,q=>by
  obtain⟨I,rfl,hl,h⟩:=h;have e:k+(w::j).length+3=(k+j.length+3)+1:=by simp;lia
  rw[e];have w1:=hw w Yav;have O:∀v∈j,v<=150:=λv hv=>hw v (Yaj _ hv);have xa:I.length<=150:=Yaf hl w1;have J:∀{G:Gp} (x:U),x∈I->Tk G (oW j+34) (j.length+3) x/\Dl 2 x:=λx F=>by
   rcases h x F with h|h
   ·exact⟨h.tk.mono (YcG _ _) (by lia),h.dl O⟩
   ·exact⟨Ni.tk h (Yex _ _),Ni.dl h⟩
  have tt:Tk G (w*(oW j+34+2)+3) (j.length+3+1) (.tup I):=Tk.tup (m:=w) (λx F=>(J x F).1) hl (Yac _);obtain⟨d,hd,_⟩:=id tt;have wl:(w::j).length<=50:=hws;cases hd with
  |@tup _ ds hs=>
  refine⟨rfl,?_⟩;simp! only[jc6,jah,Yag,jaJ (Th.tup hs) (show "tuple" ∈ ["bool", "int", "str", "list", "tuple", "dict"] by decide)]
  rw[show isD (.tuple ds) "tuple" = true from rfl,if_pos rfl];simp! only[];have L:∀{Z:Gp},Fd Z f c->Sm f G Z->jat T.gs (jab T (k+j.length+3)) jaR ⟨λ_ y=>Q .non y,Q,λx _ y=>X x y⟩ [some (.loc f),some (.tup I),none,none] Z:=λY s1=>
   jkd (k:=k+j.length+1) hl hw h Y λr y b f' s'=>q r y b f' (s1.trans s')
  refine⟨YaF _,jj1 tt (by simp at wl;lia) ?_⟩
  cases em:I.isEmpty with
  |true=>
   rw[if_neg (by decide)]
   exact L hf Sm.refl
  |false=>
   rw[if_pos (by decide)]
   have u0:0<I.length:=List.length_pos_iff.mpr λz=>by rw[z]at em;cases em
   refine jac (k:=k+j.length+2) hf (by decide) (by decide) λr Z a1 b1 Y s1=>?_
   simp! only[];by_cases c0:0<r
   ·rw[if_pos (by simpa using c0)]
    refine jac (k:=k+j.length+2) Y (by lia) (by lia) λr2 G2 a2 b2 f2 s2=>?_
    obtain⟨n,rfl⟩:=Yax a2;have hn:n<I.length:=by lia
    have hv:I[n]?=some I[n]:=Yah hn;dsimp only;rw[ix_t (jaO hv)];have go:∀(K:K1),(∀r y,Be y j r->Fd y f c->Sm f G2 y->K r y)->jab T (k+j.length+3) jbE [.loc f,I[n]] G2 K λx y=>X x y:=λK hK=>by
     rcases h _ (YaM hn)with h|h
     ·exact jis j (k:=k) O (by simp at wl;lia) h f2 hK
     ·exact jk2 (k:=k+j.length) h f2 λr y b=>hK r y b.up
    refine go _ λr G3 hb f3 s3=>?_;simp! only[show((n:Int)+1)=((n+1:Nat):Int) by omega,jb9,jaX]
    have big:∀n:Nat,n<=1000->n<=Yai:=λn h=>Yaf h (by decide)
    refine⟨by decide,big _ (by rw[YaT];lia),big _ (by rw[Yat,YaT,Ybt,Ybm];lia),?_⟩
    have le:=YcJ (oW j+34+2) (show(I.take n).length+(I.drop (n+1)).length<=w by rw[YaT,Ybt];lia)
    refine q _ G3 ⟨(Tk.one (N:=oW j+34) (M:=bW j) (n:=j.length+3) (N':=bW (w::j)) (λx F=>(J x (YaP F)).1) hb.1 (λx F=>(J x (YaQ F)).1) (Yaf (show _<=w*(oW j+34+2)+bW j+5 by lia) (Ydq _ _))).mono (Yac _) (by simp),λvs e=>?_⟩ f3 (s1.trans (s2.trans s3))
    ·cases e;refine⟨by rw[Yat,Yat,YaT,Ybt,Ybm];lia,λx F=>?_⟩
     rcases List.mem_append.mp F with F|F
     ·rcases List.mem_append.mp F with F|F
      ·exact(J (G:=G) x (YaP F)).2
      ·rw[List.mem_singleton.mp F];exact hb.2.down
     ·exact(J (G:=G) x (YaQ F)).2
   ·rw[if_neg (by simpa using c0)]
    exact L Y s1
end


def jl4    (g:G a=some (.dT kvs)):mtU .get (.loc a) G=some ("dict", "dict.get"):=by unfold mtU;dsimp only;rw[g]
def getT    (g:G a=some (.dT kvs))(q:Q ((dGet kvs [.inl x,.inl y]).getD d) G):jbh .get (.loc a) [.tup [.int x,.int y],d] G Q:=by
 show getU (.loc a) [.tup [.int x,.int y],d] G Q;unfold getU;dsimp only;rw[g];exact⟨[.inl x,.inl y],rfl,q⟩
def jj6   [DecidableEq κ]{k:κ}{v:α}(h:dGet kvs k=some v):∃p∈kvs,p.2=v:=by
 unfold dGet at h;obtain⟨p,j,e⟩:=Option.map_eq_some_iff.mp h;exact⟨p,YeD j,e⟩
def joF   (F:TbN m W t)(O:∀x∈t,∀z∈x,z<=100000)(Z:m<=12)(Y:W<=8):Co G (tbU t):=Ta.co (Rw.tab (λx J=>by
 obtain⟨y,j,rfl⟩:=List.mem_map.mp J;refine Ce.row (λv L=>?_) (by rw[Yaa,F.w y j];lia)
 obtain⟨z,I,rfl⟩:=List.mem_map.mp L;have:=F.n y j z I;have:=O y j z I;exact Tk.int (YaW (show z.natAbs<=100000 by lia) (by decide)) (by decide)) (by rw[Yaa,F.l];lia))
def ot_7  {X: KX}{pd: Addr}(ht:TbN m W t)(hn:∀x∈t,∀z∈x,z<=100000)(L:m<=12)(Z:W<=8)(g:G pd=some (.dT kv))(xa:∀p∈kv,Cn 96 p.2)(q:∀u I,Tg2 I u->Sa G I->Q u I) :
  jat T.gs (jab T (k+2)) jaG ⟨λ_ I=>Q .non I,Q,λx _ I=>X x I⟩ [o0,o1,o2,o3,o4,o5,o6,o7,some (tbU t),some (.loc pd)] G:=by
 simp! only[jaG];refine jdu (k:=k+1) ht L Z λp G1 O n1 s1=>?_;have Y:=jaz (t:=t) (r:=m) (W:=W) L Z;rw[it_l O];refine⟨by rw[Yaa];exact Yaf Y (by decide),?_⟩
 refine jan (λj F I=>I=G1/\F.length=j/\∀u∈F,Cn 96 u) ?_ ?_ ⟨rfl,rfl,λ_ h=>(nomatch h)⟩
 ·rintro F G2 ⟨rfl,hl,ha⟩;rw[Yaa]at hl;refine⟨jdn O,λp3 G3 n3=>?_⟩;dsimp only;simp! only[it_l n3.at];refine⟨by decide,q _ _ (Co.two (joF ht hn L Z) (jmr ha (by lia))) (s1.trans n3.sa)⟩
 ·rintro j x F G2 K J ⟨rfl,hl,ha⟩ hk hn2;rw[Yau]at J;cases es:(spts t m W)[j]? with
  |none=>rw[es]at J;cases J
  |some pr=>
   rw[es]at J;have J:=(Yaw J).symm;subst J;have g2:=s1 _ _ g;refine⟨jdn O,?_⟩;simp! only[jl4 g2];refine⟨by decide,by decide,getT g2 (hk _ _ ⟨rfl,by rw[Yat,hl];rfl,λu hu=>?_⟩)⟩
   rcases List.mem_append.mp hu with hu|hu
   ·exact ha u hu
   ·rw[List.mem_singleton.mp hu];cases e:dGet kv [.inl (pr.1:Int),.inl (pr.2:Int)]with
    |none=>exact⟨0,[],rfl,by decide,by decide,λ_ h=>(nomatch h)⟩
    |some v=>
     obtain⟨y,hy,rfl⟩:=jj6 e;exact xa y hy

def jj5   [DecidableEq κ]{C:α->Prop}{kvs:List (κ×α)}(h:∀p∈kvs,C p.2)(z:C v):∀p∈dPut kvs k v,C p.2:=by
 intro p j;unfold dPut at j;split at j
 ·obtain⟨y,F,rfl⟩:=List.mem_map.mp j;split
  ·exact z
  ·exact h y F
 ·rcases List.mem_append.mp j with j|j
  ·exact h p j
  ·rw[List.mem_singleton.mp j];exact z
theorem jeu   [DecidableEq κ]{C:α->Prop}:∀{ps kvs:List (κ×α)},(∀p∈ps,C p.2)->(∀p∈kvs,C p.2)->∀p∈ps.foldl (λacc j=>dPut acc j.1 j.2) kvs,C p.2
 |[],_,_,h=>h
 |y::ps,_,hp,h=>jeu (ps:=ps) (λp z=>hp p (Yaj _ z)) (jj5 h (hp y Yav))

def ot_6  {X: KX}(hR:TbOk m W R)(ht:TbN m W t)(hn:∀x∈t,∀z∈x,z<=100000)(m2:m<=12)(w8:W<=8)(g:G p3=some (.lst ((spts R m W).map spU)))(hc:∀u∈cs,Cn 96 u)(cl:cs.length=(spts R m W).length)(q:∀u F,Tg2 F u->Sa G F->Q u F) :
  jat T.gs (jab T (k+2)) jaH ⟨λ_ F=>Q .non F,Q,λx _ F=>X x F⟩ [o0,o1,some (.tup cs),some (.loc p3),o4,o5,o6,o7,some (tbU t),o9] G:=by
 have J:=jaz (t:=R) (r:=m) (W:=W) m2 w8;simp! only[jaH];rw[jdS g,Yaa];refine⟨by lia,by lia,by rw[jak];exact Yaf J (by decide),?_⟩
 refine jan (λj I F=>F=G/\I=((((spts R m W).zip cs).take j).map λp=>U.tup [spU p.1,p.2])) ?_ ?_ ⟨rfl,rfl⟩
 ·rintro I G2 ⟨rfl,rfl⟩;rw[jak];refine⟨trivial,λp4 G4 L=>?_⟩;dsimp only;have zl:((spts R m W).zip cs).length=(spts R m W).length:=by rw[Ydm];lia
  rw[Yfa (by lia)]at L
  unfold mkPU;dsimp only;rw[L.at];refine⟨((spts R m W).zip cs).map λp=>([.inl (p.1.1:Int),.inl (p.1.2:Int)],p.2),by rw[List.map_map];rfl,λpd G5 Z=>?_⟩
  refine ot_7 (k:=k) ht hn m2 w8 Z.at (jeu (λp hp=>?_) λ_ h=>(nomatch h)) λu F h s=>q u F h (L.sa.trans (Z.sa.trans s));obtain⟨y,hy,rfl⟩:=List.mem_map.mp hp;exact hc _ (YcM hy).2
 ·rintro j x I G2 K hx ⟨rfl,rfl⟩ hk hn2;obtain⟨O,rfl⟩:=jaC hx;have O:j<(spts R m W).length:=by lia
  have e1:(spts R m W)[j]?=some (spts R m W)[j]:=Yah O;have Y:cs[j]?=some (cs[j]'(by lia)):=Yah (by lia)
  refine⟨trivial,?_⟩;simp! only[ix_l g (atM (f:=spU) e1),ix_t (jaO Y)];refine⟨by decide,hk _ _ ⟨rfl,?_⟩⟩
  have e3:((spts R m W).zip cs)[j]?=some ((spts R m W)[j],cs[j]'(by lia)):=by rw[YeE];exact⟨e1,Y⟩
  rw[Ybh,e3,YaH];rfl


def jh7  {j y:Type}{g:j->y}{l:List j}{v:j}(h:i<l.length):(l.map g).take i++[g v]++(l.map g).drop (i+1)=(l.set i v).map g:=by
 rw[List.set_eq_take_append_cons_drop,if_pos h];simp
def ot_3  {X: KX}{r cc:Nat}(J:TbOk m W R)(m2:m<=12)(w8:W<=8)(hf:Fd G f c)(hp:p3≠f)(g:G p3=some (.lst ((spts R m W).map spU)))(hc:∀u∈cs,Cn 96 u)(cl:cs.length=(spts R m W).length)(hr:r<m)(hw:cc<W)
  (q:∀u y,Tg2 y u->Fd y f c->Sm f G y->Q u y) :
  jat T.gs (jab T (k+2)) jaw ⟨λ_ y=>Q .non y,Q,λx _ y=>X x y⟩ [some (.loc f),some (tbU R),some (.tup cs),some (.loc p3),some (.int r),some (.int cc),o6,o7,o8,o9] G:=by
 obtain⟨row,e1,e2,e3,e4⟩:=J.row hr;have big:∀n:Nat,n<=1000->n<=Yai:=λn h=>Yaf h (by decide)
 simp! only[jaw];refine J.tn.ix hr hw ?_;refine⟨by decide,λp5 G1 Y=>?_⟩
 have f1:=hf.new Y;refine jac (k:=k+1) f1 (by decide) (by decide) λz G2 a2 b2 f2 s2=>?_
 refine jbR (s2 _ _ (hf.away Y).1 Y.at) a2 (by simpa using b2) λu hu=>?_
 obtain⟨d,rfl,hd⟩:∃d:Int,u=.int d/\-2<=d/\d<=2:=by
  simp only[Yap,Yak,or_false]at hu;rcases hu with rfl|rfl|rfl|rfl<;>exact⟨_,rfl,by decide⟩
 simp! only[];have rm:row∈R:=Yas e1;have gv:gt R r cc=row.getD cc 0:=by unfold gt;rw[e2]
 have gb:0<=gt R r cc/\gt R r cc<=999:=by
  rw[gv];have O:cc<row.length:=by lia
  rw[Ybf,Yah O];exact e4 _ (YaM O)
 obtain⟨v,ev,v0,v1⟩:∃v:Int,(if gt R r cc+d>0 then gt R r cc+d else 0)=v/\0<=v/\v<=100000:=⟨_,rfl,by split<;>lia,by split<;>lia⟩
 rw[ev];have er:(R.map jaf)[r]?=some (jaf row):=by rw[Yau,e1];rfl
 have rl:=J.1;simp! only[ja0,tbU,ix_t (jaO er),jaf,show((cc:Int)+1)=((cc+1:Nat):Int) by omega,jb9,jaX]
 refine⟨by decide,big _ (by simp;lia),big _ (by simp;lia),?_⟩
 have s1:=jh7 (g:=U.int) (l:=row) (i:=cc) (v:=v) (by lia)
 rw[s1];simp! only[jaZ,show((r:Int)+1)=((r+1:Nat):Int) by omega,jb9,jaX]
 refine⟨by decide,big _ (by simp;lia),big _ (by simp;lia),?_⟩
 have xa:=jh7 (g:=jaf) (l:=R) (i:=r) (v:=row.set cc v) (by lia)
 have Z:∀x∈R.set r (row.set cc v),x.length=W/\∀z∈x,0<=z/\z<=100000:=λx j=>by
  rcases YbE j with j|rfl
  ·exact⟨J.2 x j,λz F=>by have:=J.3 x j z F;lia⟩
  ·refine⟨by rw[YcN];exact e3,λz F=>?_⟩
   rcases YbE F with F|rfl
   ·have:=e4 z F;lia
   ·exact⟨v0,v1⟩
 have ht:TbN m W (R.set r (row.set cc v)):=⟨by rw[YcN];exact J.1,λx j=>(Z x j).1,λx j z F=>((Z x j).2 z F).1⟩
 have L:Sm f G G2:=Y.sa.sm.trans s2;have I:=ot_6 (k:=k) (G:=G2) (Q:=Q) (X:=X) (o0:=some (.loc f)) (o1:=some (tbU R)) (o4:=some (.int r)) (o5:=some (.int cc)) (o6:=some (.int v)) (o7:=some (jaf (row.set cc v))) (o9:=o9) J ht (λx j z F=>((Z x j).2 z F).2) m2 w8 (L _ _ hp g) hc cl λu y h s=>q u y h (f2.sa s) (L.trans s.sm);unfold tbU at I;rw[<- xa]at I;exact I

def jpK     (h:eqU x y G λb=>k (!b)):cmpU .NotEq x y G k:=h

def jeb  (hR:TbOk m W R)(m1:1<=m)(m2:m<=12)(w0:0<W)(w8:W<=8)(hf:Fd G f c)(hc:∀u∈cs,Cn 96 u)(cl:cs.length=(spts R m W).length)
  (q:∀u F,Tg2 F u->Fd F f c->Sm f G F->Q u F):jab T (k+3) jbC [.loc f,tbU R,.tup cs] G Q X:=by
 refine⟨rfl,?_⟩;simp! only[jbF,jah,Yag];refine jdu (k:=k+1) hR.tn m2 w8 λp3 G1 g1 n1 s1=>?_;have f1:=hf.sa s1;have J:p3≠f:=λz=>by
  obtain⟨ms,x,l,t,e1,_⟩:=hf.ex;rw[<- z,n1]at e1;cases e1
 have za:=jaz (t:=R) (r:=m) (W:=W) m2 w8;obtain⟨row,e1,e2,e3,e4⟩:=hR.row (show 0<m by lia)
 have er:(R.map jaf)[0]?=some (jaf row):=by rw[Yau,e1];rfl
 simp! only[ja2,tbU,Yaa,hR.1];refine jac (k:=k+1) f1 (by lia) (by lia) λz G2 a2 b2 f2 s2=>?_
 obtain⟨r,rfl⟩:=Yax a2;have e0:∀K:K1,K (jaf row) G2->ixU (.tup (R.map jaf)) (.int 0) G2 K:=λK h=>by
  have:=ix_t (G:=G2) (Q:=K) (jaO er);exact this ▸ h
 refine e0 _ ?_;simp! only[jaf,Yaa,e3];refine jac (k:=k+1) f2 (by lia) (by lia) λz G3 a3 b3 f3 s3=>?_
 obtain⟨cc,rfl⟩:=Yax a3;have O:=s3 _ _ J (s2 _ _ J g1);simp! only[ja1];have go:∀{r' c':Nat} {Z:Gp} {o6 o7 o8 o9:Option U},r'<m->c'<W->Fd Z f c->Sm f G3 Z->jat T.gs (jab T (k+2)) jaw ⟨λ_ F=>Q .non F,Q,λx _ F=>X x F⟩ [some (.loc f),some (.tup (R.map jaf)),some (.tup cs),some (.loc p3),some (.int r'),some (.int c'),o6,o7,o8,o9] Z:=λh1 h2 Y s4=>
  ot_3 (k:=k) hR m2 w8 Y J (s4 _ _ J O) hc cl h1 h2 λu F t f' s'=>q u F t f' (s1.sm.trans (s2.trans (s3.trans (s4.trans s'))))
 refine⟨trivial,by decide,λp5 Z L=>?_⟩
 dsimp only;refine jpK ?_;refine jiV (n:=1) (L.sa _ _ O) L.at (λu hu=>?_) (by decide) ?_
 ·obtain⟨y,hy,rfl⟩:=List.mem_map.mp hu;exact⟨.tuple [.int y.1,.int y.2],.tup (.cons (.int _) (.cons (.int _) .nil)),rfl,Yac 1⟩
 have Y:=f3.new L;cases em:((spts R m W).map spU).isEmpty with
 |true=>
  rw[if_neg (by decide)]
  exact go (by lia) (by lia) Y L.sa.sm
 |false=>
  rw[if_pos (by decide)]
  have xa:0<(spts R m W).length:=List.length_pos_iff.mpr λz=>by rw[z]at em;cases em
  refine jac (k:=k+1) Y (by decide) (by decide) λr5 G5 a5 b5 f5 s5=>?_
  simp! only[];have I:Sm f G3 G5:=L.sa.sm.trans s5;by_cases c0:0<r5
  ·rw[if_pos (by simpa using c0),jdS (I _ _ J O),Yaa]
   refine jac (k:=k+1) f5 (by lia) (by lia) λr6 G6 a6 b6 f6 s6=>?_
   obtain⟨j,rfl⟩:=Yax a6;have hj:j<(spts R m W).length:=by lia
   have ej:(spts R m W)[j]?=some (spts R m W)[j]:=Yah hj;have bd:=jf2 (t:=R) (YaM hj);rw[ix_l (s6 _ _ J (I _ _ J O)) (atM (f:=spU) ej)];generalize (spts R m W)[j]=pr at bd;simp! only[spU];refine⟨trivial,?_⟩;exact go bd.1 bd.2 f6 (I.trans s6)
  ·rw[if_neg (by simpa using c0)]
   exact go (by lia) (by lia) f5 I

section
variable {k:Nat}{G:Gp}{Q:K1}{X:KX}{f c:Addr}{w:Wd}
def Sv  (x:U):Prop:=(∃z:Int,x=.int z/\-1<=z/\z<=999)\/x=.bl true
def Oc  (G:Gp)(u:U):Prop:=Tk G 12000 4 u/\Dl 2 u
def Sv.tk   (h:Sv x):Tk G 34 0 x:=by
 rcases h with⟨z,rfl,h⟩|rfl
 ·exact Tk.int (Yar (show z.natAbs<10000 by lia) (by decide)) (Yac _)
 ·exact Tk.bl true (by decide)
def Sv.dl    (h:Sv x):Dl n x:=by
 rcases h with⟨z,rfl,h⟩|rfl<;>exact Dl.no λ_=>nofun
def Ob  (G:Gp)(u:U):Prop:=Tk G 3603 1 u/\Dl 1 u
def ob_i   (h:-1<=z/\z<=999):Ob G (.int z):=⟨(Sv.tk (.inl ⟨z,rfl,h⟩)).mono (by decide) (by decide),Sv.dl (.inl ⟨z,rfl,h⟩)⟩
def ob_r   (y:l.length<=100)(h:∀x∈l,Sv x):Ob G (.tup l):=⟨Tk.tup (λu hu=>(h u hu).tk) y (by decide),λz e=>by cases e;exact⟨by lia,λx j=>(h x j).dl⟩⟩
def ob_l    (g:G a=some (.lst l))(j:l.length<=100)(h:∀x∈l,Sv x):Ob G (.loc a):=⟨Tk.lst g (λu hu=>(h u hu).tk) j (by decide),Dl.no λ_=>nofun⟩
def oc_t   (y:us.length<=3)(h:∀u∈us,Ob G u):Oc G (.tup us):=⟨(Tk.tup (N':=12000) (λu hu=>(h u hu).1) y (by decide)).mono (Yac _) (by decide),λz e=>by cases e;exact⟨by lia,λx j=>(h x j).2⟩⟩
def oc_l    (g:G a=some (.lst us))(j:us.length<=3)(h:∀u∈us,Ob G u):Oc G (.loc a):=⟨(Tk.lst (N':=12000) g (λu hu=>(h u hu).1) j (by decide)).mono (Yac _) (by decide),Dl.no λ_=>nofun⟩
def Oc.sa    (h:Oc G u)(s:Sa G G'):Oc G' u:=⟨h.1.sa s,h.2⟩
def oc_2    (j:-1<=z/\z<=999)(y:l.length<=100)(h:∀x∈l,Sv x):Oc G (.tup [.int z,.tup l]):=oc_t (show 2<=3 by decide) λu hu=>by
 simp only[Yap,Yak,or_false]at hu;rcases hu with rfl|rfl
 ·exact ob_i j
 ·exact ob_r y h
def jec   {row:List Nat}(ow:w.Ok)(hg:g<12)(hr:row.length<=96)(hs:∀s∈row,s<25)(hf:Fd G f c)(q:∀u G',Oc G' u->Fd G' f c->Sm f G G'->Q u G') :
  jab T (k+2) jbD [.loc f,w.u,.tup [nI g,.tup (row.map nI)]] G Q X:=by
 have big:∀n:Nat,n<=1000->n<=Yai:=λn h=>Yaf h (by decide)
 refine⟨rfl,?_⟩;simp! only[jbG,jah,Yag,Wd.u];refine⟨trivial,?_⟩;simp! only[ja9,Yaa];refine⟨trivial,jac (k:=k) hf (by lia) (by lia) λz G2 a2 b2 f2 s2=>?_⟩
 obtain⟨F,rfl⟩:=Yax a2;simp! only[ja8,Wd.plan,jau];refine λp3 G3 n3=>?_;have f3:=f2.new n3;simp! only[jk4,Yaa];refine⟨by lia,by rw[Yaa];have:=ow.s25;lia,λp4 G4 n4=>?_⟩
 rw[Yaa]at n4
 try rw[jeF]
 refine⟨_,_,n4.sa _ _ n3.at,n4.at,big _ (by rw[Yaa,jak];have:=ow.s25;have:=ow.wl;lia),λp5 G5 n5=>?_⟩
 simp! only[Yaa];refine⟨by decide,λp6 G6 n6=>?_⟩
 rw[Yaa]at n6
 try rw[jeF]
 refine⟨_,_,n6.sa _ _ n5.at,n6.at,big _ (by simp only[Yat,Yaa,jak,YaU,Yct];have:=ow.s25;have:=ow.wl;lia),λp7 G7 n7=>?_⟩
 have sv:∀u∈w.wt.map (λ(n:Nat)=>U.int (n:Int))++rngU 0 (w.ss.length:Int).toNat++[.int w.ss.length,.int (-1),.bl true],Sv u:=by
  intro u hu;have:=ow.s25;rcases List.mem_append.mp hu with hu|hu
  ·rcases List.mem_append.mp hu with hu|hu
   ·obtain⟨n,hn,rfl⟩:=List.mem_map.mp hu;have:=ow.ww n hn;exact .inl ⟨_,rfl,by lia,by lia⟩
   ·obtain⟨j,hj⟩:=List.getElem?_of_mem hu;obtain⟨h1,rfl⟩:=jaC hj;exact .inl ⟨_,rfl,by lia,by lia⟩
  ·simp only[Yap,Yak,or_false]at hu;rcases hu with rfl|rfl|rfl
   ·exact .inl ⟨_,rfl,by lia,by lia⟩
   ·exact .inl ⟨_,rfl,by decide,by decide⟩
   ·exact .inr rfl
 have f6:Fd G6 f c:=((f3.new n4).new n5).new n6;have f7:=f6.new n7;have s7:Sm f G G7:=s2.trans (n3.sa.trans (n4.sa.trans (n5.sa.trans (n6.sa.trans n7.sa)))).sm;have g7:=n7.at
 generalize ez:w.wt.map (λ(n:Nat)=>U.int (n:Int))++rngU 0 (w.ss.length:Int).toNat++[.int w.ss.length,.int (-1),.bl true]=zs at sv g7;have zl:0<zs.length/\zs.length<=1000:=by
  rw[<- ez];simp only[Yat,Yaa,jak,YaU,Yct];have:=ow.s25;have:=ow.wl
  lia
 obtain⟨R,eR⟩:∃R,row.map nI=R:=⟨_,rfl⟩;have rl:R.length<=96:=by rw[<- eR,Yaa];exact hr
 have rs:∀x∈R,Sv x:=λx J=>by
  rw[<- eR]at J;obtain⟨n,hn,rfl⟩:=List.mem_map.mp J;have:=hs n hn;exact .inl ⟨_,rfl,by lia,by lia⟩
 have rt:∀n,∀x∈R.take n,Sv x:=λn x J=>rs x (YaP J);have rd:∀n,∀x∈R.drop n,Sv x:=λn x J=>rs x (YaQ J);rw[eR];simp! only[ja7];rw[jdS g7];refine jac (k:=k) f7 (by lia) (by lia) λz G8 a8 b8 f8 s8=>?_
 refine jbR (s8 _ _ (f6.away n7).1 g7) a8 (by simpa using b8) λx J=>?_
 have sx:=sv x J;simp! only[ja6,Yaa];refine jac (k:=k) f8 (by lia) (by have:=ow.gl;lia) λz9 G9 a9 b9 f9 s9=>?_
 simp! only[nI,show((F:Int)+1)=((F+1:Nat):Int) by omega,jb9,jaX]
 refine⟨by decide,by decide,big _ (by simp;lia),by decide,?_⟩
 rw[jlt];refine⟨by decide,by decide,λp8 kb n8=>?_⟩
 have c2:∀{G:Gp} {z:Int} {l:List U},-1<=z->z<=999->l.length<=100->(∀x∈l,Sv x)->Oc G (.tup [.int z,.tup l]):=λh1 h2=>oc_2 ⟨h1,h2⟩;have gl:=ow.gl;have o1:∀u∈[U.tup [.int z9,.tup R],.tup [.int (g-1),.tup R],.tup [.int g,.tup (R.take F++R.drop (F+1))],.tup [.int g,.tup R.reverse]],Oc kb u:=λu hu=>by
  simp only[Yap,Yak,or_false]at hu;rcases hu with rfl|rfl|rfl|rfl
  ·exact c2 (by lia) (by lia) (by lia) rs
  ·exact c2 (by lia) (by lia) (by lia) rs
  ·exact c2 (by lia) (by lia) (by simp;lia) λx J=>(List.mem_append.mp J).elim (rt _ x) (rd _ x)
  ·exact c2 (by lia) (by lia) (by simp;lia) λx J=>rs x (List.mem_reverse.mp J)
 have g8:=n8.at
 have ol:[U.tup [.int z9,.tup R],.tup [.int (g-1),.tup R],.tup [.int g,.tup (R.take F++R.drop (F+1))],.tup [.int g,.tup R.reverse]].length=4:=rfl;have hb:=f9.new n8;generalize [U.tup [.int z9,.tup R],.tup [.int (g-1),.tup R],.tup [.int g,.tup (R.take F++R.drop (F+1))],.tup [.int g,.tup R.reverse]]=os at o1 g8 ol;simp! only[ja5,show((F:Int)+1)=((F+1:Nat):Int) by omega,jb9,jaX]
 refine⟨by decide,big _ (by simp;lia),big _ (by simp;lia),by decide,by decide,big _ (by simp;lia),big _ (by simp;lia),by decide,λp9 yc n9=>?_⟩
 refine⟨by decide,by decide,λzc xc O=>?_⟩
 dsimp only
 try rw[jeF]
 refine⟨_,_,O.sa _ _ (n9.sa _ _ g8),O.at,big _ (by rw[ol];exact(show 4+3<=1000 by decide)),λqc vb xa=>?_⟩
 have o2:∀u∈os++[U.tup [.int g,.tup (R.take F++[x]++R.drop F)],.tup [.int g,.tup (R.take F++[x]++R.drop (F+1))],.tup [.int g,.loc p9]],Oc vb u:=λu hu=>by
  have m3:∀n,∀y∈R.take F++[x]++R.drop n,Sv y:=λn y I=>by
   rcases List.mem_append.mp I with I|I
   ·rcases List.mem_append.mp I with I|I
    ·exact rt _ y I
    ·rw[List.mem_singleton.mp I];exact sx
   ·exact rd _ y I
  rcases List.mem_append.mp hu with hu|hu
  ·exact(o1 u hu).sa (n9.sa.trans (O.sa.trans xa.sa))
  simp only[Yap,Yak,or_false]at hu;rcases hu with rfl|rfl|rfl
  ·exact c2 (by lia) (by lia) (by simp;lia) (m3 _)
  ·exact c2 (by lia) (by lia) (by simp;lia) (m3 _)
  ·refine oc_t (show 2<=3 by decide) λu hu=>?_
   simp only[Yap,Yak,or_false]at hu;rcases hu with rfl|rfl
   ·exact ob_i (by lia)
   ·exact ob_l (xa.sa _ _ (O.sa _ _ n9.at)) (by lia) rs
 have zb:=xa.at
 have yb:=((hb.new n9).new O).new xa;have ja:(os++[U.tup [.int g,.tup (R.take F++[x]++R.drop F)],.tup [.int g,.tup (R.take F++[x]++R.drop (F+1))],.tup [.int g,.loc p9]]).length=7:=by rw[Yat,ol];rfl
 generalize os++[U.tup [.int g,.tup (R.take F++[x]++R.drop F)],.tup [.int g,.tup (R.take F++[x]++R.drop (F+1))],.tup [.int g,.loc p9]]=os2 at o2 zb ja;simp! only[ja4,show((F:Int)+1)=((F+1:Nat):Int) by omega,jb9,jaX]
 have ml:(cut R (some (F:Int)) (some ((F+1:Nat):Int))).length<=1:=by
  unfold cut;rw[HT.sIx_nat,HT.sIx_nat,YaT]
  lia
 have ms:∀x∈cut R (some (F:Int)) (some ((F+1:Nat):Int)),Sv x:=λx J=>rs x (YaQ (YaP J));generalize cut R (some (F:Int)) (some ((F+1:Nat):Int))=M at ml ms;refine⟨big _ (by simp;lia),big _ (by simp;lia),by decide,by decide,by decide,by decide,by decide,λya hc Z=>?_⟩
 refine⟨by decide,λvc kc Y=>?_⟩
 dsimp only
 try rw[jeF]
 refine⟨_,_,Y.sa _ _ (Z.sa _ _ zb),Y.at,big _ (by rw[ja];exact(show 7+4<=1000 by decide)),λjc xb L=>?_⟩
 have o3:∀u∈os2++[U.tup [.int g,.tup (R.take F++M++R.drop F)],.tup [.int g],.tup [.int g,.tup R,.tup []],.loc ya],Oc xb u:=λu hu=>by
  rcases List.mem_append.mp hu with hu|hu
  ·exact(o2 u hu).sa (Z.sa.trans (Y.sa.trans L.sa))
  have ig:∀{G},Ob G (.int (g:Int)):=ob_i (by lia)
  simp only[Yap,Yak,or_false]at hu;rcases hu with rfl|rfl|rfl|rfl
  ·refine c2 (by lia) (by lia) (by simp;lia) λy I=>?_
   rcases List.mem_append.mp I with I|I
   ·exact(List.mem_append.mp I).elim (rt _ y) (ms y)
   ·exact rd _ y I
  ·exact oc_t (show 1<=3 by decide) λu hu=>by rw[List.mem_singleton.mp hu];exact ig
  ·refine oc_t (show 3<=3 by decide) λu hu=>?_
   simp only[Yap,Yak,or_false]at hu;rcases hu with rfl|rfl|rfl
   ·exact ig
   ·exact ob_r (by lia) rs
   ·exact ob_r (YaF _) λ_ h=>nomatch h
  ·refine oc_l (L.sa _ _ (Y.sa _ _ Z.at)) (show 2<=3 by decide) λu hu=>?_
   simp only[Yap,Yak,or_false]at hu;rcases hu with rfl|rfl
   ·exact ig
   ·exact ob_r (by lia) rs
 have za:=L.at
 have ka:=(yb.new Z).new Y;have ha:=ka.new L;have wb:Sm f G xb:=s7.trans (s8.trans (s9.trans (n8.sa.trans (n9.sa.trans (O.sa.trans (xa.sa.trans (Z.sa.trans (Y.sa.trans L.sa)))))).sm));have wa:(os2++[U.tup [.int g,.tup (R.take F++M++R.drop F)],.tup [.int g],.tup [.int g,.tup R,.tup []],.loc ya]).length=11:=by rw[Yat,ja];rfl
 generalize os2++[U.tup [.int g,.tup (R.take F++M++R.drop F)],.tup [.int g],.tup [.int g,.tup R,.tup []],.loc ya]=os3 at o3 za wa;simp! only[ja3];rw[jdS za,wa];refine jac (k:=k) ha (by decide) (by decide) λz wc a b jb va=>?_
 exact jbR (va _ _ (ka.away L).1 za) a (by rw[wa];exact b) λu hu=>q u _ ⟨(o3 u hu).1.sm ha va,(o3 u hu).2⟩ jb (wb.trans va)
end

section
variable {k:Nat}{G:Gp}{Q:K1}{X:KX}{f c:Addr}{w:Wd}{R:Tb}{cs:List U}
def jp2   (h:Cn 96 u):Oc G u:=by
 obtain⟨g,row,rfl,I,F,z⟩:=h;refine oc_2 (show -1<=(g:Int)/\(g:Int)<=999 by lia) (by rw[Yaa];lia) λx j=>?_
 obtain⟨n,y,rfl⟩:=List.mem_map.mp j;have:=z n y;exact .inl ⟨_,rfl,by lia,by lia⟩
def Pt  (G:Gp)(u:U):Prop:=Tk G 1200000 5 u/\shD u
def Pt.sa    (h:Pt G u)(s:Sa G G'):Pt G' u:=⟨h.1.sa s,h.2⟩
def Pt.sm    (h:Pt G u)(j:Fd G f c)(s:Sm f G G'):Pt G' u:=⟨h.1.sm j s,h.2⟩
def Co.pt   (h:Co G u):Pt G u:=⟨h.1.mono (by decide) (by decide),h.2⟩
def pt_t   (h:∀u∈us,Oc G u)(z:us.length<=99):Pt G (.tup us):=⟨Tk.tup (λu hu=>(h u hu).1) z (by decide),by lia,λx y j e=>((h x y).2 j e).1⟩
def pt_l    (g:G a=some (.lst us))(h:∀u∈us,Oc G u)(j:us.length<=99):Pt G (.loc a):=⟨Tk.lst g (λu hu=>(h u hu).1) j (by decide),trivial⟩
def Pt.two   (I:Pt G x)(J:Pt G y):Tg2 G (.tup [x,y]):=by
 have e:∀u∈[x,y],Pt G u:=λu hu=>by
  simp only[Yap,Yak,or_false]at hu;rcases hu with rfl|rfl
  ·exact I
  ·exact J
 exact⟨(Tk.tup (m:=2) (λu hu=>(e u hu).1) (Yac _) (by decide)).mono (Yac 3000000) (Yac _),λL j z F=>by cases j;exact(e z F).2⟩
def jfm  (I:w.Ok)(hR:TbOk w.m w.xs.length R)(hc:∀u∈cs,Cn 96 u)(cl:cs.length=(spts R w.m w.xs.length).length)(hf:Fd G f c)(q:∀u L,Tg2 L u->Fd L f c->Sm f G L->Q u L) :
  jab T (k+4) jb2 [.loc f,w.u,.tup [tbU R,.tup cs]] G Q X:=by
 have big:∀n:Nat,n<=1000->n<=Yai:=λn h=>Yaf h (by decide)
 have va:=jaz (t:=R) I.m2 I.x8;refine⟨rfl,?_⟩;simp! only[jb7,jah,Yag];refine⟨trivial,?_⟩;simp! only[jbz];refine jac (k:=k+2) hf (by decide) (by decide) λy G1 a1 b1 f1 s1=>?_
 simp! only[jby];by_cases c3:y<3
 ·rw[if_pos (by simpa using c3)]
  exact jeb (k:=k) hR I.m1 I.m2 I.x0 I.x8 f1 hc cl λu L h f' s'=>q u L h f' (s1.trans s')
 rw[if_neg (by simpa using c3)]
 simp! only[jbx];refine jac (k:=k+2) f1 (by lia) (by lia) λz G2 a2 b2 f2 s2=>?_
 obtain⟨j,rfl⟩:=Yax a2;simp! only[jbw];have co:=joG (G:=G2) hR I.m2 I.x8;have Z:∀{G:Gp},∀u∈cs,Oc G u:=λu hu=>jp2 (hc u hu);have tail:jat T.gs (jab T (k+3)) jaM ⟨λ_ L=>Q .non L,Q,λx _ L=>X x L⟩ [some (.loc f),some w.u,some (.tup [tbU R,.tup cs]),some (tbU R),some (.tup cs),some (.int y),some (.int j),none,none] G2:=by
  simp! only[jaM];rw[show((j:Int)+2)=((j+2:Nat):Int) by lia]
  have ml:(cut cs (some (j:Int)) (some ((j+2:Nat):Int))).length<=2:=by
   unfold cut;rw[HT.sIx_nat,HT.sIx_nat,YaT]
   lia
  have ms:∀x∈cut cs (some (j:Int)) (some ((j+2:Nat):Int)),x∈cs:=λx F=>YaQ (YaP F);generalize cut cs (some (j:Int)) (some ((j+2:Nat):Int))=M at ml ms;simp! only[jbv,show((j:Int)+1)=((j+1:Nat):Int) by omega,show((j:Int)+2)=((j+2:Nat):Int) by omega,jb9,jaX,jlt]
  refine⟨big _ (by simp;lia),big _ (by simp;lia),big _ (by simp;lia),by decide,λp3 G3 n3=>?_⟩
  have it:∀n,∀x∈cs.take n,x∈cs:=λn x h=>YaP h;have xa:∀n,∀x∈cs.drop n,x∈cs:=λn x h=>YaQ h;have o1:∀u∈[U.tup (cs.take j++cs.drop (j+1)),.tup (cs.take j++M.reverse++cs.drop (j+2)),.tup cs.reverse],Pt G3 u:=λu hu=>by
   simp only[Yap,Yak,or_false]at hu;rcases hu with rfl|rfl|rfl
   ·exact pt_t (λx F=>Z x ((List.mem_append.mp F).elim (it _ x) (xa _ x))) (by simp;lia)
   ·refine pt_t (λx F=>Z x ?_) (by simp;lia)
    rcases List.mem_append.mp F with F|F
    ·exact(List.mem_append.mp F).elim (it _ x) λh=>ms x (List.mem_reverse.mp h)
    ·exact xa _ x F
   ·exact pt_t (λx F=>Z x (List.mem_reverse.mp F)) (by simp;lia)
  have g3:=n3.at
  have f3:=f2.new n3;have ol:[U.tup (cs.take j++cs.drop (j+1)),.tup (cs.take j++M.reverse++cs.drop (j+2)),.tup cs.reverse].length=3:=rfl;generalize [U.tup (cs.take j++cs.drop (j+1)),.tup (cs.take j++M.reverse++cs.drop (j+2)),.tup cs.reverse]=os at o1 g3 ol;simp! only[jbu,nI];refine⟨by decide,by decide,by decide,big _ (by lia),λp4 G4 n4=>?_⟩
  refine⟨by decide,λp5 G5 n5=>?_⟩
  dsimp only
  try rw[jeF]
  refine⟨_,_,n5.sa _ _ (n4.sa _ _ g3),n5.at,big _ (by rw[ol];exact(show 3+2<=1000 by decide)),λp6 G6 n6=>?_⟩
  have o2:∀u∈os++[U.tup (cs++[.tup [.int 0,.tup []]]),.loc p4],Pt G6 u:=λu hu=>by
   rcases List.mem_append.mp hu with hu|hu
   ·exact(o1 u hu).sa (n4.sa.trans (n5.sa.trans n6.sa))
   simp only[Yap,Yak,or_false]at hu;rcases hu with rfl|rfl
   ·refine pt_t (λx F=>?_) (by simp;lia)
    rcases List.mem_append.mp F with F|F
    ·exact Z x F
    ·rw[List.mem_singleton.mp F];exact oc_2 (by decide) (YaF _) λ_ h=>nomatch h
   ·exact pt_l (n6.sa _ _ (n5.sa _ _ n4.at)) Z (by lia)
  have g6:=n6.at
  have f5:=(f3.new n4).new n5;have f6:=f5.new n6;have s6:Sa G2 G6:=n3.sa.trans (n4.sa.trans (n5.sa.trans n6.sa));have ja:(os++[U.tup (cs++[.tup [.int 0,.tup []]]),.loc p4]).length=5:=by rw[Yat,ol];rfl
  generalize os++[U.tup (cs++[.tup [.int 0,.tup []]]),.loc p4]=os2 at o2 g6 ja;simp! only[jbt];by_cases c6:y=6
  ·rw[if_pos (by simpa using c6)]
   have Y:∀{G:Gp},∀x∈R.map jaf,Rw G x:=λx F=>by
    obtain⟨v,J,rfl⟩:=List.mem_map.mp F;refine Ce.row (λt ht=>?_) (by rw[Yaa,hR.2 v J];have:=I.x8;lia)
    obtain⟨z,hz,rfl⟩:=List.mem_map.mp ht;have:=hR.3 v J z hz;exact Tk.int (Yar (show z.natAbs<1000 by lia) (by decide)) (by decide)
   have rl:(R.map jaf).length<=12:=by rw[Yaa,hR.1];exact I.m2
   have ch:∀{G:Gp},Co G (.tup cs):=jmr hc (by lia)
   have O:∀{G:Gp},Co G (tbU R):=joG hR I.m2 I.x8;unfold tbU at O ⊢;have cm:∀{lo hi:Option Int},∀x∈cut (R.map jaf) lo hi,x∈R.map jaf:=λx F=>YaQ (YaP F);have k1:∀{lo hi:Option Int},(cut (R.map jaf) lo hi).length<=12:=Yaf (ji5 _ _ _) rl;generalize R.map jaf=T1 at Y rl O cm k1;have a1:=k1 (lo:=some 1) (hi:=none);have a2:=k1 (lo:=none) (hi:=some 1);simp! only[];refine⟨by decide,big _ (by lia),by decide,by decide,by decide,by decide,by decide,λp7 G7 n7=>?_⟩
   have o3:∀{G:Gp},∀u∈[U.tup [.tup (cut T1 (some 1) none),.tup cs],.tup [.tup (T1++cut T1 none (some 1)),.tup cs],.tup [.tup T1,.tup cs,.tup []],.tup [.tup T1]],Tg2 G u:=λu hu=>by
    simp only[Yap,Yak,or_false]at hu;rcases hu with rfl|rfl|rfl|rfl
    ·exact Co.two (Rw.tab (λx F=>Y x (cm x F)) (by lia)).co ch
    ·exact Co.two (Rw.tab (λx F=>(List.mem_append.mp F).elim (Y x) λh=>Y x (cm x h)) (by rw[Yat];lia)).co ch
    ·refine Co.tup (λu hu=>?_) (show 3<=3 by decide)
     simp only[Yap,Yak,or_false]at hu;rcases hu with rfl|rfl|rfl
     ·exact O
     ·exact ch
     ·exact jmr (λ_ h=>nomatch h) (YaF _)
    ·exact Co.tup (λu hu=>by rw[List.mem_singleton.mp hu];exact O) (show 1<=3 by decide)
   have g7:=n7.at
   have za:[U.tup [.tup (cut T1 (some 1) none),.tup cs],.tup [.tup (T1++cut T1 none (some 1)),.tup cs],.tup [.tup T1,.tup cs,.tup []],.tup [.tup T1]].length=4:=rfl;generalize [U.tup [.tup (cut T1 (some 1) none),.tup cs],.tup [.tup (T1++cut T1 none (some 1)),.tup cs],.tup [.tup T1,.tup cs,.tup []],.tup [.tup T1]]=os3 at o3 g7 za;refine jac (k:=k+2) (f6.new n7) (by decide) (by decide) λz G8 a8 b8 f8 s8=>?_
   exact jbR (s8 _ _ (f6.away n7).1 g7) a8 (by rw[za];exact b8) λu hu=>q u _ (o3 u hu) f8 (s1.trans (s2.trans ((s6.trans n7.sa).sm.trans s8)))
  ·rw[if_neg (by simpa using c6)]
   refine jac (k:=k+2) f6 (by decide) (by decide) λz G8 a8 b8 f8 s8=>?_
   refine jbR (s8 _ _ (f5.away n6).1 g6) a8 (by rw[ja];exact b8) λu hu=>⟨by decide,?_⟩
   exact q _ _ (((co.sa s6).pt.sm f6 s8).two ((o2 u hu).sm f6 s8)) f8 (s1.trans (s2.trans (s6.sm.trans s8)))
 by_cases c5:y<5
 ·rw[if_pos (by simpa using c5)]
  by_cases ca:(j:Int)<cs.length
  ·rw[if_pos (by simpa using ca)]
   have ha:j<cs.length:=by lia
   rw[ix_t (jaO (Yah ha))];obtain⟨g,row,eg,hg,hr,hs⟩:=hc _ (YaM ha);rw[eg];refine jec (k:=k+1) I hg hr hs f2 λu G3 h3 f3 s3=>?_;rw[show((j:Int)+1)=((j+1:Nat):Int) by lia,jb9,jaX]
   refine⟨by decide,big _ (by simp;lia),big _ (by simp;lia),by decide,q _ _ ((co.sm f2 s3).pt.two (pt_t (λv J=>?_) (by simp;lia))) f3 (s1.trans (s2.trans s3))⟩
   rcases List.mem_append.mp J with J|J
   ·rcases List.mem_append.mp J with J|J
    ·exact Z v (YaP J)
    ·rw[List.mem_singleton.mp J];exact h3
   ·exact Z v (YaQ J)
  ·rw[if_neg (by simpa using ca)]
   exact tail
 ·rw[if_neg (by simpa using c5)]
  exact tail
end


def Tg3  (G:Gp)(u:U):Prop:=Tk G 16000000 8 u/\szU u
def jny  (I:TbOk m W R)(m2:m<=12)(Z:W<=8)(hc:∀u∈cs,Cn 96 u)(J:cs.length<=96):Lw [2,96,8,96] (.tup [tbU R,.tup cs]):=by
 refine⟨_,rfl,Yac 2,λx F=>.inl ?_⟩;simp only[Yap,Yak,or_false]at F;rcases F with rfl|rfl
 ·refine⟨R.map jaf,rfl,by rw[Yaa,I.1];lia,λx F=>.inl ?_⟩
  obtain⟨y,L,rfl⟩:=List.mem_map.mp F;refine⟨y.map .int,rfl,by rw[Yaa,I.2 y L];exact Z,λz j=>.inr ?_⟩
  obtain⟨v,Y,rfl⟩:=List.mem_map.mp j;have:=I.3 y L v Y;exact⟨v,rfl,by lia,by lia⟩
 ·refine⟨cs,rfl,J,λx F=>.inl ?_⟩;obtain⟨g,row,rfl,hg,O,hs⟩:=hc x F;refine⟨_,rfl,show 2<=8 by decide,λz j=>?_⟩
  simp only[Yap,Yak,or_false]at j;rcases j with rfl|rfl
  ·exact .inr ⟨g,rfl,by lia,by lia⟩
  ·refine .inl ⟨row.map nI,rfl,by rw[Yaa];exact O,λz j=>.inr ?_⟩
   obtain⟨n,hn,rfl⟩:=List.mem_map.mp j;have:=hs n hn;exact⟨n,rfl,by lia,by lia⟩
def law_2a  {w: Wd}(I:w.Ok)(L:jaL w.ss w.bs w.P w.wt ys)(j:Tg3 G u) 
  (q:∀o8 Y,Sa G Y->K [some (.loc a),some (.loc f),o2,some w.u,o4,o5,o6,some u,o8] Y) :
  jat T.gs (jab T (k+9)) jbL ⟨K,Z,X'⟩ [some (.loc a),some (.loc f),o2,some w.u,o4,o5,o6,some u,o8] G:=by
 obtain⟨z,O⟩:=j.1.repr (by decide) (by decide)
 obtain⟨d,hd,_⟩:=id j.1;obtain⟨r,F⟩:=jpM w u;obtain⟨z2,y⟩:=(joh (G:=G) I F).repr (by decide) (by decide)
 simp! only[jbL];refine O _ _ Sa.refl ?_;simp! only[jcE];refine jf8 (k:=k+3) I L hd j.2 F λG2 s2=>?_;simp! only[];refine y _ _ s2 ?_;simp! only[];refine jf9 (k:=k+6) I L (j.1.tg.sa s2) (by decide) j.2 F λG3 J=>?_
 simp! only[];refine y _ _ (s2.trans J) ?_;simp! only[];rw[if_neg (by simp)]
 refine O _ _ (s2.trans J) ?_;simp! only[];rw[if_neg (by simp)]
 exact q _ _ (s2.trans J)
def Kq  (a f c:Addr)(K:Sg->Gp->Prop):Prop:=∀o2 o3 o4 o5 o6 o7 o8 j,Fd j f c->K [some (.loc a),some (.loc f),o2,o3,o4,o5,o6,o7,o8] j
def law_3  {w: Wd}(j:w.Ok)(Y:jaL w.ss w.bs w.P w.wt ys)(L:TbOk w.m w.xs.length R)(J:∀u∈cs,Cn 96 u)(cl:cs.length=(spts R w.m w.xs.length).length)(hf:Fd G f c)(q:Kq a f c K) :
  jat T.gs (jab T (k+9)) jcZ ⟨K,Q',X'⟩ [some (.loc a),some (.loc f),o2,some w.u,o4,some (.tup [tbU R,.tup cs]),o6,o7,o8] G:=by
 have xa:=jaz (t:=R) j.m2 j.x8;simp! only[jcZ];refine⟨by decide,by decide,?_⟩
 refine jav (λ_ y G'=>(∃o6 o7 o8,y=[some (.loc a),some (.loc f),o2,some w.u,o4,some (.tup [tbU R,.tup cs]),o6,o7,o8])/\Fd G' f c) ?_ ?_ ⟨⟨_,_,_,rfl⟩,hf⟩
 ·rintro y Z ⟨⟨o6,o7,o8,rfl⟩,f1⟩;exact⟨trivial,q _ _ _ _ _ _ _ _ f1⟩
 ·rintro i x y Z KK hx ⟨⟨o6,o7,o8,rfl⟩,f1⟩ hk;obtain⟨hi,rfl⟩:=jaC hx;refine⟨trivial,?_⟩;simp! only[];refine jfm (k:=k+5) j L J cl f1 λu G2 O F s2=>?_;simp! only[jcF];split
  ·refine jis [2,96,8,96] (k:=k+2) (by decide) (by decide) (jny L j.m2 j.x8 J (by lia)) F λu G3 I f3 s3=>?_
   simp! only[];exact law_2a (k:=k) j Y ⟨I.1.mono (by decide) (by decide),I.2.sz⟩ λo8 G4 z=>hk _ _ ⟨⟨_,_,_,rfl⟩,f3.sa z⟩
  ·exact law_2a (k:=k) j Y ⟨O.1.mono (by decide) (by decide),O.2⟩ λo8 G4 z=>hk _ _ ⟨⟨_,_,_,rfl⟩,F.sa z⟩
def law_turn  (hf:Fd G f c)(q:Kq a f c K):jat T.gs (jab T (k+9)) (.cons (.asg (.n 3) (.call jcy (.cons (.v 1) .nil))) jc0) ⟨K,Q',X'⟩ [some (.loc a),some (.loc f),o2,o3,o4,o5,o6,o7,o8] G:=by
 simp! only[];refine jjP (k:=k+4) hf λw G1 j J s1=>?_;have x8:=j.x8;have Y:=j.m2;obtain⟨ys,y⟩:=jkh (wt:=w.wt) j.so j.bl j.bb j.ww;have O:0<w.P:=by have:=j.p1;lia
 have I:=je8 O j.p6 j.so j.bb y;obtain⟨R,F⟩:=jia I Y x8 ((95904-tot (ini w.m w.xs.length w.gv)).toNat+1) _ (jkQ j.gg) (by lia)
 have z:=Runs.lst I j.gg F;simp! only[jc0];refine jdH (k:=k+7) j y F λG2 s2=>?_;simp! only[jeg];refine jeT (k:=k+6) j y z (J.sa s2) λp cs G3 hl Z np L f3 s3=>?_;simp! only[it_l L];refine⟨by decide,?_⟩
 exact law_3 (k:=k) j y z.ok Z hl f3 q
def law_ir   a (ns:List Int)(I:ns.length<=63):jab T 300 jl2 [.loc a] (G0 a ns) (λu _=>u=.bl true) λ_ _=>False:=by
 refine⟨rfl,?_⟩;simp! only[joB,jah,Yag];refine jlX (k:=298) (show G0 a ns a=some (.fro (ns.map .int))from if_pos rfl) I λf c J F=>?_;simp! only[jh0];refine⟨by decide,by decide,?_⟩
 refine jav (λ_ j y=>(∃o2 o3 o4 o5 o6 o7 o8,j=[some (.loc a),some (.loc f),o2,o3,o4,o5,o6,o7,o8])/\Fd y f c) ?_ ?_ ⟨⟨_,_,_,_,_,_,_,rfl⟩,F⟩
 ·rintro j z ⟨_,_⟩;exact⟨trivial,trivial⟩
 ·rintro i x j z K L ⟨⟨o2,o3,o4,o5,o6,o7,o8,rfl⟩,f2⟩ hk;exact⟨trivial,law_turn (k:=290) f2 λo2 o3 o4 o5 o6 o7 o8 y h=>hk _ _ ⟨⟨_,_,_,_,_,_,_,rfl⟩,h⟩⟩

def sts  : List Stmt:=[s_is_whole,s_is_within,s_length_of,s_buffer_of,s_step_of,s_is_late_row,s_is_table,s_late_places,s_is_late_paper,s_span_holds,s_led_to,s_is_chain,s_lets_late,s_law_feed,s_law_draw,s_law_names,s_law_cycle,s_law_number,s_law_span,s_law_plan,s_law_beats,s_law_leg,s_law_world,s_law_lateness,s_law_is_whole,s_law_spots,s_law_is_table,s_law_is_led,s_law_late_due,s_law_late_let,s_law_order,s_law_chains,s_law_odd,s_law_bent,s_law_other_table,s_law_other_chain,s_law_otherwise,s_law]
def prog_rep  : jeM T 0 T.funs sts=true:=by decide +kernel
def prog_eq  : jfg T sts 0 T.funs sts:=⟨rfl,rfl,rfl,rfl,rfl,rfl,rfl,rfl,rfl,rfl,rfl,rfl,rfl,rfl,rfl,rfl,rfl,rfl,rfl,rfl,rfl,rfl,rfl,rfl,rfl,rfl,rfl,rfl,rfl,rfl,rfl,rfl,rfl,rfl,rfl,rfl,rfl,rfl,trivial⟩
def tabsU  : ∀t∈tabs,∀t'∈tabs,t.1=t'.1->t=t':=λt h=>(nomatch (show t∈[]from h))
noncomputable def tbs  : List (Str×Addr×Addr):=[]
def walk  {l:Yd7}{K:Params->Yae}(Y:l.most=some 63)(j:d.params.defaults=[])
  (O:∀(w:World) (h:Heap),YP w h->(K w.params).In h) (Z:∀w:World,((K w.params).all λp=>p.2.cls != .type "list")=true) (y:∀w:World,∃o,(K w.params).lookup Ya6=some o/\o.cls=.type "dict")
  (hT:∀(w:World),∀t∈tbs,(∃dr,(PyProof.Rows.recsOf q).find? (λe=>e.name==t.1)=some dr)/\PySem.W.tabIn (K w.params) t.1=some (t.2.1,t.2.2)/\(K w.params).lookup t.2.2=none)
  (F:∀(w:World) mg fa (h:Heap),(K w.params).In h->h.Ns YaJ mg->mg d.name=some (.ref fa)->
   ∃I ,(∀(s:Shared) u ,BindsTo s I ⟨[u],[]⟩ [("_law_script",u)])/\∀base ,(K w.params).In base->base.Ns YaJ mg->BmAt mg base->FnOk l.prog w (K w.params) mg base (CX1 l.prog w) 302 fa I ["_law_script"] (lSp (K w.params) (jab T 300 jl2))) :
  Ygn q loose XP YP l.row.toRowW d [] (λf vs=>YfP f vs):=
 L2.walk_ofT (n:=63) (k:=302) (x := "_law_script") (CX:=λw=>CX1 l.prog w) (sp:=λw=>lSp (K w.params) (jab T 300 jl2)) Z hT Y (by decide) j ⟨rfl,by decide,by decide,rfl⟩ O y F (λw _ _ a J hl L hS=>law_sp (by decide) L hS (law_ir a J hl)) λ_ _ _ _ _ ⟨_,_,_,_,_,_,_,_,_,_,z⟩=>z
end Z
namespace Y
open PySem L2
set_option maxHeartbeats 0
noncomputable def q0  : Str := "/claim/cut.py"
noncomputable def q1  : Str := "<module>"
noncomputable def q2  : Str := "__main__"
noncomputable def q3  : Str := "TooMany"
noncomputable def q4  : Str := "__init__"
noncomputable def q5  : Str := "NoRing.__init__"
noncomputable def q6  : Str := "beatplans.errors"
noncomputable def q7  : Str := "NoRing"
noncomputable def q8  : Str := "NoPaper.__init__"
noncomputable def q9  : Str := "__module__"
noncomputable def q10  : Str := "__firstlineno__"
noncomputable def q11  : Str := "__static_attributes__"
noncomputable def q12  : Str := "__weakref__"
noncomputable def q13  : Str := "__doc__"
noncomputable def q14  : Str := "self"
noncomputable def q15  : Str := "word"
noncomputable def q16  : Str := "TooMany.__init__"
noncomputable def q17  : Str := "__name__"
noncomputable def q18  : Str := "__package__"
noncomputable def q19  : Str := "__loader__"
noncomputable def q20  : Str := "__spec__"
noncomputable def q21  : Str := "__annotations__"
noncomputable def q22  : Str := "__builtins__"
noncomputable def q23  : Str := "__file__"
noncomputable def q24  : Str := "__cached__"
noncomputable def q25  : Str := "PlanError"
noncomputable def q26  : Str := "NoPaper"
noncomputable def q27  : Str := "__qualname__"
noncomputable def q28  : Str := "at"
noncomputable def q29  : Str := "is_whole"
noncomputable def q30  : Str := "led_to"
noncomputable def q31  : Str := "beatplans.latechecker"
noncomputable def q32  : Str := "length_of"
noncomputable def q33  : Str := "beatplans.plans"
noncomputable def q34  : Str := "thing"
noncomputable def q35  : Str := "works"
noncomputable def q36  : Str := "many"
noncomputable def q37  : Str := "table"
noncomputable def q38  : Str := "chains"
noncomputable def q39  : Str := "is_within"
noncomputable def q40  : Str := "is_table"
noncomputable def q41  : Str := "NoText"
noncomputable def q42  : Str := "span_holds"
noncomputable def q43  : Str := "row"
noncomputable def q44  : Str := "_law_feed"
noncomputable def q45  : Str := "is_late_paper"
noncomputable def q46  : Str := "NoRow.__init__"
noncomputable def q47  : Str := "plan"
noncomputable def q48  : Str := "period"
noncomputable def q49  : Str := "beats"
noncomputable def q50  : Str := "s"
noncomputable def q51  : Str := "one"
noncomputable def q52  : Str := "other"
noncomputable def q53  : Str := "low"
noncomputable def q54  : Str := "high"
noncomputable def q55  : Str := "lets_late"
noncomputable def q56  : Str := "late_places"
noncomputable def q57  : Str := "step_of"
noncomputable def q58  : Str := "waiting"
noncomputable def q59  : Str := "start"
noncomputable def q60  : Str := "work"
noncomputable def q61  : Str := "turn"
noncomputable def q62  : Str := "late"
noncomputable def q63  : Str := "law_beatplans_k63_papers_of_lateness_bent"
noncomputable def q64  : Str := "NoRow"
noncomputable def q65  : Str := "buffer_of"
noncomputable def q66  : Str := "MOST_ROW"
noncomputable def q67  : Str := "is_late_row"
noncomputable def q68  : Str := "is_chain"
noncomputable def q69  : Str := "NoText.__init__"
noncomputable def q70  : Str := "given"
noncomputable def q71  : Str := "k"
noncomputable def q72  : Str := "place"
noncomputable def q73  : Str := "beatplans.late"
noncomputable def q74  : Str := "_law_script"
noncomputable def q75  : Str := "least"
noncomputable def q76  : Str := "most"
noncomputable def q77  : Str := "g"
noncomputable def q78  : Str := "_law_beats"
noncomputable def q79  : Str := "_law_feed_here"
noncomputable def q80  : Str := "_law_world_here"
noncomputable def q81  : Str := "_law_paper"
noncomputable def q82  : Str := "_law_table"
noncomputable def q83  : Str := "_law_chains_here"
noncomputable def q84  : Str := "_law_way"
noncomputable def q85  : Str := "_law_at"
noncomputable def q86  : Str := "_law_pair"
noncomputable def q87  : Str := "_law_some"
noncomputable def q88  : Str := "_law_names"
noncomputable def q89  : Str := "_law_bent"
noncomputable def q90  : Str := "_law_late_due"
noncomputable def q91  : Str := "_law_leg"
noncomputable def q92  : Str := "_law_odd"
noncomputable def q93  : Str := "_law_cycle"
noncomputable def q94  : Str := "_law_is_whole"
noncomputable def q95  : Str := "_law_many"
noncomputable def q96  : Str := "_law_cell"
noncomputable def q97  : Str := "_law_mixed"
noncomputable def q98  : Str := "_law_found"
noncomputable def q99  : Str := "_law_is_table"
noncomputable def q100  : Str := "_law_otherwise"
noncomputable def q101  : Str := "_law_other_table"
noncomputable def q102  : Str := "_law_span"
noncomputable def q103  : Str := "_law_world"
noncomputable def q104  : Str := "_law_other_chain"
noncomputable def q105  : Str := "_law_draw"
noncomputable def q106  : Str := "_law_order"
noncomputable def q107  : Str := "_law_plan"
noncomputable def q108  : Str := "_law_number"
noncomputable def q109  : Str := "_law_lateness"
noncomputable def q110  : Str := "_law_spots"
noncomputable def q111  : Str := "_law_is_led"
noncomputable def q112  : Str := "_law_late_let"
noncomputable def q113  : Str := "_law_chains"
noncomputable def q114  : Str := "law"
noncomputable def q115  : Str := "_law_one"
noncomputable def q116  : Str := "_law_other"
noncomputable def q117  : Str := "_law_cycle_here"
noncomputable def q118  : Str := "_law_low"
noncomputable def q119  : Str := "_law_more"
noncomputable def q120  : Str := "_law_things"
noncomputable def q121  : Str := "_law_left"
noncomputable def q122  : Str := "_law_thing"
noncomputable def q123  : Str := "_law_chain"
noncomputable def q124  : Str := "_law_plan_here"
noncomputable def q125  : Str := "_law_beats_here"
noncomputable def q126  : Str := "_law_waiting"
noncomputable def q127  : Str := "_law_given"
noncomputable def q128  : Str := "_law_g"
noncomputable def q129  : Str := "_law_row"
noncomputable def q130  : Str := "_law_spans"
noncomputable def q131  : Str := "_law_span_here"
noncomputable def q132  : Str := "_law_works"
noncomputable def q133  : Str := "_law_names_here"
noncomputable def q134  : Str := "_law_k"
noncomputable def q135  : Str := "_law_s"
noncomputable def q136  : Str := "_law_word"
noncomputable def q137  : Str := "_law_high"
noncomputable def q138  : Str := "_law_step"
noncomputable def q139  : Str := "e"
noncomputable def q140  : Str := "_law_others"
noncomputable def q141  : Str := "_law_due"
noncomputable def q142  : Str := "_law_work"
noncomputable def q143  : Str := "_law_turn"
noncomputable def q144  : Str := "_law_number_here"
noncomputable def q145  : Str := "_law_spare"
noncomputable def q146  : Str := "_law_own"
noncomputable def q147  : Str := "_law_kept"
noncomputable def h0  : List Value:=[]
def o0  : Obj:=sO .none h0
def o1  : Obj:=kO q0 q1 q1 182 1 0 0 11 false .none .none .none 185
def o2  : Obj:=rO [(some (.ref 13)),(some (.ref 3)),(some (.ref 3)),none,(some (.str q2 164)),none,(some (.ref 0))]
def o3  : Obj:=cO q3 [(.ref 24)] [(.ref 63),(.ref 24),(.type "ValueError"),(.type "Exception"),(.type "BaseException"),(.type "object")] 62 [] [(some (.ref 47)),none,(some (.str q3 234)),(some (.str q3 242)),(some (.builtin "ValueError.__new__")),(some (.bool true))]
def o4  : Obj:=fO q4 q5 (jaI (Z.top 4) 0) (.str q6 187) 78
def o5  : Obj:=tO [(.ref 24)]
def o6  : Obj:=tO [(.type "ValueError")]
def o7  : Obj:=kO q0 q7 q7 261 13 0 0 69 false .none .none .none 264
def o8  : Obj:=gO q4 q8 (jaI (Z.top 2) 0)
def o9  (P:Params):Obj:=dO (dE P q9 196 (.str q6 187)::dE P q10 200 (.int 2 199)::dE P q11 201 (.ref 22)::dE P q12 203 (.ref 25)::dE P q13 204 .none::[]) 3
def o10  : Obj:=sO (.type "builtin_function_or_method") [(.builtin "type.__prepare__"),(.type "type")]
def o11  : Obj:=sO (.type "super") [(.ref 82),(.ref 82),(.ref 82)]
def o12  : Obj:=sO .none [(.int 11 0),(.int 4 0),(.ref 59)]
def o13  : Obj:=tO [(.str q14 274),(.str q15 275)]
def o14  (P:Params):Obj:=dO (dE P q9 214 (.str q6 187)::dE P q10 218 (.int 4 217)::dE P q4 227 (.ref 41)::dE P q11 230 (.ref 42)::dE P q13 231 .none::[]) 2
def o15  : Obj:=kO q0 q4 q16 246 11 2 3 54 true (.ref 56) (.ref 57) (.ref 58) 251
def o16  : Obj:=sO (.type "builtin_function_or_method") [(.builtin "object.__init_subclass__"),(.ref 24)]
def g18  (P:Params):List Yeo:=dE P q13 166 .none::dE P q18 167 .none::dE P q19 168 (.builtin "__main__.__loader__#opaque")::dE P q20 169 .none::dE P q21 170 (.ref 6)::dE P q22 171 (.ref 4)::dE P q23 173 (.str q0 172)::dE P q24 174 .none::dE P q25 206 (.ref 24)::dE P q26 233 (.ref 44)::dE P q3 258 (.ref 63)::dE P q7 283 (.ref 82)::[]
def o17  (P:Params):Obj:=dO (dE P q17 165 (.str q6 187)::g18 P) 13
def o18  : Obj:=sO (.type "builtin_function_or_method") [(.builtin "object.__init_subclass__"),(.ref 63)]
def o19  : Obj:=kO q0 q26 q26 209 4 0 0 31 false .none .none .none 212
def o20  (P:Params):Obj:=dO (dE P q9 266 (.str q6 187)::dE P q10 270 (.int 13 269)::dE P q4 278 (.ref 79)::dE P q11 280 (.ref 80)::dE P q13 281 .none::[]) 2
def o21  (P:Params):Obj:=dO (dE P q9 241 (.str q6 187)::dE P q27 243 (.str q3 242)::dE P q10 245 (.int 9 244)::dE P q4 253 (.ref 60)::dE P q11 255 (.ref 61)::[]) 5
def o22  (P:Params):Obj:=dO (dE P q9 196 (.str q6 187)::dE P q27 198 (.str q25 197)::dE P q10 200 (.int 2 199)::dE P q11 201 (.ref 22)::[]) 4
def o23  : Obj:=fO q4 q8 (jaI (Z.top 2) 0) (.str q6 187) 40
def o24  : Obj:=sO (.type "getset_descriptor") [(.str q12 202),(.ref 24),(.builtin "ExceptionGroup.__weakref__"),.none]
def o25  : Obj:=tO [(.str q14 222),(.str q15 223),(.str q28 224)]
def o26  : Obj:=rO [(some (.ref 52)),(some (.ref 3)),(some (.ref 49)),none,(some (.str q6 187)),none,(some (.ref 0))]
def o27  : Obj:=rO [(some (.ref 20)),(some (.ref 3)),(some (.ref 17)),none,(some (.str q6 187)),none,(some (.ref 0))]
def o28  : Obj:=gO q4 q5 (jaI (Z.top 4) 0)
def o29  : Obj:=sO (.type "super") [(.ref 44),(.ref 44),(.ref 44)]
def o30  : Obj:=tO [(.str q15 254)]
def o31  : Obj:=sO (.type "super") [(.ref 63),(.ref 63),(.ref 63)]
def o32  : Obj:=sO .none [(.int 6 0),(.int 4 0),(.ref 40)]
def o33  : Obj:=tO [(.str q15 279)]
def o34  : Obj:=rO [(some (.ref 71)),(some (.ref 3)),(some (.ref 68)),none,(some (.str q6 187)),none,(some (.ref 0))]
def o35  : Obj:=kO q0 q4 q8 219 6 3 3 35 true (.ref 37) (.ref 38) (.ref 39) 225
def o36  : Obj:=tO [(.str q14 249),(.str q15 250)]
def o37  : Obj:=cO q25 [(.type "ValueError")] [(.ref 24),(.type "ValueError"),(.type "Exception"),(.type "BaseException"),(.type "object")] 23 [(.ref 44),(.ref 63),(.ref 82)] [(some (.ref 15)),none,(some (.str q25 189)),(some (.str q25 197)),(some (.builtin "ValueError.__new__")),(some (.bool true))]
def o38  (P:Params):Obj:=dO (dE P q9 266 (.str q6 187)::dE P q27 268 (.str q7 267)::dE P q10 270 (.int 13 269)::dE P q4 278 (.ref 79)::dE P q11 280 (.ref 80)::[]) 5
def o39  : Obj:=sO (.type "builtin_function_or_method") [(.builtin "object.__init_subclass__"),(.ref 82)]
def o40  : Obj:=kO q0 q3 q3 236 9 0 0 50 false .none .none .none 239
def o41  : Obj:=kO q0 q25 q25 191 2 0 0 18 false .none .none .none 194
def o42  : Obj:=cO q26 [(.ref 24)] [(.ref 44),(.ref 24),(.type "ValueError"),(.type "Exception"),(.type "BaseException"),(.type "object")] 43 [] [(some (.ref 28)),none,(some (.str q26 207)),(some (.str q26 215)),(some (.builtin "ValueError.__new__")),(some (.bool true))]
def o43  : Obj:=fO q4 q16 (jaI (Z.top 3) 0) (.str q6 187) 59
def h46  : List Value:=h0++[(.int 2 0),(.int 0 0),(.ref 20),(.int 4 0),(.int 0 0),(.ref 33),(.int 9 0),(.int 0 0),(.ref 52),(.int 13 0),(.int 0 0),(.ref 71)]
def o44  : Obj:=sO .none h46
def o45  : Obj:=rO [(some (.ref 33)),(some (.ref 3)),(some (.ref 30)),none,(some (.str q6 187)),none,(some (.ref 0))]
def o46  : Obj:=cO q7 [(.ref 24)] [(.ref 82),(.ref 24),(.type "ValueError"),(.type "Exception"),(.type "BaseException"),(.type "object")] 81 [] [(some (.ref 66)),none,(some (.str q7 259)),(some (.str q7 267)),(some (.builtin "ValueError.__new__")),(some (.bool true))]
def o47  : Obj:=tO [(.str q28 228),(.str q15 229)]
def o48  : Obj:=gO q4 q16 (jaI (Z.top 3) 0)
def o49  : Obj:=sO (.type "super") [(.ref 24),(.ref 24),(.ref 24)]
def o50  : Obj:=sO .none [(.int 15 0),(.int 4 0),(.ref 78)]
def o51  : Obj:=kO q0 q4 q5 271 15 2 3 73 true (.ref 75) (.ref 76) (.ref 77) 276
def o52  : Obj:=sO (.type "builtin_function_or_method") [(.builtin "object.__init_subclass__"),(.ref 44)]
def o53  (P:Params):Obj:=dO (dE P q9 241 (.str q6 187)::dE P q10 245 (.int 9 244)::dE P q4 253 (.ref 60)::dE P q11 255 (.ref 61)::dE P q13 256 .none::[]) 2
def o54  (P:Params):Obj:=dO (dE P q9 214 (.str q6 187)::dE P q27 216 (.str q26 215)::dE P q10 218 (.int 4 217)::dE P q4 227 (.ref 41)::dE P q11 230 (.ref 42)::[]) 5
def o55  : Obj:=gO q29 q29 (Z.top 8)
def o56  : Obj:=fO q30 q30 (Z.top 21) (.str q31 396) 190
def o57  : Obj:=fO q32 q32 (Z.top 10) (.str q33 336) 142
def o58  : Obj:=tO [(.str q34 421),(.str q35 422),(.str q36 423),(.str q37 424),(.str q38 425)]
def o59  : Obj:=kO q0 q39 q39 345 29 3 3 130 true (.ref 132) (.ref 133) (.ref 134) 351
def o60  : Obj:=fO q40 q40 (Z.top 17) (.str q31 396) 166
def o61  : Obj:=sO (.type "builtin_function_or_method") [(.builtin "object.__init_subclass__"),(.ref 101)]
def o62  (P:Params):Obj:=dO (dE P q9 291 (.str q6 187)::dE P q27 293 (.str q41 292)::dE P q10 295 (.int 17 294)::dE P q4 304 (.ref 98)::dE P q11 307 (.ref 99)::[]) 5
def o63  : Obj:=kO q0 q42 q42 429 57 6 3 180 true .none .none (.ref 182) 432
def o64  (P:Params):Obj:=dO (dE P q9 318 (.str q6 187)::dE P q10 322 (.int 22 321)::dE P q4 330 (.ref 117)::dE P q11 332 (.ref 118)::dE P q13 333 .none::[]) 2
def o65  : Obj:=tO [(.str q43 305),(.str q15 306)]
def o66  : Obj:=kO q0 q44 q44 489 93 1 3 206 true (.ref 208) (.ref 209) (.ref 210) 493
def o67  : Obj:=fO q45 q45 (Z.top 19) (.str q31 396) 178
def o68  : Obj:=gO q4 q46 (jaI (Z.top 6) 0)
def o69  : Obj:=tO [(.str q47 357),(.str q48 358),(.str q49 359),(.str q50 360),(.str q15 361),(.str q51 362),(.str q52 363),(.str q53 364),(.str q54 365)]
def o70  : Obj:=gO q55 q55 (Z.top 23)
def o71  : Obj:=kO q0 q56 q56 412 50 1 3 168 true .none .none (.ref 170) 415
def o72  : Obj:=gO q57 q57 (Z.top 13)
def o73  : Obj:=rO [(some (.ref 90)),(some (.ref 3)),(some (.ref 87)),none,(some (.str q6 187)),none,(some (.ref 0))]
def o74  : Obj:=tO [(.str q47 438),(.str q48 439),(.str q49 440),(.str q58 441),(.str q59 442),(.str q43 443),(.str q60 444),(.str q61 445),(.str q62 446),(.str q50 447)]
def g78  (P:Params):List Yeo:=g18 P++[dE P q41 310 (.ref 101),dE P q64 335 (.ref 120),dE P q29 344 (.ref 129),dE P q39 353 (.ref 136),dE P q32 368 (.ref 143),dE P q65 380 (.ref 150),dE P q57 395 (.ref 157),dE P q66 399 (.int 100 398),dE P q67 405 (.ref 162),dE P q40 411 (.ref 167),dE P q56 417 (.ref 172),dE P q45 428 (.ref 179),dE P q42 434 (.ref 184),dE P q30 450 (.ref 191),dE P q68 465 (.ref 198),dE P q55 486 (.ref 205),dE P q44 495 (.ref 212)]
def o75  (P:Params):Obj:=dO (dE P q17 165 (.str q63 487)::g78 P) 30
def o76  : Obj:=fO q29 q29 (Z.top 8) (.str q33 336) 128
def o77  : Obj:=kO q0 q67 q67 400 42 2 3 158 true .none .none (.ref 160) 403
def o78  : Obj:=kO q0 q4 q69 296 19 3 3 92 true (.ref 94) (.ref 95) (.ref 96) 302
def o79  : Obj:=gO q45 q45 (Z.top 19)
def o80  : Obj:=tO [(.str q14 326),(.str q43 327)]
def o81  : Obj:=tO [(.str q47 469),(.str q48 470),(.str q49 471),(.str q58 472),(.str q70 473),(.str q36 474),(.str q34 475),(.str q37 476),(.str q38 477),(.str q71 478),(.str q60 479),(.str q61 480),(.str q62 481),(.str q50 482),(.str q72 483)]
def o82  : Obj:=tO [(.str q47 384),(.str q48 385),(.str q49 386),(.str q50 387),(.str q15 388),(.str q51 389),(.str q52 390),(.str q53 391),(.str q54 392)]
def o83  : Obj:=sO .none [(.int 19 0),(.int 4 0),(.ref 97)]
def o84  : Obj:=sO (.type "super") [(.ref 120),(.ref 120),(.ref 120)]
def o85  : Obj:=kO q0 q68 q68 451 71 7 3 192 true (.ref 194) (.ref 195) (.ref 196) 463
def o86  : Obj:=gO q40 q40 (Z.top 17)
def o87  : Obj:=cO q41 [(.ref 24)] [(.ref 101),(.ref 24),(.type "ValueError"),(.type "Exception"),(.type "BaseException"),(.type "object")] 100 [] [(some (.ref 85)),none,(some (.str q41 284)),(some (.str q41 292)),(some (.builtin "ValueError.__new__")),(some (.bool true))]
def o88  : Obj:=kO q0 q65 q65 371 35 4 3 144 true (.ref 146) (.ref 147) (.ref 148) 378
def o89  : Obj:=fO q4 q46 (jaI (Z.top 6) 0) (.str q6 187) 116
def o90  : Obj:=gO q32 q32 (Z.top 10)
def o91  : Obj:=fO q55 q55 (Z.top 23) (.str q31 396) 204
def o92  : Obj:=kO q0 q64 q64 313 22 0 0 107 false .none .none .none 316
def o93  : Obj:=fO q57 q57 (Z.top 13) (.str q73 369) 156
def o94  : Obj:=gO q30 q30 (Z.top 21)
def o95  : Obj:=tO [(.str q34 341)]
def o96  : Obj:=kO q0 q29 q29 338 27 1 3 123 true (.ref 125) (.ref 126) (.ref 127) 342
def o97  : Obj:=gO q67 q67 (Z.top 16)
def o98  : Obj:=gO q4 q69 (jaI (Z.top 5) 0)
def o99  : Obj:=tO [(.str q74 492)]
def o100  : Obj:=fO q39 q39 (Z.top 9) (.str q33 336) 135
def o101  : Obj:=fO q42 q42 (Z.top 20) (.str q31 396) 183
def o102  : Obj:=cO q64 [(.ref 24)] [(.ref 120),(.ref 24),(.type "ValueError"),(.type "Exception"),(.type "BaseException"),(.type "object")] 119 [] [(some (.ref 104)),none,(some (.str q64 311)),(some (.str q64 319)),(some (.builtin "ValueError.__new__")),(some (.bool true))]
def o103  : Obj:=cO q25 [(.type "ValueError")] [(.ref 24),(.type "ValueError"),(.type "Exception"),(.type "BaseException"),(.type "object")] 23 [(.ref 44),(.ref 63),(.ref 82),(.ref 101),(.ref 120)] [(some (.ref 15)),none,(some (.str q25 189)),(some (.str q25 197)),(some (.builtin "ValueError.__new__")),(some (.bool true))]
def o104  : Obj:=tO [(.str q34 348),(.str q75 349),(.str q76 350)]
def o105  : Obj:=gO q68 q68 (Z.top 22)
def o106  (P:Params):Obj:=dO (dE P q9 291 (.str q6 187)::dE P q10 295 (.int 17 294)::dE P q4 304 (.ref 98)::dE P q11 307 (.ref 99)::dE P q13 308 .none::[]) 2
def o107  : Obj:=gO q65 q65 (Z.top 12)
def o108  : Obj:=fO q44 q44 (Z.top 25) (.str q63 487) 211
def o109  : Obj:=kO q0 q4 q46 323 24 2 3 111 true (.ref 113) (.ref 114) (.ref 115) 328
def o110  : Obj:=kO q0 q55 q55 466 78 7 3 199 true (.ref 201) (.ref 202) (.ref 203) 484
def o111  : Obj:=fO q56 q56 (Z.top 18) (.str q31 396) 171
def o112  : Obj:=sO .none [(.int 24 0),(.int 4 0),(.ref 116)]
def o113  : Obj:=kO q0 q57 q57 381 37 4 3 151 true (.ref 153) (.ref 154) (.ref 155) 393
def h118  : List Value:=h46++[(.int 17 0),(.int 0 0),(.ref 90),(.int 22 0),(.int 0 0),(.ref 109),(.int 27 0),(.int 0 0),(.ref 128),(.int 29 0),(.int 0 0),(.ref 135),(.int 31 0),(.int 0 0),(.ref 142),(.int 35 0),(.int 0 0),(.ref 149),(.int 37 0),(.int 0 0),(.ref 156),(.int 42 0),(.int 0 0),(.ref 161),(.int 46 0),(.int 0 0),(.ref 166),(.int 50 0),(.int 0 0),(.ref 171),(.int 52 0),(.int 0 0),(.ref 178),(.int 57 0),(.int 0 0),(.ref 183),(.int 62 0),(.int 0 0),(.ref 190),(.int 71 0),(.int 0 0),(.ref 197),(.int 78 0),(.int 0 0),(.ref 204),(.int 93 0),(.int 0 0),(.ref 211)]
def o114  : Obj:=sO .none h118
def o115  : Obj:=tO [(.str q47 454),(.str q48 455),(.str q49 456),(.str q58 457),(.str q70 458),(.str q72 459),(.str q34 460),(.str q77 461),(.str q43 462)]
def o116  : Obj:=fO q67 q67 (Z.top 16) (.str q31 396) 161
def o117  : Obj:=fO q4 q69 (jaI (Z.top 5) 0) (.str q6 187) 97
def o118  : Obj:=tO [(.str q47 374),(.str q48 375),(.str q49 376),(.str q50 377)]
def o119  : Obj:=gO q44 q44 (Z.top 25)
def o120  : Obj:=kO q0 q45 q45 418 52 3 3 173 true (.ref 175) (.ref 176) (.ref 177) 426
def o121  : Obj:=gO q56 q56 (Z.top 18)
def o122  (P:Params):Obj:=dO (dE P q9 318 (.str q6 187)::dE P q27 320 (.str q64 319)::dE P q10 322 (.int 22 321)::dE P q4 330 (.ref 117)::dE P q11 332 (.ref 118)::[]) 5
def o123  : Obj:=kO q0 q41 q41 286 17 0 0 88 false .none .none .none 289
def o124  : Obj:=sO (.type "builtin_function_or_method") [(.builtin "object.__init_subclass__"),(.ref 120)]
def o125  : Obj:=gO q39 q39 (Z.top 9)
def o126  : Obj:=fO q68 q68 (Z.top 22) (.str q31 396) 197
def o127  : Obj:=kO q0 q40 q40 406 46 3 3 163 true .none .none (.ref 165) 409
def o128  : Obj:=sO (.type "super") [(.ref 101),(.ref 101),(.ref 101)]
def o129  : Obj:=fO q65 q65 (Z.top 12) (.str q73 369) 149
def o130  : Obj:=gO q42 q42 (Z.top 20)
def o131  : Obj:=tO [(.str q43 331)]
def o132  : Obj:=kO q0 q32 q32 354 31 4 3 137 true (.ref 139) (.ref 140) (.ref 141) 366
def o133  : Obj:=rO [(some (.ref 109)),(some (.ref 3)),(some (.ref 106)),none,(some (.str q6 187)),none,(some (.ref 0))]
def o134  : Obj:=tO [(.str q14 299),(.str q43 300),(.str q15 301)]
def o135  : Obj:=kO q0 q30 q30 435 62 6 3 185 true (.ref 187) (.ref 188) (.ref 189) 448
def o136  : Obj:=gO q78 q78 (Z.top 32)
def o137  : Obj:=tO [(.str q79 714),(.str q80 715),(.str q81 716),(.str q82 717),(.str q83 718),(.str q84 719),(.str q85 720),(.str q86 721),(.str q87 722)]
def o138  : Obj:=kO q0 q88 q88 507 108 2 3 220 true .none .none (.ref 222) 510
def o139  : Obj:=kO q0 q89 q89 674 267 2 3 330 true (.ref 332) (.ref 333) (.ref 334) 681
def o140  : Obj:=fO q90 q90 (Z.top 40) (.str q63 487) 302
def o141  : Obj:=kO q0 q91 q91 559 146 4 3 258 true (.ref 260) (.ref 261) (.ref 262) 572
def o142  : Obj:=gO q92 q92 (Z.top 44)
def o143  : Obj:=fO q93 q93 (Z.top 28) (.str q63 487) 230
def o144  : Obj:=gO q94 q94 (Z.top 36)
def o145  : Obj:=tO [(.str q79 499),(.str q95 500),(.str q96 501),(.str q97 502),(.str q98 503)]
def o146  : Obj:=fO q99 q99 (Z.top 38) (.str q63 487) 290
def o147  : Obj:=fO q100 q100 (Z.top 48) (.str q63 487) 354
def o148  : Obj:=tO [(.str q79 516)]
def o149  : Obj:=gO q101 q101 (Z.top 46)
def o150  : Obj:=gO q102 q102 (Z.top 30)
def o151  : Obj:=gO q103 q103 (Z.top 34)
def o152  : Obj:=kO q0 q104 q104 690 289 3 3 342 true (.ref 344) (.ref 345) (.ref 346) 708
def o153  : Obj:=fO q105 q105 (Z.top 26) (.str q63 487) 218
def o154  : Obj:=gO q106 q106 (Z.top 42)
def o155  : Obj:=kO q0 q107 q107 541 134 2 3 246 true (.ref 248) (.ref 249) (.ref 250) 550
def g161  (P:Params):List Yeo:=g78 P++[dE P q105 506 (.ref 219),dE P q88 512 (.ref 224),dE P q93 519 (.ref 231),dE P q108 528 (.ref 238),dE P q102 540 (.ref 245),dE P q107 552 (.ref 252),dE P q78 558 (.ref 257),dE P q91 574 (.ref 264),dE P q103 580 (.ref 269),dE P q109 586 (.ref 274),dE P q94 593 (.ref 281),dE P q110 599 (.ref 286),dE P q99 605 (.ref 291),dE P q111 626 (.ref 298),dE P q90 632 (.ref 303),dE P q112 649 (.ref 310),dE P q106 659 (.ref 317),dE P q113 665 (.ref 322),dE P q92 673 (.ref 329),dE P q89 683 (.ref 336),dE P q101 689 (.ref 341),dE P q104 710 (.ref 348),dE P q100 725 (.ref 355),dE P q114 740 (.ref 362)]
def o156  (P:Params):Obj:=dO (dE P q17 165 (.str q63 487)::g161 P) 54
def o157  : Obj:=fO q78 q78 (Z.top 32) (.str q63 487) 256
def o158  : Obj:=kO q0 q113 q113 660 244 3 3 318 true .none .none (.ref 320) 663
def o159  : Obj:=gO q99 q99 (Z.top 38)
def o160  : Obj:=gO q100 q100 (Z.top 48)
def o161  : Obj:=kO q0 q109 q109 581 164 1 3 270 true .none .none (.ref 272) 584
def o162  : Obj:=tO [(.str q79 532),(.str q115 533),(.str q116 534),(.str q117 535),(.str q118 536),(.str q119 537)]
def o163  : Obj:=fO q92 q92 (Z.top 44) (.str q63 487) 328
def o164  : Obj:=kO q0 q111 q111 606 193 3 3 292 true (.ref 294) (.ref 295) (.ref 296) 624
def o165  : Obj:=kO q0 q114 q114 726 313 1 3 356 true (.ref 358) (.ref 359) (.ref 360) 738
def o166  : Obj:=fO q94 q94 (Z.top 36) (.str q63 487) 280
def o167  : Obj:=gO q105 q105 (Z.top 26)
def o168  : Obj:=tO [(.str q79 653),(.str q120 654),(.str q121 655),(.str q98 656)]
def o169  : Obj:=tO [(.str q79 669),(.str q87 670)]
def o170  : Obj:=gO q93 q93 (Z.top 28)
def o171  : Obj:=tO [(.str q122 590)]
def o172  : Obj:=fO q101 q101 (Z.top 46) (.str q63 487) 340
def o173  : Obj:=kO q0 q112 q112 633 227 2 3 304 true (.ref 306) (.ref 307) (.ref 308) 647
def o174  : Obj:=fO q102 q102 (Z.top 30) (.str q63 487) 244
def o175  : Obj:=fO q103 q103 (Z.top 34) (.str q63 487) 268
def o176  : Obj:=gO q90 q90 (Z.top 40)
def o177  : Obj:=kO q0 q108 q108 520 121 2 3 232 true (.ref 234) (.ref 235) (.ref 236) 526
def o178  : Obj:=kO q0 q110 q110 594 179 1 3 282 true .none .none (.ref 284) 597
def o179  : Obj:=fO q106 q106 (Z.top 42) (.str q63 487) 316
def o180  : Obj:=kO q0 q78 q78 553 144 3 3 253 true .none .none (.ref 255) 556
def o181  : Obj:=gO q113 q113 (Z.top 43)
def o182  : Obj:=fO q88 q88 (Z.top 27) (.str q63 487) 223
def o183  : Obj:=gO q109 q109 (Z.top 35)
def o184  : Obj:=fO q89 q89 (Z.top 45) (.str q63 487) 335
def o185  : Obj:=fO q91 q91 (Z.top 33) (.str q63 487) 263
def o186  : Obj:=kO q0 q92 q92 666 264 1 3 323 true (.ref 325) (.ref 326) (.ref 327) 671
def o187  : Obj:=gO q111 q111 (Z.top 39)
def o188  : Obj:=gO q114 q114 (Z.top 49)
def o189  : Obj:=kO q0 q94 q94 587 177 1 3 275 true (.ref 277) (.ref 278) (.ref 279) 591
def o190  : Obj:=tO [(.str q79 693),(.str q80 694),(.str q123 695),(.str q124 696),(.str q117 697),(.str q125 698),(.str q126 699),(.str q127 700),(.str q95 701),(.str q128 702),(.str q129 703),(.str q85 704),(.str q130 705),(.str q131 706),(.str q87 707)]
def o191  : Obj:=tO [(.str q79 544),(.str q117 545),(.str q132 546),(.str q133 547),(.str q130 548),(.str q134 549)]
def o192  : Obj:=tO [(.str q124 562),(.str q117 563),(.str q125 564),(.str q135 565),(.str q136 566),(.str q115 567),(.str q116 568),(.str q118 569),(.str q137 570),(.str q138 571)]
def o193  : Obj:=kO q0 q101 q101 684 279 3 3 337 true .none .none (.ref 339) 687
def o194  : Obj:=gO q112 q112 (Z.top 41)
def o195  : Obj:=kO q0 q102 q102 529 128 4 3 239 true (.ref 241) (.ref 242) (.ref 243) 538
def o196  : Obj:=kO q0 q103 q103 575 150 1 3 265 true .none .none (.ref 267) 578
def o197  : Obj:=tO [(.str q79 677),(.str q122 678),(.str q85 679),(.str q87 680)]
def o198  : Obj:=gO q108 q108 (Z.top 29)
def o199  : Obj:=gO q110 q110 (Z.top 37)
def o200  : Obj:=fO q104 q104 (Z.top 47) (.str q63 487) 347
def o201  : Obj:=kO q0 q106 q106 650 238 2 3 311 true (.ref 313) (.ref 314) (.ref 315) 657
def o202  : Obj:=fO q107 q107 (Z.top 31) (.str q63 487) 251
def h209  : List Value:=h118++[(.int 95 0),(.int 0 0),(.ref 218),(.int 108 0),(.int 0 0),(.ref 223),(.int 119 0),(.int 0 0),(.ref 230),(.int 121 0),(.int 0 0),(.ref 237),(.int 128 0),(.int 0 0),(.ref 244),(.int 134 0),(.int 0 0),(.ref 251),(.int 144 0),(.int 0 0),(.ref 256),(.int 146 0),(.int 0 0),(.ref 263),(.int 150 0),(.int 0 0),(.ref 268),(.int 164 0),(.int 0 0),(.ref 273),(.int 177 0),(.int 0 0),(.ref 280),(.int 179 0),(.int 0 0),(.ref 285),(.int 184 0),(.int 0 0),(.ref 290),(.int 193 0),(.int 0 0),(.ref 297),(.int 206 0),(.int 0 0),(.ref 302),(.int 227 0),(.int 0 0),(.ref 309),(.int 238 0),(.int 0 0),(.ref 316),(.int 244 0),(.int 0 0),(.ref 321),(.int 264 0),(.int 0 0),(.ref 328),(.int 267 0),(.int 0 0),(.ref 335),(.int 279 0),(.int 0 0),(.ref 340),(.int 289 0),(.int 0 0),(.ref 347),(.int 299 0),(.int 0 0),(.ref 354),(.int 313 0),(.int 0 0),(.ref 361)]
def o203  : Obj:=sO .none h209
def o204  : Obj:=fO q113 q113 (Z.top 43) (.str q63 487) 321
def o205  : Obj:=kO q0 q99 q99 600 184 3 3 287 true .none .none (.ref 289) 603
def o206  : Obj:=kO q0 q100 q100 711 299 3 3 349 true (.ref 351) (.ref 352) (.ref 353) 723
def o207  : Obj:=fO q109 q109 (Z.top 35) (.str q63 487) 273
def o208  : Obj:=tO [(.str q80 636),(.str q122 637),(.str q124 638),(.str q117 639),(.str q125 640),(.str q126 641),(.str q127 642),(.str q95 643),(.str q98 644),(.str q139 645),(.str q140 646)]
def o209  : Obj:=fO q111 q111 (Z.top 39) (.str q63 487) 297
def o210  : Obj:=fO q114 q114 (Z.top 49) (.str q63 487) 361
def o211  : Obj:=tO [(.str q79 523),(.str q117 524),(.str q84 525)]
def o212  : Obj:=gO q104 q104 (Z.top 47)
def o213  : Obj:=kO q0 q105 q105 496 95 2 3 213 true (.ref 215) (.ref 216) (.ref 217) 504
def o214  : Obj:=gO q107 q107 (Z.top 31)
def o215  : Obj:=gO q91 q91 (Z.top 33)
def o216  : Obj:=tO [(.str q80 609),(.str q141 610),(.str q122 611),(.str q124 612),(.str q117 613),(.str q125 614),(.str q126 615),(.str q127 616),(.str q95 617),(.str q142 618),(.str q143 619),(.str q144 620),(.str q135 621),(.str q138 622),(.str q145 623)]
def o217  : Obj:=tO [(.str q74 729),(.str q79 730),(.str q134 731),(.str q80 732),(.str q82 733),(.str q146 734),(.str q143 735),(.str q122 736),(.str q147 737)]
def o218  : Obj:=kO q0 q93 q93 513 119 1 3 225 true (.ref 227) (.ref 228) (.ref 229) 517
def o219  : Obj:=fO q112 q112 (Z.top 41) (.str q63 487) 309
def o220  : Obj:=gO q89 q89 (Z.top 45)
def o221  : Obj:=kO q0 q90 q90 627 206 2 3 299 true .none .none (.ref 301) 630
def o222  : Obj:=fO q108 q108 (Z.top 29) (.str q63 487) 237
def o223  : Obj:=fO q110 q110 (Z.top 37) (.str q63 487) 285
def o224  : Obj:=gO q88 q88 (Z.top 27)
def Ha  (P:Params):Heap:=⟨⟨Ycl P::YbN P::Yck P::Yfz P::Ycj P::Yci P::Ych P::Ycg P::Ycf P::Yce P::YbZ P::tE::o0::o1::o2::[]⟩,{}⟩
def t0  (P:Params):Ycw:=(bN (Ycl P) (bN (YbN P) (bN (Yfz P) (bL (Ycg P)) (bL tE)) (bN (Yci P) (bL (Yce P)) (bL o1))) (bN (Yck P) (bN (Ycj P) (bL (Ycf P)) (bL o0)) (bN (Ych P) (bL (YbZ P)) (bL o2))))
def t1  (P:Params):Ycw:=(bN (Ycl P) (bN (YbN P) (bN (o17 P) (bN (Ycg P) (bN o6 (bN tE (bL o3) bE) (bN o5 (bL o4) bE)) (bN (o9 P) (bN o8 (bL o7) bE) (bL nO))) (bN tE (bN nO (bN tE (bL o10) bE) (bN o12 (bL o11) bE)) (bN o16 (bN (o14 P) (bL o13) bE) (bL o15)))) (bN (Yci P) (bN (Yce P) (bN (o22 P) (bN o19 (bL o18) bE) (bN (o21 P) (bL (o20 P)) bE)) (bN o24 (bN o23 (bL tE) bE) (bL tE))) (bN o1 (bN o27 (bN o25 (bL tE) bE) (bL o26)) (bN o10 (bN o29 (bL o28) bE) (bL o30))))) (bN (Yck P) (bN (Ycj P) (bN (Ycf P) (bN o10 (bN o32 (bL o31) bE) (bN o10 (bL o33) bE)) (bN o37 (bN o35 (bL o34) bE) (bL o36))) (bN o44 (bN o41 (bN nO (bL (o38 P)) bE) (bN o40 (bL o39) bE)) (bN o5 (bN o42 (bL tE) bE) (bL o43)))) (bN (Ych P) (bN (YbZ P) (bN tE (bN o45 (bL o5) bE) (bN tE (bL o46) bE)) (bN o49 (bN o47 (bL nO) bE) (bL o48))) (bN o2 (bN tE (bN tE (bL o50) bE) (bL tE)) (bN (o54 P) (bN o52 (bL o51) bE) (bL (o53 P)))))))
def t2  (P:Params):Ycw:=(bN (Ycl P) (bN (YbN P) (bN (o75 P) (bN (Ycg P) (bN o6 (bN tE (bN o3 (bL o55) (bL o56)) (bN tE (bL nO) bE)) (bN o5 (bN o4 (bL o57) (bL nO)) (bN tE (bL o58) bE))) (bN (o9 P) (bN o8 (bN o7 (bL o59) (bL tE)) (bN o61 (bL o60) bE)) (bN nO (bN (o62 P) (bL tE) bE) (bN (o64 P) (bL o63) bE)))) (bN tE (bN nO (bN tE (bN o10 (bL nO) (bL tE)) (bN o65 (bL tE) bE)) (bN o12 (bN o11 (bL tE) (bL o66)) (bN o68 (bL o67) bE))) (bN o16 (bN (o14 P) (bN o13 (bL o69) (bL o70)) (bN tE (bL o71) bE)) (bN o15 (bN o73 (bL o72) bE) (bN tE (bL o74) bE))))) (bN (Yci P) (bN (Yce P) (bN (o22 P) (bN o19 (bN o18 (bL o76) (bL nO)) (bN o78 (bL o77) bE)) (bN (o21 P) (bN (o20 P) (bL nO) (bL tE)) (bN o80 (bL o79) bE))) (bN o24 (bN o23 (bN tE (bL tE) (bL o81)) (bN o10 (bL nO) bE)) (bN tE (bN o83 (bL o82) bE) (bN o84 (bL tE) bE)))) (bN o1 (bN o27 (bN o25 (bN tE (bL tE) (bL o85)) (bN o87 (bL o86) bE)) (bN o26 (bN o5 (bL o88) bE) (bN o89 (bL nO) bE))) (bN o10 (bN o29 (bN o28 (bL o90) (bL o91)) (bN o92 (bL tE) bE)) (bN o30 (bN nO (bL o93) bE) (bN o95 (bL o94) bE)))))) (bN (Yck P) (bN (Ycj P) (bN (Ycf P) (bN o10 (bN o32 (bN o31 (bL o96) (bL tE)) (bN o98 (bL o97) bE)) (bN o10 (bN o33 (bL tE) (bL o99)) (bN nO (bL tE) bE))) (bN o103 (bN o35 (bN o34 (bL o100) (bL nO)) (bN o5 (bL tE) bE)) (bN o36 (bN tE (bL nO) bE) (bN o102 (bL o101) bE)))) (bN o114 (bN o41 (bN nO (bN (o38 P) (bL o104) (bL o105)) (bN (o106 P) (bL nO) bE)) (bN o40 (bN o39 (bL o107) (bL o108)) (bN o109 (bL tE) bE))) (bN o5 (bN o42 (bN tE (bL tE) (bL o110)) (bN o112 (bL o111) bE)) (bN o43 (bN tE (bL o113) bE) (bN nO (bL tE) bE))))) (bN (Ych P) (bN (YbZ P) (bN tE (bN o45 (bN o5 (bL tE) (bL o115)) (bN o117 (bL o116) bE)) (bN tE (bN o46 (bL o118) (bL o119)) (bN tE (bL o120) bE))) (bN o49 (bN o47 (bN nO (bL nO) (bL tE)) (bN (o122 P) (bL o121) bE)) (bN o48 (bN o123 (bL tE) bE) (bN o124 (bL nO) bE)))) (bN o2 (bN tE (bN tE (bN o50 (bL o125) (bL o126)) (bN o128 (bL o127) bE)) (bN tE (bN o10 (bL o129) bE) (bN o131 (bL o130) bE))) (bN (o54 P) (bN o52 (bN o51 (bL o132) (bL tE)) (bN o133 (bL nO) bE)) (bN (o53 P) (bN o134 (bL tE) bE) (bN tE (bL o135) bE)))))))
def t3  (P:Params):Ycw:=(bN (Ycl P) (bN (YbN P) (bN (o156 P) (bN (Ycg P) (bN o6 (bN tE (bN o3 (bN o55 (bL o136) bE) (bN o56 (bL nO) bE)) (bN tE (bN nO (bL tE) bE) (bN o138 (bL o137) bE))) (bN o5 (bN o4 (bN o57 (bL nO) bE) (bN nO (bL o139) bE)) (bN tE (bN o58 (bL o140) bE) (bL tE)))) (bN (o9 P) (bN o8 (bN o7 (bN o59 (bL o141) bE) (bN tE (bL o142) bE)) (bN o61 (bN o60 (bL tE) bE) (bN o143 (bL tE) bE))) (bN nO (bN (o62 P) (bN tE (bL o144) bE) (bN o145 (bL nO) bE)) (bN (o64 P) (bN o63 (bL tE) bE) (bL nO))))) (bN tE (bN nO (bN tE (bN o10 (bN nO (bL nO) bE) (bN tE (bL tE) bE)) (bN o65 (bN tE (bL o146) bE) (bN o148 (bL o147) bE))) (bN o12 (bN o11 (bN tE (bL tE) bE) (bN o66 (bL o149) bE)) (bN o68 (bN o67 (bL tE) bE) (bL o150)))) (bN o16 (bN (o14 P) (bN o13 (bN o69 (bL o151) bE) (bN o70 (bL nO) bE)) (bN tE (bN o71 (bL tE) bE) (bL tE))) (bN o15 (bN o73 (bN o72 (bL nO) bE) (bN o153 (bL o152) bE)) (bN tE (bN o74 (bL o154) bE) (bL o155)))))) (bN (Yci P) (bN (Yce P) (bN (o22 P) (bN o19 (bN o18 (bN o76 (bL o157) bE) (bN nO (bL o158) bE)) (bN o78 (bN o77 (bL o159) bE) (bN tE (bL o160) bE))) (bN (o21 P) (bN (o20 P) (bN nO (bL o161) bE) (bN tE (bL tE) bE)) (bN o80 (bN o79 (bL nO) bE) (bL o162)))) (bN o24 (bN o23 (bN tE (bN tE (bL tE) bE) (bN o81 (bL o163) bE)) (bN o10 (bN nO (bL o164) bE) (bN nO (bL o165) bE))) (bN tE (bN o83 (bN o82 (bL o166) bE) (bN o167 (bL tE) bE)) (bN o84 (bN tE (bL o168) bE) (bL tE))))) (bN o1 (bN o27 (bN o25 (bN tE (bN tE (bL tE) bE) (bN o85 (bL o169) bE)) (bN o87 (bN o86 (bL nO) bE) (bN o170 (bL nO) bE))) (bN o26 (bN o5 (bN o88 (bL o171) bE) (bN tE (bL o172) bE)) (bN o89 (bN nO (bL o173) bE) (bL o174)))) (bN o10 (bN o29 (bN o28 (bN o90 (bL o175) bE) (bN o91 (bL tE) bE)) (bN o92 (bN tE (bL o176) bE) (bL o177))) (bN o30 (bN nO (bN o93 (bL o178) bE) (bN nO (bL tE) bE)) (bN o95 (bN o94 (bL o179) bE) (bL tE))))))) (bN (Yck P) (bN (Ycj P) (bN (Ycf P) (bN o10 (bN o32 (bN o31 (bN o96 (bL o180) bE) (bN tE (bL o181) bE)) (bN o98 (bN o97 (bL nO) bE) (bN o182 (bL tE) bE))) (bN o10 (bN o33 (bN tE (bL o183) bE) (bN o99 (bL o184) bE)) (bN nO (bN tE (bL tE) bE) (bL nO)))) (bN o103 (bN o35 (bN o34 (bN o100 (bL o185) bE) (bN nO (bL o186) bE)) (bN o5 (bN tE (bL o187) bE) (bN tE (bL o188) bE))) (bN o36 (bN tE (bN nO (bL o189) bE) (bN tE (bL o190) bE)) (bN o102 (bN o101 (bL nO) bE) (bL o191))))) (bN o203 (bN o41 (bN nO (bN (o38 P) (bN o104 (bL o192) bE) (bN o105 (bL nO) bE)) (bN (o106 P) (bN nO (bL tE) bE) (bN tE (bL tE) bE))) (bN o40 (bN o39 (bN o107 (bL nO) bE) (bN o108 (bL o193) bE)) (bN o109 (bN tE (bL o194) bE) (bL o195)))) (bN o5 (bN o42 (bN tE (bN tE (bL o196) bE) (bN o110 (bL o197) bE)) (bN o112 (bN o111 (bL nO) bE) (bL o198))) (bN o43 (bN tE (bN o113 (bL o199) bE) (bN tE (bL o200) bE)) (bN nO (bN tE (bL o201) bE) (bL o202)))))) (bN (Ych P) (bN (YbZ P) (bN tE (bN o45 (bN o5 (bN tE (bL tE) bE) (bN o115 (bL o204) bE)) (bN o117 (bN o116 (bL o205) bE) (bN nO (bL o206) bE))) (bN tE (bN o46 (bN o118 (bL o207) bE) (bN o119 (bL nO) bE)) (bN tE (bN o120 (bL o208) bE) (bL tE)))) (bN o49 (bN o47 (bN nO (bN nO (bL nO) bE) (bN tE (bL tE) bE)) (bN (o122 P) (bN o121 (bL o209) bE) (bN o211 (bL o210) bE))) (bN o48 (bN o123 (bN tE (bL tE) bE) (bN o213 (bL o212) bE)) (bN o124 (bN nO (bL tE) bE) (bL o214))))) (bN o2 (bN tE (bN tE (bN o50 (bN o125 (bL o215) bE) (bN o126 (bL tE) bE)) (bN o128 (bN o127 (bL o216) bE) (bN o218 (bL o217) bE))) (bN tE (bN o10 (bN o129 (bL tE) bE) (bN nO (bL tE) bE)) (bN o131 (bN o130 (bL o219) bE) (bL tE)))) (bN (o54 P) (bN o52 (bN o51 (bN o132 (bL tE) bE) (bN tE (bL o220) bE)) (bN o133 (bN nO (bL o221) bE) (bL o222))) (bN (o53 P) (bN o134 (bN tE (bL o223) bE) (bN o224 (bL nO) bE)) (bN tE (bN o135 (bL tE) bE) (bL nO))))))))
def Hz  (P:Params):Heap:=⟨⟨Ycl P::YbN P::Yck P::o156 P::Ycj P::Yci P::Ych P::Ycg P::Ycf P::Yce P::YbZ P::tE::o203::o1::o2::o6::o10::o22 P::tE::nO::o41::o27::tE::o9 P::o103::o24::o49::o16::o5::o10::o54 P::tE::o32::o19::o45::tE::nO::o25::tE::o8::o35::o23::o47::o14 P::o42::o29::o52::o5::o10::o21 P::tE::o12::o40::o26::tE::nO::o36::tE::o48::o15::o43::o30::o53 P::o3::o31::o18::o5::o10::o38 P::tE::o50::o7::o34::tE::nO::o13::tE::o28::o51::o4::o33::o20 P::o46::o11::o39::o5::o10::o62 P::tE::o83::o123::o73::tE::nO::o134::tE::o98::o78::o117::o65::o106 P::o87::o128::o61::o5::o10::o122 P::tE::o112::o92::o133::tE::nO::o80::tE::o68::o109::o89::o131::o64 P::o102::o84::o124::tE::nO::o95::tE::o55::o96::o76::tE::nO::o104::tE::o125::o59::o100::tE::nO::o69::tE::o90::o132::o57::tE::nO::o118::tE::o107::o88::o129::tE::nO::o82::tE::o72::o113::o93::tE::nO::o97::o77::o116::tE::nO::o86::o127::o60::tE::nO::o121::o71::o111::tE::nO::o58::tE::o79::o120::o67::tE::nO::o130::o63::o101::tE::nO::o74::tE::o94::o135::o56::tE::nO::o115::tE::o105::o85::o126::tE::nO::o81::tE::o70::o110::o91::tE::nO::o99::tE::o119::o66::o108::tE::nO::o145::tE::o167::o213::o153::tE::nO::o224::o138::o182::tE::nO::o148::tE::o170::o218::o143::tE::nO::o211::tE::o198::o177::o222::tE::nO::o162::tE::o150::o195::o174::tE::nO::o191::tE::o214::o155::o202::tE::nO::o136::o180::o157::tE::nO::o192::tE::o215::o141::o185::tE::nO::o151::o196::o175::tE::nO::o183::o161::o207::tE::nO::o171::tE::o144::o189::o166::tE::nO::o199::o178::o223::tE::nO::o159::o205::o146::tE::nO::o216::tE::o187::o164::o209::tE::nO::o176::o221::o140::tE::nO::o208::tE::o194::o173::o219::tE::nO::o168::tE::o154::o201::o179::tE::nO::o181::o158::o204::tE::nO::o169::tE::o142::o186::o163::tE::nO::o197::tE::o220::o139::o184::tE::nO::o149::o193::o172::tE::nO::o190::tE::o212::o152::o200::tE::nO::o137::tE::o160::o206::o147::tE::nO::o217::tE::o188::o165::o210::[]⟩,{}⟩
noncomputable def st1  : List Stmt:=[Z.top 0,Z.top 1,Z.top 2,Z.top 3,Z.top 4]
noncomputable def st2  : List Stmt:=[Z.top 5,Z.top 6,Z.top 7,Z.top 8,Z.top 9,Z.top 10,Z.top 11,Z.top 12,Z.top 13,Z.top 14,Z.top 15,Z.top 16,Z.top 17,Z.top 18,Z.top 19,Z.top 20,Z.top 21,Z.top 22,Z.top 23,Z.top 24,Z.top 25]
noncomputable def st3  : List Stmt:=[Z.top 26,Z.top 27,Z.top 28,Z.top 29,Z.top 30,Z.top 31,Z.top 32,Z.top 33,Z.top 34,Z.top 35,Z.top 36,Z.top 37,Z.top 38,Z.top 39,Z.top 40,Z.top 41,Z.top 42,Z.top 43,Z.top 44,Z.top 45,Z.top 46,Z.top 47,Z.top 48,Z.top 49]
def bd  : List Stmt:=st1++(st2++(st3++[]))
noncomputable abbrev pw  : Program:=PySem.Challenge.pw_beatplans_k63_papers_of_lateness_bent
def qw  : Program:={ pw with main:={ pw.main with body:=[Z.top 1,Z.top 2,Z.top 3,Z.top 4,Z.top 5,Z.top 6,Z.top 8,Z.top 9,Z.top 10,Z.top 12,Z.top 13,Z.top 15,Z.top 16,Z.top 17,Z.top 18,Z.top 19,Z.top 20,Z.top 21,Z.top 22,Z.top 23,Z.top 25,Z.top 26,Z.top 27,Z.top 28,Z.top 29,Z.top 30,Z.top 31,Z.top 32,Z.top 33,Z.top 34,Z.top 35,Z.top 36,Z.top 37,Z.top 38,Z.top 39,Z.top 40,Z.top 41,Z.top 42,Z.top 43,Z.top 44,Z.top 45,Z.top 46,Z.top 47,Z.top 48,Z.top 49] } }
def en  : Env:={ scope:=pw.main.scope,locals:=mainNs,globals:=mainNs,cells:=[],code:=.ref 13,frame:=some 14 }
def cE  : Code:=.body bd en
noncomputable abbrev pz  : Pos:=⟨0,0,0,0⟩
abbrev fz  : List Frame:=[PySem.W.topFrame pz]
noncomputable abbrev s0  (w:World)(j:OsState):Shared:=⟨Yb0 w.params,⟨[]⟩,PySem.W.boot_drawn,PySem.W.boot_toks,j⟩
abbrev sz  (w:World)(j:OsState):Shared:=⟨Hz w.params,⟨[]⟩,{},741,j⟩
noncomputable def sT  (t:Params->Ycw)(n k:Nat)(w:World)(j:OsState):PySem.W.SharedT:=⟨t w.params,n,{},⟨[]⟩,{},k,j⟩
section
variable (w:World)(os:OsState)
def jpm  : PySem.W.topGo Ydh pw w 11 (some (.ref 6)) 12 (s0 w os) (YfQ pw)=some (⟨Ha w.params,⟨[]⟩,{},187,os⟩,⟨denote Ydh cE,cE,pz,fz⟩):=by
 rw[PySem.W.Fast.te15667345088766844465,YaV,PySem.W.Fast.te11892475500146522536];kernel_rfl
def jpo  : PySem.W.segRun Ydh pw w 11 (some (.ref 6)) 1 1 ⟨Ha w.params,⟨[]⟩,{},187,os⟩ (PySem.W.blockOf bd en cE pz fz)=some (.next,(sT t0 15 187 w os).abs,cE,pz):=by
 rw[PySem.W.Fast.te14374325043358763698,YaV];kernel_rfl
def r1  : Yd5 Ydh pw w 11 (some (.ref 6)) 1 933 (sT t0 15 187 w os) (YdY st1 en cE pz fz)=some (.next,sT t1 85 284 w os,cE,⟨13,0,16,24⟩):=by
 rw[Yb2,YaV];kernel_rfl
def r2  : Yd5 Ydh pw w 11 (some (.ref 6)) 1 988 (sT t1 85 284 w os) (YdY st2 en cE ⟨13,0,16,24⟩ fz)=some (.next,sT t2 213 496 w os,cE,⟨93,0,94,110⟩):=by
 rw[Yb2,YaV];kernel_rfl
def r3  : Yd5 Ydh pw w 11 (some (.ref 6)) 1 756 (sT t2 213 496 w os) (YdY st3 en cE ⟨93,0,94,110⟩ fz)=some (.next,sT t3 363 741 w os,cE,⟨313,0,326,15⟩):=by
 rw[Yb2,YaV];kernel_rfl
def jpn  : Yf6 Ydh pw w 11 (some (.ref 6)) 2 (sT t3 363 741 w os).abs ⟨PySem.W.doneF .next,cE,⟨313,0,326,15⟩,fz⟩=some (sz w os):=by
 rw[PySem.W.Fast.te14082659384304107361,YaV];kernel_rfl
def jpl  : Yf6 Ydh pw w 11 (some (.ref 6)) (12+(1+(933+(988+(756+(2)))))) (s0 w os) (YfQ pw)=some (sz w os):=
 PySem.W.go_top (jpm w os) (PySem.W.piece_block (jpo w os) (YdH (YdG (r1 w os)) (YdH (YdG (r2 w os)) (YdH (YdG (r3 w os)) (jpn w os)))))
end
def KK  : Params->Yae:=λP=>((1:Addr),YbN P)::((3:Addr),o156 P)::((23:Addr),o9 P)::((24:Addr),o103)::((40:Addr),o35)::((41:Addr),o23)::((43:Addr),o14 P)::((44:Addr),o42)::((59:Addr),o15)::((60:Addr),o43)::((62:Addr),o53 P)::((63:Addr),o3)::((78:Addr),o51)::((79:Addr),o4)::((81:Addr),o20 P)::((82:Addr),o46)::((97:Addr),o78)::((98:Addr),o117)::((100:Addr),o106 P)::((101:Addr),o87)::((116:Addr),o109)::((117:Addr),o89)::((119:Addr),o64 P)::((120:Addr),o102)::((128:Addr),o96)::((129:Addr),o76)::((135:Addr),o59)::((136:Addr),o100)::((142:Addr),o132)::((143:Addr),o57)::((149:Addr),o88)::((150:Addr),o129)::((156:Addr),o113)::((157:Addr),o93)::((161:Addr),o77)::((162:Addr),o116)::((166:Addr),o127)::((167:Addr),o60)::((171:Addr),o71)::((172:Addr),o111)::((178:Addr),o120)::((179:Addr),o67)::((183:Addr),o63)::((184:Addr),o101)::((190:Addr),o135)::((191:Addr),o56)::((197:Addr),o85)::((198:Addr),o126)::((204:Addr),o110)::((205:Addr),o91)::((211:Addr),o66)::((212:Addr),o108)::((218:Addr),o213)::((219:Addr),o153)::((223:Addr),o138)::((224:Addr),o182)::((230:Addr),o218)::((231:Addr),o143)::((237:Addr),o177)::((238:Addr),o222)::((244:Addr),o195)::((245:Addr),o174)::((251:Addr),o155)::((252:Addr),o202)::((256:Addr),o180)::((257:Addr),o157)::((263:Addr),o141)::((264:Addr),o185)::((268:Addr),o196)::((269:Addr),o175)::((273:Addr),o161)::((274:Addr),o207)::((280:Addr),o189)::((281:Addr),o166)::((285:Addr),o178)::((286:Addr),o223)::((290:Addr),o205)::((291:Addr),o146)::((297:Addr),o164)::((298:Addr),o209)::((302:Addr),o221)::((303:Addr),o140)::((309:Addr),o173)::((310:Addr),o219)::((316:Addr),o201)::((317:Addr),o179)::((321:Addr),o158)::((322:Addr),o204)::((328:Addr),o186)::((329:Addr),o163)::((335:Addr),o139)::((336:Addr),o184)::((340:Addr),o193)::((341:Addr),o172)::((347:Addr),o152)::((348:Addr),o200)::((354:Addr),o206)::((355:Addr),o147)::((361:Addr),o165)::((362:Addr),o210)::[]
noncomputable def KA  : List Addr:=1::3::23::24::40::41::43::44::59::60::62::63::78::79::81::82::97::98::100::101::116::117::119::120::128::129::135::136::142::143::149::150::156::157::161::162::166::167::171::172::178::179::183::184::190::191::197::198::204::205::211::212::218::219::223::224::230::231::237::238::244::245::251::252::256::257::263::264::268::269::273::274::280::281::285::286::290::291::297::298::302::303::309::310::316::317::321::322::328::329::335::336::340::341::347::348::354::355::361::362::[]
def fl  : Z.FL:=(129,128,(.str q33 336))::(136,135,(.str q33 336))::(143,142,(.str q33 336))::(150,149,(.str q73 369))::(157,156,(.str q73 369))::(162,161,(.str q31 396))::(167,166,(.str q31 396))::(172,171,(.str q31 396))::(179,178,(.str q31 396))::(184,183,(.str q31 396))::(191,190,(.str q31 396))::(198,197,(.str q31 396))::(205,204,(.str q31 396))::(212,211,(.str q63 487))::(219,218,(.str q63 487))::(224,223,(.str q63 487))::(231,230,(.str q63 487))::(238,237,(.str q63 487))::(245,244,(.str q63 487))::(252,251,(.str q63 487))::(257,256,(.str q63 487))::(264,263,(.str q63 487))::(269,268,(.str q63 487))::(274,273,(.str q63 487))::(281,280,(.str q63 487))::(286,285,(.str q63 487))::(291,290,(.str q63 487))::(298,297,(.str q63 487))::(303,302,(.str q63 487))::(310,309,(.str q63 487))::(317,316,(.str q63 487))::(322,321,(.str q63 487))::(329,328,(.str q63 487))::(336,335,(.str q63 487))::(341,340,(.str q63 487))::(348,347,(.str q63 487))::(355,354,(.str q63 487))::(362,361,(.str q63 487))::[]
def k_dyn   P:Z.dynB Z.T (KK P) 0 fl Z.T.funs Z.sts=true:=by kernel_rfl
def k_lk   P:fl.map (λx=>(KK P).lookup x.1)=Z.lkR fl Z.T.funs Z.sts:=by kernel_rfl
def k_blt   P:Z.bltB (KK P)=true:=by kernel_rfl
def k_gs   P:Z.gsB (KK P) Z.T.gn Z.T.gs=true:=by kernel_rfl
def k_xb   P:∃j,L2.XBase (KK P) (Z.gK (KK P)) 24 j:=Z.xb_mk 24 23 15 189 197 [(.ref 44),(.ref 63),(.ref 82),(.ref 101),(.ref 120)] (by kernel_rfl) (by kernel_rfl)
def k_cs   P:Z.CsA (KK P) Z.T.cs:=⟨Z.xc_mk (k_xb P) "NoPaper" "NoPaper.__init__" ["word", "at"] (jaI (Z.top 2) 0) 44 43 28 207 215 41 40 (.str q6 187) (by kernel_rfl) (by kernel_rfl) (by kernel_rfl) (.inr ⟨_,_,_,_,_,_,_,_,_,_,rfl,by decide,rfl⟩),
 Z.xc_mk (k_xb P) "TooMany" "TooMany.__init__" ["word"] (jaI (Z.top 3) 0) 63 62 47 234 242 60 59 (.str q6 187) (by kernel_rfl) (by kernel_rfl) (by kernel_rfl) (.inl ⟨_,_,_,_,_,rfl,rfl⟩),
 Z.xc_mk (k_xb P) "NoRing" "NoRing.__init__" ["word"] (jaI (Z.top 4) 0) 82 81 66 259 267 79 78 (.str q6 187) (by kernel_rfl) (by kernel_rfl) (by kernel_rfl) (.inl ⟨_,_,_,_,_,rfl,rfl⟩),
 Z.xc_mk (k_xb P) "NoText" "NoText.__init__" ["row", "word"] (jaI (Z.top 5) 0) 101 100 85 284 292 98 97 (.str q6 187) (by kernel_rfl) (by kernel_rfl) (by kernel_rfl) (.inr ⟨_,_,_,_,_,_,_,_,_,_,rfl,by decide,rfl⟩),
 Z.xc_mk (k_xb P) "NoRow" "NoRow.__init__" ["row"] (jaI (Z.top 6) 0) 120 119 104 311 319 117 116 (.str q6 187) (by kernel_rfl) (by kernel_rfl) (by kernel_rfl) (.inl ⟨_,_,_,_,_,rfl,rfl⟩),trivial⟩
noncomputable abbrev rr  : PySem.W.OpenRow:=PySem.Challenge.rw_beatplans_k63_papers_of_lateness_bent.row
def Xt  : Shared->Bool:=λs=>PySem.W.xlAt qw [] s&&PySem.W.recOk (PySem.W.RowW.records rr.toRowW) s
abbrev hk  : PySem.W.Hook:=PySem.W.kHook KK KA (λ_=>by kernel_rfl)
def jn9  (w:World):((Yb0 w.params).isNs YaJ&&(⟨[]⟩:Array GenState).size==0,(Yb0 w.params).objs.size,(Yb0 w.params).nsMap YaJ "__annotations__")=(true,11,some (Ya1 6)):=by
 rw[PySem.W.Fast.te8920871248978507458];kernel_rfl
def k_l1  (w:World) os:(PySem.W.staticsOk (importedModules pw.main.body) (Yb0 w.params) (Hz w.params)&&PySem.W.namesBound pw (Hz w.params)&&PySem.W.gensDone (sz w os)&&PySem.W.laidKept (Yb0 w.params) (Hz w.params))=true:=by
 rw[Ydc];kernel_rfl
def k_l2  (w:World) os:PySem.W.openSeen qw [] (importedModules pw.main.body) Xt true (sz w os)=PySem.W.openGood qw []:=by
 rw[PySem.W.Fast.te4187177175401517315,Ydc];kernel_rfl
def k_l3   w os:Ydy hk (sz w os)=Ydx hk w:=by kernel_rfl
def k_hl  : PySem.W.LeftO pw qw [] Xt (Ydy hk) (Ydx hk) 5474:=PySem.W.LeftO.of_pieces (PySem.W.boot_open (by kernel_rfl) (by decide) λ_=>by kernel_rfl) jn9 jpl (by decide) λw=>funext λj=>Prod.ext (k_l1 w j) (Prod.ext (k_l2 w j) (k_l3 w j))
end Y
set_option maxRecDepth 100000 in
set_option maxHeartbeats 0 in
def Z.wellS:PySem.Challenge.rw_beatplans_k63_papers_of_lateness_bent.wellSaid=true:=by decide +kernel
open PySem PySem.W PyProof.Rows
set_option maxRecDepth 100000 in
set_option maxHeartbeats 0 in
theorem PySem.Challenge.cw_beatplans_k63_papers_of_lateness_bent_holds : PySem.Challenge.rw_beatplans_k63_papers_of_lateness_bent.Holds := by
 refine PySem.W.holds_law Z.wellS λsaid=>?_
 refine PySem.W.holds_open (q:=Y.qw) (loose:=[]) (Xt:=Y.Xt) (XP:=PySem.W.XL Y.qw []) (Yf:=Ydy Y.hk) (Ya:=Ydx Y.hk) (YP:=PySem.W.Hook.says Y.hk) (N:=5474) Y.k_hl (PySem.W.Hook.of Y.hk) (PySem.W.Hook.keeps Y.hk) (λs e=>PySem.W.xl_of s (Bool.and_eq_true_iff.mp e).1) PySem.W.XL.keeps (by rfl) (by rfl) (by rfl) (λs e=>PySem.W.recFacts_of (Bool.and_eq_true_iff.mp e).2) (by rfl) said (by decide +kernel) ⟨rfl,rfl,rfl,rfl,rfl,by decide +kernel⟩ ?hw ?hc
 case hw=>w_witness2
 refine Z.walk (l:=PySem.Challenge.rw_beatplans_k63_papers_of_lateness_bent) rfl rfl (λw h Y=>PySem.W.kIn_of Y) ?K ?S ?B ?F
 case K=>intro w;rfl
 case S=>intro w;exact⟨_,rfl,rfl⟩
 case B=>exact λw t ht=>(nomatch (show t∈[]from ht))
 case F=>exact λw mg fa h X G hm=>Z.all2 X G hm Z.prog_rep Z.prog_eq Z.tabsU (Y.k_dyn _) (Y.k_lk _) (Y.k_blt _) (Y.k_gs _) (Y.k_cs _) rfl rfl rfl rfl rfl
