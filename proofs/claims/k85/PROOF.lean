import PyProof.Rows.All
import Wide.All
import OpenK.AllK
import Wide.FinOn
import Lean
import PyProof.EqAt
import PyProof.EqKinds
import PyProof.TupleCall
import PySem.Challenge.RW_beatplans_k85_lines_and_boards_spoilt_an
noncomputable section
set_option compiler.extract_closed false
set_option genSizeOf false
set_option Elab.async false
set_option linter.all false
set_option maxRecDepth 100000
set_option maxHeartbeats 8000000
open List renaming all_cons → YbE, all_eq_true → Ydk, any_cons → Ybn, any_eq_true → Ygt, append_assoc → Ydc, append_nil → YbM, cons_append → Ygs, contains_cons → YbD, drop_eq_getElem_cons → Ybi, drop_length → Ygr, drop_of_length_le → Yfg, drop_zero → YdE, filterMap → YeS, filterMap_cons → YcQ, filterMap_map → YfZ, find?_cons → Ybr, find?_cons_of_neg → YcA, flatten_cons → Yb9, foldl → Yd7, foldl_cons → YeA, forIn_cons → Yez, getD_eq_getElem?_getD → YaL, getElem?_append_left → YaM, getElem?_append_right → Yby, getElem?_eq_getElem → YaF, getElem?_eq_none → YcG, getElem?_map → Yay, getElem?_range → YdI, getElem?_replicate → Ycu, getElem?_set_ne → Ya3, getElem?_set_self → Ybu, getElem?_take_of_lt → Ye2, getElem_idxOf → YdZ, getElem_inj → Ygq, getElem_map → Ydj, getElem_mem → YbA, getElem_take → Yd6, getElem_toArray → YcL, idxOf_lt_length_of_mem → Yb6, length → YfL, length_append → YaA, length_cons → Ybd, length_drop → YbR, length_map → Yae, length_nil → YcP, length_range → Yd5, length_replicate → Yfj, length_singleton → YbC, length_tail → Ycm, length_take → Ya6, lookup → YbF, lookup_cons → YaX, map_append → Yav, map_cons → Yas, map_eq_nil_iff → YfK, map_fst_zip → Ygp, map_map → Ybp, map_nil → YcY, mem_append_left → Ybm, mem_append_right → YaD, mem_cons → YaG, mem_cons_of_mem → Yah, mem_cons_self → Yat, mem_map_of_mem → YdH, mem_of_getElem? → Ya2, mem_of_mem_drop → Yfx, mem_or_eq_of_mem_set → Ycj, nil_append → Yb5, nodup_append → Yga, not_mem_nil → Yar, of_mem_zip → Yct, range → YaH, range' → YfJ, range_succ → YbL, replicate → Yaa, replicate_succ → YaS, reverse_cons → Ydb, set_cons_succ → YdY, set_cons_zero → YdX, size_toArray → Yam, sum_cons → Ye6, take_length → Ygo, take_of_length_le → Ybt, take_sublist → YcB, zip_cons_cons → YfY
open PySem.W renaming BT → Ycw, CodeHd → Yf8, Frag → Yab, OpenLaw → Yec, WalkO → Ygn, boot_heap → Yb2, boot_o_0 → Yci, boot_o_1 → YbN, boot_o_10 → Yb1, boot_o_2 → Ych, boot_o_3 → YfE, boot_o_4 → Ycg, boot_o_5 → Ycf, boot_o_6 → Yce, boot_o_7 → Ycd, boot_o_8 → Ycc, boot_o_9 → Ycb, callWith_K → YdC, cellsFrom_some → Ycs, codeIn → Ybz, codeRec_of → YdB, findIn → Yf7, fnMade → Yer, fnOf → Ya7, instObj → Yeb, keepIn → Ybl, kia_one → Ya9, kitOne → Yds, kitx_dict → Yfs, kitx_list → Yfr, lookIn → Yeq, methodObj → YdR, mg_of → Yc7, nsIn → Ybc, piece_app → YdQ, piecesOf → Yd0, plainGet → YfD, segRunT → Yea, segRun_of → YdP, topRun → Yf6, topStub → YfW
open PySem renaming Arguments → Ygv, Comprehension → Yex, DictEntry → Yew, ExcBaseFacts → YeU, FuncData → Ye7, NameKind → YbB, PassesOwn → Yes, Spec → YaE, StoreFacts → Ydr, assignEach → YaZ, attributeBase → YcV, behindInMarks → Yen, binaryOp → Ybg, bindArgs → YfU, bootBuiltins → YbT, builtinLookup_eq_fast → YbI, builtinsNs → YdW, call → YfV, call_meets → Ybv, cellsFrom → Ybf, checkBuiltinCall → Ydx, closureFor → YfB, codeAny_call_builtin → YcU, codeAny_call_function → YdN, codeAny_func → Ygl, codeAny_mono → Ydg, compTurn → Ye3, compareOp → YaN, concat_meets → Ygk, dictSetDefault → Yfp, evalPart_none → YfT, excClassObj → Yc6, foldedSetIterable → Ya4, isInstance → YfA, lastMarks → Ygj, letOwnedTupleGo → Yc5, lookupAlong_cons → YeX, mainGlobals → YaC, mem_of_lookup → Yaz, newFunctionEnv → Yfo, noFill_tuple_add → YeW, noteFrame → Ygi, post_val_or_str → Yc4, pushCells → Yfc, qualnameIn → Yc0, repr_of_reads' → Yfn, seqIndex_neg → Ygh, seqSlot_of → Yf5, seq_tuple_add → YfS, setFlight → Yem, sizeLine → Yaf, sizeLine_eq → YbX, sliceBounds → Ycv, slicePick → Yel, starEach → Yax, strLen_append → YfR, swappedStores → Ybs, swapsWith → Ycr, swapsWithSole → YbH, sysModules → Ya8, treeTable → Ydq, tupleKind → Yek, tupleKind_room_in1 → YcE, typeIs_int → YeF, typeIs_str → Ycy, typeLookup → YaY, typeLookup_eq → YfO, typeLookup_type → YcD, wpAny_Call_Name_kw → YbG, wpAny_binaryOp_repeat_ref → Yfm, wpAny_bind → Yac, wpAny_call → YdV, wpAny_callSpecial?_slot → Ydt, wpAny_call_entry → YeV, wpAny_comprehension_free → Yfz, wpAny_execs_cons → Yb0, wpAny_execs_nil → YdM, wpAny_field → YbW, wpAny_getItem_list_slice → Ydp, wpAny_getItem_str_slice → YbV, wpAny_holding → Ybe, wpAny_isSubtype_exc → YbU, wpAny_loadPart_at → Yau, wpAny_mono → YaO, wpAny_mroOf_exc → Yfb, wpAny_newFunctionEnv_cells → Ydd, wpAny_newObj_type → Ybb, wpAny_passesOwn → Yc3, wpAny_pure → Yaj, wpAny_pyIter_list → Ydo, wpAny_pyNext_list_end → Ygg, wpAny_pyNext_list_item → Yf2, wpAny_sequenceKey → YeE, wpAny_setField → Yfl, wpAny_standAt → Yck, wpAny_truthy_bool → Yba, wpAny_typeOf → YdL
open PySem.Heap renaming SameBut → YcZ, get?_none_of_le → YdA, get?_push_at → Ygd, get?_push_of_some → Yad, get?_push_size → Yaq, get?_update_ne → YfM, get?_update_other → Ydn, get?_update_self → Yb7, lt_size → Yak, size_push → YeT
open Nat renaming add_comm → Yfw, add_le_add_left → YcS, add_le_add_right → YcM, digitChar → Yff, le_of_eq → Yej, le_of_lt → YbQ, le_of_not_lt → Ydm, le_refl → Yag, le_succ → YdS, le_trans → Yai, length_toDigits_le_iff → YcX, lt_irrefl → Ybo, lt_of_le_of_lt → YaV, lt_of_lt_of_le → Yap, lt_trans → Ydw, lt_trichotomy → Yef, mul_comm → Yei, mul_le_mul_right → YfI, ne_of_lt → YaI, not_lt_zero → Ybj, succ_le_succ → Yet, succ_mul → Yfv, toDigits → YbP, toDigits_of_lt_base → Ydi, zero_add → YcI, zero_le → Ybh
open Bool renaming and_eq_true → Yao, eq_iff_iff → Ya5, false_eq_true → Ybk, false_ne_true → Yal, false_or → Ye9, not_eq_true' → YcC, or_eq_true → Yb8, or_true → YcH
open Option.some renaming inj → Yan
open PySem.Builtin.Str renaming occurrences → Yaw, partsBetween → Yd8, strKind → YeL
open PySem.NameKind renaming cell → YaK, free → YaB
open PySem.PyData renaming canLayAll0 → YfF, depthAll → YbZ, eqv → YaJ, eqvAll → Ycq, int → YcK, showable → Ydl, showableAll → Yfu, shown → Ycl, shownAll → YbY, str → YcJ
open PySem.W.Fast renaming te10110043849684766642 → Yb4, te14364793385576792824 → YaP, te5923862056798008813 → Ydh
open PySem.Value renaming bool → YeN, builtin → Yde, int → Yfd, none → Ybx, ref → YaQ, str → Yep
open PySem.Builtin.Slice renaming sliceAdjust → Ybq, sliceApplied → YbS, sliceFields → YdT, slicePlaces → YaR
open PySem.Builtin.Tuple renaming tupleExact → YaT, tupleIsExact → YdK, tupleItemsOf → YcF, tupleTooMany → YdJ
open PySem.Str renaming join → YaU, length → YcO, ofString → Ycp
open PyProof.Rows renaming args_tuple_getitem → Yeo, boot_isinstance → YdD, boot_list → Yed, callWith_type1 → YbO, entry_tuple_getitem → Yd9, slot_tuple_getitem → YaW, subscriptTail → Ydu, subscriptTail_builtinR → Yf3, tail_any → YfQ, text_ofNat → Yd4, tupleItemsOf_ → YfP
open Int renaming ediv_one → Yfy, emod_lt_of_pos → Yd2, emod_nonneg → YeI, eq_ofNat_of_zero_le → Ya0, natCast_nonneg → Ygc, toNat_natCast → Ygu, toNat_of_nonneg → YcT
open PySem.Txt renaming slice → YcR, sliceBy → YdO, slice_le → Yc1, split → Ya1, split → Yft
open Classical renaming byContradiction → Ybw
open False renaming elim → YbJ
open True renaming intro → YbK
open Array renaming all_toList → Ygf, append_assoc → YfN, find?_toList → YdU, getElem?_eq_getElem → YeM, getElem?_setIfInBounds_self_of_lt → Yb3, length_toList → Ycn, mem_of_getElem? → Yfh, size_append → Yd3
open Char renaming toNat → Yca
open Sum.inr renaming injEq → Yco
open PySem.Obj renaming data_mapDictKeys → YfH, data_mapFields → Yf9, isFreed_of_fields → Ydv, mapFields → Ycx, mapSeq → Yee
open PySem.F renaming args_dict_get_3 → YeG, args_object_init_2 → Yge, args_str_split_2 → Yeh, args_tuple_add_2 → YcW, args_tuple_mul_2 → Yeg, entry_dict_get → YeR, entry_str_split → Yev, entry_tuple_add → Yda, entry_tuple_mul → Yeu, plainAttrs_dict → Yc9, plainAttrs_list → Yc8, plainAttrs_str → YeQ, slot_dict_get → Ycz, slot_int_rmul → YdF, slot_str_split → YeK, slot_tuple_add → Ydf, slot_tuple_mul → YeJ, type_dict_get → Ye1
open PySem.Builtin.List renaming listTooLong → YcN
open Option renaming getD_none → YfX, isSome_map → Yc2, map → YfG
open PySem.W.Hook renaming obs → Ydz, val → Ydy
open PySem.Paired renaming length → YdG
open List.cons renaming inj → Yf0, injEq → Yd1
open PySem.SeqAt renaming EqAt → YeP, eqv_refl → Yey, in_listAt → Ygm, in_tupleAt → Yf4, notIn_listAt → YfC, notIn_tupleAt → Yfq
open List.Mem renaming head → YeC, tail → YeB
open PySem.Calls renaming Name_function_global → YeD, callWith_builtin → Ye8
open List.Pairwise renaming nil → YeH
open PySem.StrLaws renaming glued_eq_join → YeY, join_length_le → YeO
open PySem.SeqAt.EqAt renaming int_str → Ye0, str_int → YeZ
open PySem.Draws renaming list → Ye4
open PySem.Manifest renaming signature? → Ye5
open PySem.Around renaming frames_deeper → Yfi, under → Yfa
open PySem.PassesOwn renaming looking → Yfe
open PySem.Code renaming isFrame → Yfk, quiet_builtin → Yf1
open Lean.Parser.Tactic renaming simpLemma → Ygb
namespace L2
open PySem PySem.Spec PyProof.Rows

abbrev Key:=Sum Int Str
noncomputable def jf0  : Key->Value->Bool
 |.inl k,v=>Value.isInt k v
 |.inr x,v=>Value.isStrOf x v
noncomputable def keyH  (w:World):Key->Int
 |.inl k=>hashInt k
 |.inr x=>hashStr w x
def jat  : ∀{k } {v },jf0 k v=true->(∃i t,k=Sum.inl i/\v=Yfd i t)\/(∃x t,k=Sum.inr x/\v=Yep x t)
 |.inl i,v,h=>by
  obtain⟨t,e⟩:=Value.isInt_shape (k:=i) (v:=v) h;exact .inl ⟨i,t,rfl,e⟩
 |.inr x,v,h=>by
  obtain⟨t,e⟩:=Value.isStrOf_shape (x:=x) (v:=v) h;exact .inr ⟨x,t,rfl,e⟩
def jiq   i t:jf0 (.inl i) (.int i t)=true:=by simp[jf0,Value.isInt]
def jip   x t:jf0 (.inr x) (.str x t)=true:=by simp[jf0,Value.isStrOf]
def joe   a b:decide ((Sum.inl a:Key)=Sum.inl b)=(a==b):=by
 by_cases e:a=b
 ·subst e;simp
 ·have h:¬(Sum.inl a:Key)=Sum.inl b:=λq=>e (Sum.inl.inj q);rw[decide_eq_false h];exact(beq_eq_false_iff_ne.mpr e).symm
def job   a b:decide ((Sum.inr a:Key)=Sum.inr b)=decide (a=b):=by
 by_cases e:a=b
 ·subst e;simp
 ·have h:¬(Sum.inr a:Key)=Sum.inr b:=λq=>e (Sum.inr.inj q);rw[decide_eq_false h,decide_eq_false e]
def jod   a b:decide ((Sum.inl a:Key)=Sum.inr b)=false:=decide_eq_false (λq=>nomatch q)
def joc   a b:decide ((Sum.inr a:Key)=Sum.inl b)=false:=decide_eq_false (λq=>nomatch q)

noncomputable def jam   prog w:PySem.KeyKind prog w Key where
 is:=jf0
 hash:=keyH w
 inj:=λv a b ha hb=>by
  rcases jat ha with⟨i,t,rfl,rfl⟩|⟨x,t,rfl,rfl⟩
  ·rcases jat hb with⟨j,u,rfl,e⟩|⟨y,u,rfl,e⟩
   ·injection e with e1 _;rw[e1]
   ·exact nomatch e
  ·rcases jat hb with⟨j,u,rfl,e⟩|⟨y,u,rfl,e⟩
   ·exact nomatch e
   ·injection e with e1 _;rw[e1]
 byValue:=λk v h=>by
  rcases jat h with⟨i,t,rfl,rfl⟩|⟨x,t,rfl,rfl⟩<;>rfl
 pyHash:=λhv h=>by
  rcases jat hv with⟨i,t,rfl,rfl⟩|⟨x,t,rfl,rfl⟩
  ·exact wpAny_pyHash_int h
  ·exact wpAny_pyHash_str h
 eqBool:=λhu hv h=>by
  rcases jat hu with⟨i,t,rfl,rfl⟩|⟨x,t,rfl,rfl⟩
  ·rcases jat hv with⟨j,u,rfl,rfl⟩|⟨y,u,rfl,rfl⟩
   ·rw[joe]at h;exact wpAny_eqBool_int h
   ·rw[jod]at h;exact Ye0 i t y u _ _ _ _ h
  ·rcases jat hv with⟨j,u,rfl,rfl⟩|⟨y,u,rfl,rfl⟩
   ·rw[joc]at h;exact YeZ x t j u _ _ _ _ h
   ·rw[job]at h;exact wpAny_eqBool_str h
 «strs»:=λk x t v h=>by
  rcases jat h with⟨i,u,rfl,e⟩|⟨y,u,rfl,e⟩
  ·exact nomatch e
  ·injection e with e1 _
   subst e1
   cases v<;>rfl

def jfV   prog w i t:(jam prog w).is (.inl i) (.int i t)=true:=jiq i t
def jfU   prog w x t:(jam prog w).is (.inr x) (.str x t)=true:=jip x t

inductive V where
 |non|bl (b:Bool)|int (i:Int)|str (x:Str)|byt (b:Array UInt8)|flt (b:UInt64)|ref (a:Addr)|ty (n:String)
 deriving DecidableEq

def RelV  : V->Value->Prop
 |.non,u=>u=Ybx
 |.bl b,u=>u=YeN b
 |.int i,u=>∃t,u=Yfd i t
 |.str x,u=>∃t,u=Yep x t
 |.byt b,u=>∃t,u=Value.bytes b t
 |.flt b,u=>∃t,u=Value.float b t
 |.ref a,u=>u=YaQ a
 |.ty n,u=>u=Value.type n

abbrev Vals  : List V->List Value->Prop:=Paired RelV
def Vals.length    (r:Vals xs us):xs.length=us.length:=YdG r
theorem Vals.get  : ∀{xs } {us } {i:Nat} {x },Vals xs us->xs[i]?=some x->∃u,us[i]?=some u/\RelV x u
 |_,_,_,_,.nil,e=>by simp at e
 |_,_,0,_,.cons r _,e=>by simp at e;subst e;exact⟨_,rfl,r⟩
 |_,_,i+1,x,.cons _ t,e=>by
  obtain⟨u,h1,h2⟩:=Vals.get (i:=i) (x:=x) t (by simpa using e)
  exact⟨u,by simpa using h1,h2⟩
theorem Vals.set    (r:RelV x u):∀{xs } {us } i ,Vals xs us->Vals (xs.set i x) (us.set i u)
 |_,_,_,.nil=>.nil
 |_,_,0,.cons _ t=>.cons r t
 |_,_,i+1,.cons q t=>.cons q (Vals.set r i t)
theorem Vals.append  : ∀{xs ys } {us ws },Vals xs us->Vals ys ws->Vals (xs++ys) (us++ws)
 |_,_,_,_,.nil,s=>s
 |_,_,_,_,.cons r t,s=>.cons r (Vals.append t s)
theorem Vals.take  : ∀{xs } {us } n ,Vals xs us->Vals (xs.take n) (us.take n)
 |_,_,0,_=>.nil
 |_,_,_+1,.nil=>.nil
 |_,_,n+1,.cons r t=>.cons r (Vals.take n t)
theorem Vals.drop  : ∀{xs } {us } n ,Vals xs us->Vals (xs.drop n) (us.drop n)
 |_,_,0,r=>r
 |_,_,_+1,.nil=>.nil
 |_,_,n+1,.cons _ t=>Vals.drop n t
def RelO  : Option V->Option Value->Prop
 |some v,some u=>RelV v u
 |none,none=>True
 |_,_=>False
def KV  {κ:Type}:List (κ×V)->List (κ×Value)->Prop:=Paired λ(p:κ×V) (q:κ×Value)=>p.1=q.1/\RelV p.2 q.2

noncomputable def kV  : Key->V
 |.inl i=>.int i
 |.inr x=>.str x

inductive HO where
 |lst (xs:List V)
 |tup (xs:List V)
 |dK (kvs:List (Key×V))|dT (kvs:List (List Key×V))
 |set (S:Int->Bool) (n:Nat)
 |ins (C dx:Addr) (fs:List (Str×V))
 |own (x:Addr)
 |xd (fs:List (Str×V))
 |met (f x:Addr)
 |rng (lo hi:Int)
 |frz (o:Obj) (u:HO)
 |tbl (ps:Array Value)
 |ext (φ:Heap->Prop)

abbrev Hp:=Addr->Option HO
noncomputable def upd  (H:Hp)(a:Addr)(o:HO):Hp:=λb=>if b=a then some o else H b
def jag     : upd H a o a=some o:=by unfold upd;rw[if_pos rfl]
def jad     (h:b≠a):upd H a o b=H b:=by unfold upd;rw[if_neg h]
def jpT  {H:Hp}(h:H a=some o)(h':H b=some u)(d:o≠u):a≠b:=by
 intro e;subst e;rw[h]at h';exact d (Yan h')
def jai  {H:Hp}(h:H a=some o)(h':H b=none):a≠b:=by
 intro e;subst e;rw[h]at h';cases h'

def TupD  (h:Heap)(a:Addr)(items:Array Value):Prop:=∃o,h.get? a=some o/\o.cls=.type "tuple" /\ ∃n,o.data=.seq items n/\o.dict=none
def TupD.tup     (x:TupD h a items):IsTup h a items:=let ⟨o,e,c,n,d,_⟩:=x;⟨o,e,c,n,d⟩
def TupD.new  (h:Heap) items:TupD (h.push { cls:=.type "tuple",data:=.seq items }) h.objs.size items:=⟨_,Yaq _ rfl,rfl,_,rfl,rfl⟩
section
variable (P:Program)(w:World)
def jaD (H:Hp)(h:Heap)(a:Addr):HO->Prop
 |.lst xs=>xs.length<=Yaf/\∃(its:List Value) (n:Nat),Vals xs its/\h.get? a=some { cls:=.type "list",data:=.seq its.toArray n }
 |.tup xs=>xs.length<=Yaf/\∃its:List Value,Vals xs its/\TupD h a its.toArray
 |.dK kvs=>kvs.length<=Yaf/\(a==Ya8)=false/\∃vs,KV kvs vs/\h.DictOf (jam P w) a vs
 |.dT kvs=>kvs.length<=Yaf/\(a==Ya8)=false/\∃xs:List (List Key×Addr×Value),
   Paired (λ(p:List Key×V) (q:List Key×Addr×Value)=>p.1=q.1/\H q.2.1=some (.tup (p.1.map kV))/\RelV p.2 q.2.2) kvs xs/\
   ∃o es ep,h.get? a=some o/\o.ExactDict/\o.data=.dict es ep/\es.toList=xs.map (entryOfKey (Yek (jam P w)))/\(xs.map (·.1)).Nodup
 |.set S n=>h.SetOf (intKind P w) a S n
 |.ins C dx fs=>H dx=some (.own a)/\fs.length<=1000/\dx≠a/\h.get? a=some (Yeb C dx)/\
   ∃mA,h.Ns1 dx mA/\(∀f,RelO (fs.lookup f) (mA f))/\PySem.Within mA (fs.map (·.1))
 |.own _=>∃o,h.get? a=some o
 |.xd fs=>∃mA,h.Ns1 a mA/\∀f,RelO (fs.lookup f) (mA f)
 |.rng lo hi=>∃t u v,h.get? a=some { cls:=.type "range",data:=.fields #[.int lo t,.int hi u,.int 1 v] }
 |.frz o u=>h.get? a=some o/\jaD H h a u
 |.tbl ps=>h.get? a=some { cls:=.none,data:=.fields ps }
 |.met f x=>h.get? a=some (YdR (.ref f) (.ref x))
 |.ext φ=>φ h/\(∃o,h.get? a=some o)/\∀h1 h2:Heap,φ h1->(∀o,h1.get? a=some o->h2.get? a=some o)->φ h2
def HOk (H:Hp)(h:Heap):Prop:=∀a o,H a=some o->jaD P w H h a o
end

section
variable {P:Program}{w:World}{H H':Hp}{h h':Heap}{a:Addr}{o:HO}
theorem jaD.lt  (x:jaD P w H h a o):a<h.objs.size:=by
 cases o with
 |lst xs=>obtain⟨_,_,_,_,e⟩:=x;exact Yak e
 |tup xs=>obtain⟨_,_,_,p⟩:=x;exact p.tup.lt
 |dK kvs=>obtain⟨_,_,_,_,o,_,_,e,_⟩:=x;exact Yak e
 |dT kvs=>obtain⟨_,_,_,_,o,_,_,e,_⟩:=x;exact Yak e
 |set S n=>obtain⟨o,_,_,_,e,_⟩:=x;exact Yak e
 |ins C dx fs=>obtain⟨_,_,_,e,_⟩:=x;exact Yak e
 |own y=>obtain⟨_,e⟩:=x;exact Yak e
 |xd fs=>obtain⟨_,⟨_,_,_,e,_⟩,_⟩:=x;exact Yak e
 |rng lo hi=>obtain⟨_,_,_,e⟩:=x;exact Yak e
 |frz ob u=>obtain⟨e,_⟩:=x;exact Yak e
 |tbl ps=>exact Yak (show h.get? a=some _ from x)
 |met f y=>exact Yak (show h.get? a=some _ from x)
 |ext φ=>obtain⟨_,⟨_,e⟩,_⟩:=x;exact Yak e
theorem Paired.mapP    : ∀{l₁ } {l₂ },Paired F l₁ l₂->(∀a b,F a b->G a b)->Paired G l₁ l₂
 |_,_,.nil,_=>.nil
 |_,_,.cons r t,f=>.cons (f _ _ r) (Paired.mapP t f)
def jaD.stay  (x:jaD P w H h a o)(k:∀b u,(b=a\/H b=some (.own a))->h.get? b=some u->h'.get? b=some u)
  (ho:∀b,H b=some (.own a)->H' b=some (.own a)) (ht:∀b xs,H b=some (.tup xs)->H' b=some (.tup xs)):jaD P w H' h' a o:=by
 induction o with
 |lst xs=>obtain⟨z,its,n,r,e⟩:=x;exact⟨z,its,n,r,k _ _ (.inl rfl) e⟩
 |tup xs=>obtain⟨z,its,r,ob,e,c⟩:=x;exact⟨z,its,r,ob,k _ _ (.inl rfl) e,c⟩
 |dK kvs=>obtain⟨z,y,vs,r,ob,es,ep,e,c⟩:=x;exact⟨z,y,vs,r,ob,es,ep,k _ _ (.inl rfl) e,c⟩
 |dT kvs=>
  obtain⟨z,y,xs,r,ob,es,ep,e,c⟩:=x;exact⟨z,y,xs,Paired.mapP r λp q z=>⟨z.1,ht _ _ z.2.1,z.2.2⟩,ob,es,ep,k _ _ (.inl rfl) e,c⟩
 |set S n=>obtain⟨ob,es,ep,t,e,c⟩:=x;exact⟨ob,es,ep,t,k _ _ (.inl rfl) e,c⟩
 |ins C dx fs=>
  obtain⟨d,z,ne,e,mA,⟨od,es,ep,e2,c⟩,r⟩:=x;exact⟨ho _ d,z,ne,k _ _ (.inl rfl) e,mA,⟨od,es,ep,k _ _ (.inr d) e2,c⟩,r⟩
 |own y=>obtain⟨ob,e⟩:=x;exact⟨ob,k _ _ (.inl rfl) e⟩
 |xd fs=>obtain⟨mA,⟨od,es,ep,e,c⟩,r⟩:=x;exact⟨mA,⟨od,es,ep,k _ _ (.inl rfl) e,c⟩,r⟩
 |rng lo hi=>obtain⟨t,u,v,e⟩:=x;exact⟨t,u,v,k _ _ (.inl rfl) e⟩
 |frz ob u ih=>obtain⟨e,q⟩:=x;exact⟨k _ _ (.inl rfl) e,ih q⟩
 |tbl ps=>
  have e:h.get? a=some { cls:=.none,data:=.fields ps }:=x;show h'.get? a=some { cls:=.none,data:=.fields ps };exact k a _ (.inl rfl) e
 |met f y=>
  have e:h.get? a=some (YdR (.ref f) (.ref y)):=x;show h'.get? a=some (YdR (.ref f) (.ref y));exact k a _ (.inl rfl) e
 |ext φ=>obtain⟨p,⟨o,e⟩,st⟩:=x;exact⟨st _ _ p λo q=>k _ _ (.inl rfl) q,⟨o,k _ _ (.inl rfl) e⟩,st⟩
def HOk.lt  (x:HOk P w H h)(e:H a=some o):a<h.objs.size:=(x a o e).lt
def HOk.fresh  (x:HOk P w H h)(e:h.objs.size<=a):H a=none:=by
 cases q:H a with
 |none=>rfl
 |some u=>exact absurd (Yap (x.lt q) e) (Ybo _)
def HOk.kept  (x:HOk P w H h)(k:∀b u,h.get? b=some u->h'.get? b=some u):HOk P w H h':=λa o e=>
 (x a o e).stay (λb u _ q=>k b u q) (λ_ q=>q) λ_ _ q=>q
def HOk.laid  (x:HOk P w H h)(k:∀b u,h.get? b=some u->h'.get? b=some u)(hp:h.objs.size<=a)(new:jaD P w (upd H a o) h' a o):HOk P w (upd H a o) h':=λb u e=>by
 have hn:=x.fresh hp;by_cases hb:b=a
 ·subst hb;rw[jag]at e;cases e;exact new
 ·rw[jad hb]at e;exact(x b u e).stay (λc v _ q=>k c v q) (λc q=>by rw[jad (jai q hn)];exact q) λc xs q=>by rw[jad (jai q hn)];exact q
end

def Rd  (H:Hp)(a:Addr)(u:HO):Prop:=H a=some u\/∃o,H a=some (.frz o u)
def Rd.ok        (r:Rd H a u)(x:HOk P w H h):jaD P w H h a u:=by
 rcases r with r|⟨o,r⟩
 ·exact x a u r
 ·obtain⟨_,q⟩:=x a _ r;exact q
def Mut  : Option HO->Prop
 |some (.lst _)=>True
 |some (.dK _)=>True
 |some (.dT _)=>True
 |some (.set _ _)=>True
 |some (.ins _ _ _)=>True
 |some (.ext _)=>True
 |_=>False

def HOk.write  (ok:HOk P w H h)(mu:Mut (H x))(he:e=x\/H e=some (.own x))(k:∀b u,b≠e->h.get? b=some u->h'.get? b=some u)(heo:∃u,h'.get? e=some u)
  (new:jaD P w (upd H x o') h' x o'):HOk P w (upd H x o') h':=λb u q=>by
 have nown:∀c y,H c=some (.own y)->c≠x:=λc y r z=>by subst z;rw[r]at mu;exact mu
 have ntup:∀c xs,H c=some (.tup xs)->c≠x:=λc xs r z=>by subst z;rw[r]at mu;exact mu
 by_cases hb:b=x
 ·subst hb;rw[jag]at q;cases q;exact new
 ·rw[jad hb]at q;by_cases hbe:b=e
  ·have q':H b=some (.own x):=by
    rcases he with z|z
    ·exact absurd (hbe.trans z) hb
    ·rw[hbe];exact z
   rw[q]at q';cases q';obtain⟨v,hv⟩:=heo;exact⟨v,by rw[hbe];exact hv⟩
  ·refine(ok b u q).stay (λc v hc r=>k c v ?_ r) (λc r=>by rw[jad (nown c b r)];exact r) λc xs r=>by rw[jad (ntup c xs r)];exact r
   rcases hc with rfl|hc
   ·exact hbe
   ·rintro rfl;rcases he with z|z
    ·exact nown c b hc z
    ·rw[hc]at z;cases z;exact hb rfl

structure Un (fs ex:List Addr)(H H':Hp)(h h':Heap):Prop where
 keep:∀b o,h.get? b=some o->H b=none->b∉fs->b∉ex->h'.get? b=some o
 slot:∀b o,h.get? b=some o->H b=none->b∈fs->b∉ex->∃sl,h'.get? b=some { o with slots:=sl }
 free:∀b o,h.get? b=some o->H b=none->b∉ex->H' b=none
 there:∀b o,h.get? b=some o->b∉ex->∃o',h'.get? b=some o'
 tups:∀b xs,H b=some (.tup xs)->H' b=some (.tup xs)
 frzs:∀b o u,H b=some (.frz o u)->H' b=some (.frz o u)
 tbls:∀b ps,H b=some (.tbl ps)->∃more,H' b=some (.tbl (ps++more))

def Un.any  (u:Un fs ex H H1 h h1)(q:h.get? b=some ob)(n:H b=none)(hx:b∉ex):∃sl,h1.get? b=some { ob with slots:=sl }:=by
 by_cases hb:b∈fs
 ·exact u.slot b ob q n hb hx
 ·exact⟨ob.slots,u.keep b ob q n hb hx⟩
def Un.trans  (a:Un fs ex H H1 h h1)(b:Un fs ex H1 H2 h1 h2):Un fs ex H H2 h h2 where
 keep:=λc ob q n hc hx=>b.keep c ob (a.keep c ob q n hc hx) (a.free c ob q n hx) hc hx
 slot:=λc ob q n hc hx=>by
  obtain⟨sl,e1⟩:=a.slot c ob q n hc hx;obtain⟨sl',e2⟩:=b.slot c _ e1 (a.free c ob q n hx) hc hx;exact⟨sl',e2⟩
 free:=λc ob q n hx=>by
  obtain⟨o',e1⟩:=a.there c ob q hx;exact b.free c o' e1 (a.free c ob q n hx) hx
 there:=λc ob q hx=>by
  obtain⟨o',e1⟩:=a.there c ob q hx;exact b.there c o' e1 hx
 tups:=λc xs q=>b.tups c xs (a.tups c xs q)
 frzs:=λc ob xs q=>b.frzs c ob xs (a.frzs c ob xs q)
 tbls:=λc ps q=>by
  obtain⟨m1,e1⟩:=a.tbls c ps q;obtain⟨m2,e2⟩:=b.tbls c _ e1;exact⟨m1++m2,by rw[e2,YfN]⟩
def Un.kept  (k:∀b u,h.get? b=some u->h'.get? b=some u):Un fs ex H H h h':=
 ⟨λb ob q _ _ _=>k b ob q,λb ob q _ _ _=>⟨ob.slots,k b ob q⟩,λ_ _ _ n _=>n,λb ob q _=>⟨ob,k b ob q⟩,λ_ _ q=>q,λ_ _ _ q=>q,λ_ ps q=>⟨#[],by rw[q];simp⟩⟩
def Un.refl  : Un fs ex H H h h:=Un.kept λ_ _ q=>q
def Un.laid  {h: Heap}{a: Addr}(k:∀b u,h.get? b=some u->h'.get? b=some u)(hp:h.objs.size<=a)(hn:H a=none):Un fs ex H (upd H a o) h h' where
 keep:=λb u q _ _ _=>k b u q
 slot:=λb u q _ _ _=>⟨u.slots,k b u q⟩
 free:=λb u q n _=>by rw[jad (YaI (Yap (Yak q) hp))];exact n
 there:=λb u q _=>⟨u,k b u q⟩
 tups:=λb xs q=>by rw[jad (jai q hn)];exact q
 frzs:=λb u xs q=>by rw[jad (jai q hn)];exact q
 tbls:=λb ps q=>⟨#[],by rw[jad (jai q hn),q];simp⟩
def Un.write  (mu:Mut (H x))(he:e=x\/H e=some (.own x))(k:∀b u,b≠e->h.get? b=some u->h'.get? b=some u)(heo:∃u,h'.get? e=some u):Un fs ex H (upd H x o) h h':=by
 have hx:∀b,H b=none->b≠x:=λb n z=>by subst z;rw[n]at mu;exact mu
 have hb:∀b,H b=none->b≠e:=λb n z=>by
  subst z;rcases he with r|r
  ·exact hx b n r
  ·rw[n]at r;cases r
 have hm:∀b u,H b=some u->¬Mut (some u)->b≠x:=λb u q nm z=>by subst z;rw[q]at mu;exact nm mu
 refine⟨λb u q n _ _=>k b u (hb b n) q,λb u q n _ _=>⟨u.slots,k b u (hb b n) q⟩,λb u q n _=>by rw[jad (hx b n)];exact n,λb u q _=>?_,
  λb xs q=>by rw[jad (hm b _ q λz=>z)];exact q,λb u xs q=>by rw[jad (hm b _ q λz=>z)];exact q,λb ps q=>⟨#[],by rw[jad (hm b _ q λz=>z),q];simp⟩⟩
 by_cases hbe:b=e
 ·subst hbe;exact heo
 ·exact⟨u,k b u hbe q⟩

noncomputable def trk  (h:Heap)(H:Hp):List Addr:=(YaH h.objs.size).filter λa=>(H a).isSome
noncomputable def hidT  (h:Heap)(H:Hp):Heap:=PySem.W.hideAll h (trk h H)
def jiD  (h:Heap) H:(hidT h H).objs.size=h.objs.size:=PySem.W.hideAll_size _ _
def jez      (e:h.get? b=some o)(n:H b=none):(hidT h H).get? b=some o:=
 PySem.W.hideAll_get _ e λhm=>by
  have q:(H b).isSome=true:=(List.mem_filter.mp hm).2;rw[n]at q;simp at q
def jlT      (e:(hidT h H).get? b=some o):h.get? b=some o/\H b=none:=by
 have e':h.get? b=some o:=PySem.W.of_hideAll (trk h H) e;refine⟨e',?_⟩;cases q:H b with
 |none=>rfl
 |some x=>
  have hm:b∈trk h H:=List.mem_filter.mpr ⟨List.mem_range.mpr (Yak e'),by simp[q]⟩
  have z:(hidT h H).get? b=none:=PySem.W.hideAll_none (trk h H) hm;rw[z]at e;cases e

noncomputable def jmB  (g h:Heap)(L:Addr):List (Addr×Obj):=(YaH h.objs.size).filterMap λa=>if a=L\/(g.get? a).isSome=true then none else (h.get? a).map λo=>(a,o)
noncomputable def rest  (g h:Heap)(L d:Addr):List (Addr×Obj):=(jmB g h L).filter λp=>decide (p.1≠d)

structure Mod (K:Yab)(mg:Str->Option Value)(base:Heap):Prop where
 kin:K.In base
 glob:base.Ns YaC mg
 blt:∃mb,base.Ns YdW mb/\∀x:Str,x ≠ "__name__" -> mb x=YbT x
 nolimit:base.NoLimit
 sys:∃o,K.lookup Ya8=some o/\o.cls=.type "dict"

structure Cx where
 prog:Program
 w:World
 K:Yab
 mg:Str->Option Value
 base:Heap
 A:Around
 N:List Str
 s₀:Shared
 H₀:Hp
 env:Env
 outer:List Env
 stack:List Env
 ex:List Addr
 fn:Str->Bool
 calm:Bool
 pn:List (Addr×Obj)
 xe:Value->Shared->Prop
noncomputable def frs  (l:List Env):List Addr:=l.filterMap (·.frame)
noncomputable abbrev Cx.fs  (X:Cx):List Addr:=frs X.outer

def Vis  (sc:Scope)(x:Str):Prop:=sc.names.lookup x=some .local\/sc.names.lookup x=some .cell\/sc.names.lookup x=some .free
def Loc  (sc:Scope)(x:Str):Prop:=sc.names.lookup x=some .local\/sc.names.lookup x=some .cell
def Look  (env:Env)(h:Heap)(m:Str->Option Value)(x:Str)(u:Value):Prop:=
 (env.kindOf x=some .local/\m x=some u)\/((env.kindOf x=some .cell\/env.kindOf x=some .free)/\∃c,env.cells.lookup x=some c/\h.IsCell c (some u))

structure Cx.Ok (X:Cx):Prop where
 mod:Mod X.K X.mg X.base
 kind:X.env.scope.kind=.function
 glob:X.env.globals=YaC
 blt:X.env.builtins=YdW
 above:X.s₀.heap.objs.size<=X.env.locals
 inj:∀x y c,X.env.cells.lookup x=some c->X.env.cells.lookup y=some c->x=y
 has:∀x,(X.env.kindOf x=some .cell\/X.env.kindOf x=some .free)->∃c,X.env.cells.lookup x=some c
 cab:∀x c,X.fn x=true->X.env.cells.lookup x=some c->X.s₀.heap.objs.size<=c
 hd:X.calm=true->X.A.handled=none
 frames:X.A.frames=some X.stack
 stk:X.stack=X.outer\/(X.stack=X.env::X.outer/\X.env.frame=some X.env.locals)
 exf:∀b∈X.ex,b≠X.env.locals/\∀x c,X.env.cells.lookup x=some c->c≠b
 bs:∀b o,X.base.get? b=some o->X.s₀.heap.get? b=some o/\X.H₀ b=none
 bsz:X.base.objs.size<=X.s₀.heap.objs.size
 noex:∀b o,X.base.get? b=some o->b∉X.ex
 exfs:∀b∈X.ex,b∉X.fs
 funs:X.s₀.heap.FunFrames X.base X.outer
 frf:∀b∈X.fs,X.H₀ b=none

structure Inv (X:Cx)(pins:List (Addr×Obj))(σ:List (Option V))(H:Hp)(s:Shared):Prop where
 ok:X.Ok
 os:s.os=X.s₀.os
 bare:AllBare s.gens
 base:Un X.fs X.ex X.H₀ H X.s₀.heap s.heap
 loc:∃m,s.heap.Ns X.env.locals m/\∀(i:Nat) (x:Str) (v:V),X.N[i]?=some x->σ[i]?=some (some v)->Vis X.env.scope x->∃u,RelV v u/\Look X.env s.heap m x u
 cell:∀x c,X.env.cells.lookup x=some c->∃v,s.heap.IsCell c v
 free:H X.env.locals=none
 freeC:∀x c,X.env.cells.lookup x=some c->H c=none
 pin:∀p∈X.pn++pins,s.heap.get? p.1=some p.2/\H p.1=none/\p.1≠X.env.locals/\p.1∉X.fs/\∀v,p.2.data≠.cell v
 hok:HOk X.prog X.w H s.heap
 len:σ.length=X.N.length

section
variable {X:Cx}{pins:List (Addr×Obj)}{σ:List (Option V)}{H H':Hp}{s:Shared}{h':Heap}

def Cx.Ok.nofr  (ok:X.Ok)(e:X.base.get? b=some o):b∉X.fs:=λhb=>by
 have:=(ok.funs.mem hb).1;rw[e]at this;cases this
def Inv.bs  (I:Inv X pins σ H s):∀b o,X.base.get? b=some o->s.heap.get? b=some o/\H b=none:=λb o e=>
 ⟨I.base.keep b o (I.ok.bs b o e).1 (I.ok.bs b o e).2 (I.ok.nofr e) (I.ok.noex b o e),I.base.free b o (I.ok.bs b o e).1 (I.ok.bs b o e).2 (I.ok.noex b o e)⟩
def Inv.bk  (I:Inv X pins σ H s):∀b o,X.base.get? b=some o->s.heap.get? b=some o:=λb o e=>(I.bs b o e).1
def Inv.mod  (I:Inv X pins σ H s):Mod X.K X.mg X.base:=I.ok.mod
def Inv.kIn  (I:Inv X pins σ H s):X.K.In s.heap:=I.ok.mod.kin.keeps I.bk
def Inv.lt  (I:Inv X pins σ H s):X.env.locals<s.heap.objs.size:=let ⟨_,hn,_⟩:=I.loc;hn.lt
def Inv.sz  (I:Inv X pins σ H s):X.s₀.heap.objs.size<=s.heap.objs.size:=Yai I.ok.above (YbQ I.lt)
def Inv.nofs  (I:Inv X pins σ H s){a:Addr}(h:s.heap.objs.size<=a):a∉X.fs:=λhb=>by
 obtain⟨_,o,ho,_⟩:=I.ok.funs.mem hb;exact absurd (Yap (Yak ho) (Yai I.sz h)) (Ybo _)
def Inv.cne  (I:Inv X pins σ H s):∀x c,X.env.cells.lookup x=some c->c≠X.env.locals:=λx c e z=>by
 obtain⟨v,o,ho,hd⟩:=I.cell x c e;obtain⟨m,⟨o',es,ep,ho',hd',_⟩,_⟩:=I.loc;rw[z,ho']at ho;cases ho;rw[hd']at hd;cases hd
theorem Inv.funs  (I:Inv X pins σ H s):s.heap.FunFrames X.base X.outer:=by
 have all:∀(l:List Env),(∀b∈frs l,b∈X.fs)->X.s₀.heap.FunFrames X.base l->s.heap.FunFrames X.base l:=by
  intro l
  induction l with
  |nil=>intro _ _;trivial
  |cons env r ih=>
   intro hs hl;obtain⟨hk,⟨L,o,hf,hn,ho,hd⟩,hr⟩:=hl;have hL:L∈X.fs:=hs L (by unfold frs;rw[YcQ,hf];exact Yat)
   obtain⟨sl,e⟩:=I.base.slot L o ho (I.ok.frf L hL) hL λz=>I.ok.exfs L z hL;exact⟨hk,⟨L,_,hf,hn,e,hd⟩,ih (λb hb=>hs b (by unfold frs;rw[YcQ,hf];exact Yah _ hb)) hr⟩
 exact all X.outer (λ_ hb=>hb) I.ok.funs

def Inv.stack  (I:Inv X pins σ H s):s.heap.FunFrames X.base X.stack:=by
 rcases I.ok.stk with e|⟨e,hf⟩
 ·rw[e];exact I.funs
 ·rw[e];obtain⟨m,hn,_⟩:=I.loc;refine .cons (by rw[I.ok.kind];decide) hf hn ?_ I.funs
  exact YdA (Yai I.ok.bsz I.ok.above)
def Inv.stkSub  (I:Inv X pins σ H s):∀b∈frs X.stack,b∈X.env.locals::X.fs:=λb hb=>by
 rcases I.ok.stk with e|⟨e,hf⟩
 ·rw[e]at hb;exact Yah _ hb
 ·rw[e]at hb;unfold frs at hb;rw[YcQ,hf]at hb;exact hb
def Inv.stkFree  (I:Inv X pins σ H s):∀b∈frs X.stack,H b=none:=λb hb=>by
 rcases YaG.mp (I.stkSub b hb)with e|hb
 ·rw[e];exact I.free
 ·obtain⟨_,o,ho,_⟩:=I.ok.funs.mem hb;exact I.base.free b o ho (I.ok.frf b hb) λz=>I.ok.exfs b z hb

def Inv.step     {ch:List Addr}(I:Inv X pins σ H s)
  (hch:∀b∈ch,(b∈X.ex\/X.s₀.heap.objs.size<=b)/\b≠X.env.locals/\(∀x c,X.env.cells.lookup x=some c->c≠b)/\∀p∈X.pn++pins,p.1≠b)
  (keep:∀b o,b≠X.env.locals->b∉X.fs->b∉ch->s.heap.get? b=some o->H b=none->h'.get? b=some o)
  (slot:∀b o,b≠X.env.locals->b∈X.fs->b∉ch->s.heap.get? b=some o->H b=none->∃sl,h'.get? b=some { o with slots:=sl }) (free:∀b o,b∉ch->s.heap.get? b=some o->H b=none->H' b=none)
  (there:∀b o,b∉ch->s.heap.get? b=some o->∃o',h'.get? b=some o')
  (tups:∀b xs,H b=some (.tup xs)->H' b=some (.tup xs)) (frzs:∀b o u,H b=some (.frz o u)->H' b=some (.frz o u)) (tbls:∀b ps,H b=some (.tbl ps)->∃more,H' b=some (.tbl (ps++more)))
  (ns:∀m,s.heap.Ns X.env.locals m->h'.Ns X.env.locals m) (hok:HOk X.prog X.w H' h') (hg:AllBare g') :
  Inv X pins σ H' { s with heap:=h',gens:=g',drawn:=d',toks:=t' }:=by
 have neL:∀b o,X.s₀.heap.get? b=some o->b≠X.env.locals:=λb o e=>YaI (Yap (Yak e) I.ok.above);have neC:∀b o,X.s₀.heap.get? b=some o->b∉X.ex->b∉ch:=λb o e hx hb=>by
  rcases(hch b hb).1 with z|z
  ·exact hx z
  ·exact absurd (Yap (Yak e) z) (Ybo _)
 have cellK:∀x c,X.env.cells.lookup x=some c->∀v,s.heap.IsCell c v->h'.IsCell c v:=λx c e v ⟨o,ho,hd⟩=>by
  have nch:c∉ch:=λz=>(hch c z).2.2.1 x c e rfl;by_cases hc:c∈X.fs
  ·obtain⟨sl,q⟩:=slot c o (I.cne x c e) hc nch ho (I.freeC x c e);exact⟨_,q,hd⟩
  ·exact⟨o,keep c o (I.cne x c e) hc nch ho (I.freeC x c e),hd⟩
 refine⟨I.ok,I.os,hg,⟨λb o e n hb hx=>?_,λb o e n hb hx=>?_,λb o e n hx=>?_,λb o e hx=>?_,λb xs e=>tups b xs (I.base.tups b xs e),λb o xs e=>frzs b o xs (I.base.frzs b o xs e),λb ps e=>?_⟩,?_,λx c e=>?_,?_,λx c e=>?_,λp hp=>?_,hok,I.len⟩
 ·exact keep b o (neL b o e) hb (neC b o e hx) (I.base.keep b o e n hb hx) (I.base.free b o e n hx)
 ·obtain⟨sl,e1⟩:=I.base.slot b o e n hb hx;obtain⟨sl',e2⟩:=slot b _ (neL b o e) hb (neC b o e hx) e1 (I.base.free b o e n hx);exact⟨sl',e2⟩
 ·obtain⟨o',e1⟩:=I.base.there b o e hx;exact free b o' (neC b o e hx) e1 (I.base.free b o e n hx)
 ·obtain⟨o',e1⟩:=I.base.there b o e hx;exact there b o' (neC b o e hx) e1
 ·obtain⟨m1,e1⟩:=I.base.tbls b ps e;obtain⟨m2,e2⟩:=tbls b _ e1;exact⟨m1++m2,by rw[e2,YfN]⟩
 ·obtain⟨m,hn,hl⟩:=I.loc;refine⟨m,ns m hn,λi x v e1 e2 e3=>?_⟩;obtain⟨u,r,l⟩:=hl i x v e1 e2 e3;refine⟨u,r,?_⟩;rcases l with l|⟨k,c,e,z⟩
  ·exact .inl l
  ·exact .inr ⟨k,c,e,cellK x c e _ z⟩
 ·obtain⟨v,z⟩:=I.cell x c e;exact⟨v,cellK x c e v z⟩
 ·obtain⟨m,⟨o,_,_,ho,_⟩,_⟩:=I.loc;exact free _ o (λz=>(hch _ z).2.1 rfl) ho I.free
 ·obtain⟨v,o,ho,hd⟩:=I.cell x c e;exact free c o (λz=>(hch c z).2.2.1 x c e rfl) ho (I.freeC x c e)
 ·obtain⟨e,n,ne,nf,d⟩:=I.pin p hp;have nch:p.1∉ch:=λz=>(hch p.1 z).2.2.2 p hp rfl;exact⟨keep p.1 p.2 ne nf nch e n,free p.1 p.2 nch e n,ne,nf,d⟩
def Inv.un   (I:Inv X pins σ H s)(u:Un X.fs [] H H' s.heap h')(hok:HOk X.prog X.w H' h'):Inv X pins σ H' { s with heap:=h',toks:=t' }:=by
 obtain⟨m,⟨o,es,ep,ho,r⟩,_⟩:=id I.loc;obtain⟨sl,hL⟩:=u.any ho I.free (by simp)
 exact I.step (g':=s.gens) (d':=s.drawn) (ch:=[]) (λ_ z=>nomatch z) (λb o _ hb _ e n=>u.keep b o e n hb (by simp)) (λb o _ hb _ e n=>u.slot b o e n hb (by simp)) (λb o _ e n=>u.free b o e n (by simp)) (λb o _ e=>u.there b o e (by simp)) u.tups u.frzs u.tbls (λm' hm=>by
  obtain⟨o',es',ep',ho',r'⟩:=hm;rw[ho]at ho';cases ho';exact⟨_,es',ep',hL,r'⟩) hok I.bare
def Inv.call      (I:Inv X pins σ H s)(u:Un (frs X.stack) ch H H' s.heap h')(hok:HOk X.prog X.w H' h')(hg:AllBare g')
  (hch:∀b∈ch,(b∈X.ex\/X.s₀.heap.objs.size<=b)/\b≠X.env.locals/\(∀x c,X.env.cells.lookup x=some c->c≠b)/\∀p∈X.pn++pins,p.1≠b) :
  Inv X pins σ H' { s with heap:=h',gens:=g',drawn:=d',toks:=t' }:=by
 obtain⟨m,⟨o,es,ep,ho,r⟩,_⟩:=id I.loc;obtain⟨sl,hL⟩:=u.any ho I.free λz=>(hch _ z).2.1 rfl;exact I.step (ch:=ch) hch (λb o hL hb hc e n=>u.keep b o e n (λz=>(YaG.mp (I.stkSub b z)).elim hL hb) hc) (λb o _ _ hc e n=>u.any e n hc) (λb o hc e n=>u.free b o e n hc) (λb o hc e=>u.there b o e hc) u.tups u.frzs u.tbls (λm' hm=>by
  obtain⟨o',es',ep',ho',r'⟩:=hm;rw[ho]at ho';cases ho';exact⟨_,es',ep',hL,r'⟩) hok hg
def Inv.turned    (I:Inv X pins σ H s)(k:∀b o,b≠it->s.heap.get? b=some o->h'.get? b=some o)(hn:H it=none)(hL:it≠X.env.locals)
  (h1:it∈X.ex\/X.s₀.heap.objs.size<=it) (h2:∀x c,X.env.cells.lookup x=some c->c≠it) (h3:∀p∈X.pn++pins,p.1≠it):Inv X pins σ H { s with heap:=h',toks:=t' }:=by
 have nit:∀b u,H b=some u->b≠it:=λb u e z=>by rw[z,hn]at e;cases e
 refine I.step (g':=s.gens) (d':=s.drawn) (ch:=[it]) (λb hb=>?_) (λb o _ _ hc e _=>k b o (λz=>hc (by simp[z])) e) (λb o _ _ hc e _=>⟨o.slots,k b o (λz=>hc (by simp[z])) e⟩) (λ_ _ _ _ n=>n)
  (λb o hc e=>⟨o,k b o (λz=>hc (by simp[z])) e⟩) (λ_ _ e=>e) (λ_ _ _ e=>e) (λb ps e=>⟨#[],by rw[e];simp⟩) (λm hm=>?_) (λb u e=>?_) I.bare
 ·have e:b=it:=by simpa using hb
  subst e;exact⟨h1,hL,h2,h3⟩
 ·obtain⟨o,es,ep,ho,r⟩:=hm;exact⟨o,es,ep,k _ o (Ne.symm hL) ho,r⟩
 ·refine(I.hok b u e).stay (λc v hc q=>k c v ?_ q) (λ_ q=>q) λ_ _ q=>q;rcases hc with z|z
  ·rw[z];exact nit b u e
  ·exact nit c _ z
def Inv.tok  (I:Inv X pins σ H s) t:Inv X pins σ H { s with toks:=t }:=I.un (h':=s.heap) (t':=t) Un.refl I.hok
def Inv.kept   (I:Inv X pins σ H s)(k:∀b u,s.heap.get? b=some u->h'.get? b=some u):Inv X pins σ H { s with heap:=h',toks:=t' }:=I.un (Un.kept k) (I.hok.kept k)
def Inv.laid  {a:Addr}(I:Inv X pins σ H s)(k:∀b u,s.heap.get? b=some u->h'.get? b=some u)(hp:s.heap.objs.size<=a)(new:jaD X.prog X.w (upd H a o) h' a o) :
  Inv X pins σ (upd H a o) { s with heap:=h',toks:=t' }:=I.un (Un.laid k hp (I.hok.fresh hp)) (I.hok.laid k hp new)
def Inv.write     (I:Inv X pins σ H s)(mu:Mut (H x))(he:e=x\/H e=some (.own x))(k:∀b u,b≠e->s.heap.get? b=some u->h'.get? b=some u)(heo:∃u,h'.get? e=some u)
  (new:jaD X.prog X.w (upd H x o) h' x o):Inv X pins σ (upd H x o) { s with heap:=h',toks:=t' }:=I.un (Un.write mu he k heo) (I.hok.write mu he k heo new)
def Inv.pins_of  {pins':List (Addr×Obj)}(I:Inv X pins σ H s)(h:∀p∈pins',s.heap.get? p.1=some p.2/\H p.1=none/\p.1≠X.env.locals/\p.1∉X.fs/\∀v,p.2.data≠.cell v):Inv X pins' σ H s:=
 ⟨I.ok,I.os,I.bare,I.base,I.loc,I.cell,I.free,I.freeC,λp hp=>(List.mem_append.mp hp).elim (λz=>I.pin p (Ybm _ z)) (h p),I.hok,I.len⟩

def jcS  {N:List Str}(hN:N.Nodup){i j:Nat}(a:N[i]?=some x)(b:N[j]?=some x):i=j:=by
 obtain⟨h1,e1⟩:=List.getElem?_eq_some_iff.mp a;obtain⟨h2,e2⟩:=List.getElem?_eq_some_iff.mp b;exact(Ygq hN).mp (e1.trans e2.symm)

section
variable {M:Model}{A:Around}{E:Value->Shared->Prop}{i:Nat}{x:Str}{v:V}{u:Value}{Q:Unit->Shared->Prop}
def jeQ (I:Inv X pins σ H s)(hN:X.N.Nodup)(hi:X.N[i]?=some x)(hx:Loc X.env.scope x)(r:RelV v u)
  (h:∀s',Inv X pins (σ.set i (some v)) H s'->(∃a,YcZ a s.heap s'.heap/\(a=X.env.locals\/X.env.cells.lookup x=some a))->Q () s') (hf:X.fn x=true\/X.env.scope.names.lookup x=some .local:=by first|exact .inl rfl|exact .inr rfl|assumption):wpAny M A (storeName X.env x u) Q E s:=by
 obtain⟨m,hn,hl⟩:=id I.loc;have hcls:(X.env.scope.kind == .class||(X.env.scope.kind == .module&&X.env.locals != X.env.globals))=false:=by rw[I.ok.kind];rfl
 have hiσ:i<σ.length:=by rw[I.len];exact(List.getElem?_eq_some_iff.mp hi).1
 have cne:=I.cne;have tracked:∀{a:Addr} {h':Heap},(∃o,s.heap.get? a=some o/\H a=none)->YcZ a s.heap h'->HOk X.prog X.w H h':=λ{a h'} ha hs b ob e=>by
  obtain⟨_,_,hfree⟩:=ha;refine(I.hok b ob e).stay (λc w' hc q=>(hs.2 c ?_).trans q) (λ_ q=>q) λ_ _ q=>q;rintro rfl;rcases hc with rfl|hc
  ·rw[hfree]at e;cases e
  ·rw[hfree]at hc;cases hc
 rcases hx with hk|hk
 ·refine wpAny_storeName_local hk hn (λh' hn' hs=>?_) hcls;obtain⟨oL,_,_,hoL,_⟩:=id hn;refine h _ ⟨I.ok,I.os,I.bare,⟨λb o e n hb hx=>?_,λb o e n hb hx=>?_,I.base.free,λb o e hx=>?_,I.base.tups,I.base.frzs,I.base.tbls⟩,⟨_,hn',λj y v' e1 e2 e3=>?_⟩,λy c e=>?_,I.free,I.freeC,λp hp=>?_,tracked ⟨oL,hoL,I.free⟩ hs,by simpa using I.len⟩ ⟨_,hs,.inl rfl⟩
  ·exact(hs.2 b (YaI (Yap (Yak e) I.ok.above))).trans (I.base.keep b o e n hb hx)
  ·obtain⟨sl,e1⟩:=I.base.slot b o e n hb hx;exact⟨sl,(hs.2 b (YaI (Yap (Yak e) I.ok.above))).trans e1⟩
  ·obtain⟨o',e1⟩:=I.base.there b o e hx;exact⟨o',(hs.2 b (YaI (Yap (Yak e) I.ok.above))).trans e1⟩
  ·by_cases hj:j=i
   ·subst hj;rw[hi]at e1;cases e1;rw[Ybu hiσ]at e2;cases e2;exact⟨u,r,.inl ⟨hk,by simp⟩⟩
   ·rw[Ya3 (Ne.symm hj)]at e2;obtain⟨u',r',q⟩:=hl j y v' e1 e2 e3;refine⟨u',r',?_⟩;rcases q with⟨k,e⟩|⟨k,c,e,z⟩
    ·refine .inl ⟨k,?_⟩;have:y≠x:=λe=>hj (jcS hN e1 (e ▸ hi));simp[this,e]
    ·exact .inr ⟨k,c,e,z.sameBut hs (cne y c e)⟩
  ·obtain⟨w',z⟩:=I.cell y c e;exact⟨w',z.sameBut hs (cne y c e)⟩
  ·obtain⟨e,n,ne,nf,d⟩:=I.pin p hp;exact⟨(hs.2 p.1 ne).trans e,n,ne,nf,d⟩
 ·have hfn:X.fn x=true:=by
   rcases hf with z|z
   ·exact z
   ·rw[z]at hk;cases hk
  obtain⟨c,hc⟩:=I.ok.has x (.inl hk);obtain⟨w',z⟩:=I.cell x c hc;refine wpAny_storeName_cell I.ok.kind hk hc z (λh' hc' hs=>?_);obtain⟨oc,hoc,hocd⟩:=id z;refine h { s with heap:=h' } ⟨I.ok,I.os,I.bare,⟨λb o e n hb hx=>?_,λb o e n hb hx=>?_,I.base.free,λb o e hx=>?_,I.base.tups,I.base.frzs,I.base.tbls⟩,⟨m,hn.sameBut hs (Ne.symm (cne x c hc)),λj y v' e1 e2 e3=>?_⟩,λy c' e=>?_,I.free,I.freeC,λp hp=>?_,tracked ⟨oc,hoc,I.freeC x c hc⟩ hs,by simpa using I.len⟩ ⟨c,hs,.inr hc⟩
  ·exact(hs.2 b (YaI (Yap (Yak e) (I.ok.cab x c hfn hc)))).trans (I.base.keep b o e n hb hx)
  ·obtain⟨sl,e1⟩:=I.base.slot b o e n hb hx;exact⟨sl,(hs.2 b (YaI (Yap (Yak e) (I.ok.cab x c hfn hc)))).trans e1⟩
  ·obtain⟨o',e1⟩:=I.base.there b o e hx;exact⟨o',(hs.2 b (YaI (Yap (Yak e) (I.ok.cab x c hfn hc)))).trans e1⟩
  ·by_cases hj:j=i
   ·subst hj;rw[hi]at e1;cases e1;rw[Ybu hiσ]at e2;cases e2;exact⟨u,r,.inr ⟨.inl hk,c,hc,hc'⟩⟩
   ·rw[Ya3 (Ne.symm hj)]at e2;obtain⟨u',r',q⟩:=hl j y v' e1 e2 e3;refine⟨u',r',?_⟩;rcases q with q|⟨k,c',e,z'⟩
    ·exact .inl q
    ·refine .inr ⟨k,c',e,z'.sameBut hs ?_⟩;rintro rfl;exact hj (jcS hN e1 (I.ok.inj _ _ _ e hc ▸ hi))
  ·by_cases hcc:c'=c
   ·subst hcc;exact⟨_,hc'⟩
   ·obtain⟨w2,z2⟩:=I.cell y c' e;exact⟨w2,z2.sameBut hs hcc⟩
  ·obtain⟨e,n,ne,nf,d⟩:=I.pin p hp;refine⟨(hs.2 p.1 ?_).trans e,n,ne,nf,d⟩;intro q;rw[q,hoc]at e;have q':oc=p.2:=Yan e;exact d w' (by rw[<- q'];exact hocd)
def jcO (I:Inv X pins σ H s)(hN:X.N.Nodup)(hi:X.N[i]?=some x)(hx:Loc X.env.scope x)(r:RelV v u)
  (h:∀s',Inv X pins (σ.set i (some v)) H s'->Q () s') (hf:X.fn x=true\/X.env.scope.names.lookup x=some .local:=by first|exact .inl rfl|exact .inr rfl|assumption):wpAny M A (storeName X.env x u) Q E s:=
 jeQ I hN hi hx r (λs' I' _=>h s' I') hf
end
def Inv.call'    (I:Inv X pins σ H s)(ho:s'.os=s.os)(u:Un (frs X.stack) ch H H' s.heap s'.heap)(hok:HOk X.prog X.w H' s'.heap)(hg:AllBare s'.gens)
  (hch:∀b∈ch,(b∈X.ex\/X.s₀.heap.objs.size<=b)/\b≠X.env.locals/\(∀x c,X.env.cells.lookup x=some c->c≠b)/\∀p∈X.pn++pins,p.1≠b):Inv X pins σ H' s':=by
 obtain⟨h',g',d',t',o'⟩:=s';have e:o'=s.os:=ho;subst e;exact I.call (g':=g') (t':=t') (d':=d') u hok hg hch
end

abbrev XK:=Value->Option Addr->Hp->Prop
abbrev St:=List (Option V)
abbrev VK:=V->Hp->Prop
abbrev TE:=St->Hp->VK->Prop
abbrev TT:=St->Hp->(Bool->Hp->Prop)->Prop
abbrev TA:=St->Hp->(List V->Hp->Prop)->Prop
structure Ends where
 nx:St->Hp->Prop
 rt:VK
 bk:St->Hp->Prop:=λ_ _=>False
 ct:St->Hp->Prop:=λ_ _=>False
abbrev TS:=Ends->St->Hp->Prop

def EP  (X:Cx)(pins:List (Addr×Obj))(σ:St)(Q:VK)(u:Value)(s':Shared):Prop:=∃v H',Inv X pins σ H' s'/\RelV v u/\Q v H'
def TP  (X:Cx)(pins:List (Addr×Obj))(σ:St)(Q:Bool->Hp->Prop)(b:Bool)(s':Shared):Prop:=∃H',Inv X pins σ H' s'/\Q b H'
def AP  (X:Cx)(pins:List (Addr×Obj))(σ:St)(Q:List V->Hp->Prop)(us:List Value)(s':Shared):Prop:=∃vs H',Inv X pins σ H' s'/\Vals vs us/\Q vs H'
def SP  (X:Cx)(pins:List (Addr×Obj))(D:Ends)(f:Flow)(s':Shared):Prop:=
 match f with
 |.next=>∃σ' H',Inv X pins σ' H' s'/\D.nx σ' H'
 |.brk=>∃σ' H',Inv X pins σ' H' s'/\D.bk σ' H'
 |.cont=>∃σ' H',Inv X pins σ' H' s'/\D.ct σ' H'
 |.ret u=>∃v σ' H',Inv X pins σ' H' s'/\RelV v u/\D.rt v H'

def PE  (X:Cx)(e:Expr)(t:TE):Prop:=
 ∀(pins:List (Addr×Obj)) (s:Shared) (σ:St) (H:Hp) (Q:VK),Inv X pins σ H s->t σ H Q->wpAny (model X.prog X.w) X.A (eval e X.env) (EP X pins σ Q) X.xe s
def PT  (X:Cx)(e:Expr)(t:TT):Prop:=
 ∀(pins:List (Addr×Obj)) (s:Shared) (σ:St) (H:Hp) (Q:Bool->Hp->Prop),Inv X pins σ H s->t σ H Q->wpAny (model X.prog X.w) X.A (isTrue e X.env (eval e X.env)) (TP X pins σ Q) X.xe s
def PW  (X:Cx)(e:Expr)(t:TT):Prop:=
 ∀(whole:Sem Value) (pins:List (Addr×Obj)) (s:Shared) (σ:St) (H:Hp) (Q:Bool->Hp->Prop),Inv X pins σ H s->t σ H Q->wpAny (model X.prog X.w) X.A (isTrue e X.env whole) (TP X pins σ Q) X.xe s
def PW.pt     (h:PW X e t):PT X e t:=h _
def PA  (X:Cx)(es:List Expr)(t:TA):Prop:=
 ∀(pos:Pos) (pins:List (Addr×Obj)) (s:Shared) (σ:St) (H:Hp) (Q:List V->Hp->Prop),Inv X pins σ H s->t σ H Q->wpAny (model X.prog X.w) X.A (spliced (backTo pos (Yax es X.env))) (AP X pins σ Q) X.xe s
def PS  (X:Cx)(st:Stmt)(t:TS):Prop:=
 ∀(pins:List (Addr×Obj)) (s:Shared) (σ:St) (H:Hp) (D:Ends),Inv X pins σ H s->t D σ H->wpAny (model X.prog X.w) X.A (exec st X.env) (SP X pins D) X.xe s
def PSs  (X:Cx)(st:List Stmt)(t:TS):Prop:=
 ∀(pins:List (Addr×Obj)) (s:Shared) (σ:St) (H:Hp) (D:Ends),Inv X pins σ H s->t D σ H->wpAny (model X.prog X.w) X.A (execs st X.env) (SP X pins D) X.xe s
def thn    {Q Q':α->Shared->Prop}(h:wpAny M A t Q E s)(hQ:∀a s,Q a s->Q' a s):wpAny M A t Q' E s:=YaO h hQ λ_ _ x=>x
section
variable {X:Cx}

def tVar  (i:Nat):TE:=λσ H Q=>∃v,σ[i]?=some (some v)/\Q v H
def tC  (v:V):TE:=λ_ H Q=>Q v H
def jbo {i:Nat}{x:Str}{pos:Pos}(hN:X.N[i]?=some x)(hv:Vis X.env.scope x)(hd:(x==("__debug__" : Str))=false:=by decide)(hcd:(x==("__classdict__" : Str))=false:=by decide):PE X (.Name x pos) (tVar i):=by
 intro pins s σ H Q I h;obtain⟨v,e,h⟩:=h;obtain⟨m,hn,hl⟩:=I.loc;obtain⟨u,r,l⟩:=hl i x v hN e hv;have fin:EP X pins σ Q u s:=⟨v,H,I,r,h⟩;rcases l with⟨hk,hm⟩|⟨hk,c,hc,hcell⟩
 ·exact wpAny_Name (wpAny_loadName_local I.ok.kind hk hn hm fin) hd
 ·rcases hk with hk|hk
  ·exact wpAny_Name (wpAny_loadName_cell I.ok.kind hk hc hcell fin) hd
  ·exact wpAny_Name (wpAny_loadName_free I.ok.kind hk hc hcell fin hcd) hd
def jkv   : PE X (.Constant (.int i) j pos) (tC (.int i)):=λ_ _ _ H _ I h=>wpAny_Constant_int ⟨.int i,H,I.tok _,⟨_,rfl⟩,h⟩
def jny   : PE X (.Constant (.bool b) j pos) (tC (.bl b)):=λ_ _ _ H _ I h=>Constant_bool ⟨.bl b,H,I,rfl,h⟩
def jnw   : PE X (.Constant .none j pos) (tC .non):=λ_ _ _ H _ I h=>Constant_none ⟨.non,H,I,rfl,h⟩
def jkt   : PE X (.Constant (.str x) j pos) (tC (.str x)):=λ_ _ _ H _ I h=>Calls.Constant_str ⟨.str x,H,I.tok _,⟨_,rfl⟩,h⟩

def Gl  (X:Cx)(x:Str):Prop:=X.env.kindOf x=some .globalImplicit
section
variable {E:Value->Shared->Prop}{pins:List (Addr×Obj)}{s:Shared}{σ:St}{H:Hp}{x:Str}{u:Value}{pos:Pos}{Q:Value->Shared->Prop}
def jcq (I:Inv X pins σ H s)(hg:Gl X x)(hm:X.mg x=some u)(h:Q u s)
  (hd:(x==("__debug__" : Str))=false:=by decide):wpAny (model X.prog X.w) X.A (eval (.Name x pos) X.env) Q E s:=
 YeD I.ok.kind hg (Calls.loadGlobal_global (by rw[I.ok.glob];exact I.mod.glob.keeps I.bk) hm h) hd
def jdT (I:Inv X pins σ H s)(hg:Gl X x)(hm:X.mg x=none)(hv:YbT x=some u)(h:Q u s)
  (hn:x ≠ "__name__" := by decide) (hd:(x==("__debug__" : Str))=false:=by decide):wpAny (model X.prog X.w) X.A (eval (.Name x pos) X.env) Q E s:=by
 obtain⟨mb,h1,h2⟩:=I.mod.blt;exact YeD I.ok.kind hg (Calls.loadGlobal_builtin (by rw[I.ok.glob];exact I.mod.glob.keeps I.bk) hm (by rw[I.ok.blt];exact h1.keeps I.bk) ((h2 x hn).trans hv) h) hd
end
section
variable {x:Str}{v:V}{u:Value}{pos:Pos}
def jhW (hg:Gl X x)(hm:X.mg x=some u)(r:RelV v u)(hd:(x==("__debug__" : Str))=false:=by decide):PE X (.Name x pos) (tC v):=
 λ_ _ _ H _ I h=>jcq I hg hm ⟨v,H,I,r,h⟩ hd
def jhX (hg:Gl X x)(hm:X.mg x=none)(hv:YbT x=some u)(r:RelV v u)(hn:x ≠ "__name__" := by decide)(hd:(x==("__debug__" : Str))=false:=by decide):PE X (.Name x pos) (tC v):=
 λ_ _ _ H _ I h=>jdT I hg hm hv ⟨v,H,I,r,h⟩ hn hd

end
variable {a b:Expr}{ta tb:TE}{pos:Pos}
def tB  (t:TE):TT:=λσ H Q=>t σ H λx H1=>∃c,x=.bl c/\Q c H1
def jnk {e:Expr}{t:TE}(h:PE X e t)(he:∀whole,isTrue e X.env whole=(do let v <- whole;standAt e.pos;holding [v] (truthy v)):=by intro _;rfl):PT X e (tB t):=by
 intro pins s σ H Q I hw;refine isTrue_plain (thn (h pins s σ H _ I hw) λv s1 ⟨x,H1,I1,r1,q1⟩=>?_) (he _);obtain⟨d,rfl,q⟩:=q1;cases r1;exact Yba ⟨H1,I1,q⟩

def tAnd  (t u:TT):TT:=λσ H Q=>t σ H λc H1=>if c=true then u σ H1 Q else Q false H1
def tOr  (t u:TT):TT:=λσ H Q=>t σ H λc H1=>if c=true then Q true H1 else u σ H1 Q
def tNot  (t:TT):TT:=λσ H Q=>t σ H λc H1=>Q (!c) H1
def pw_and1  (ha:PT X a tA):PW X (.BoolOp .And [a] pos) tA:=by
 intro wh pins s σ H Q I h;refine isTrue_and (thn (ha pins s σ H Q I h) λc s1 e=>?_);cases c with
 |true=>exact isTrue_and_nil e
 |false=>exact e
def pw_or1  (ha:PT X a tA):PW X (.BoolOp .Or [a] pos) tA:=by
 intro wh pins s σ H Q I h;refine isTrue_or (thn (ha pins s σ H Q I h) λc s1 e=>?_);cases c with
 |false=>exact isTrue_or_nil e
 |true=>exact e
def pw_and  {rest: List Expr}(ha:PT X a tA)(hb:PW X (.BoolOp .And (b::rest) pos) tB'):PW X (.BoolOp .And (a::b::rest) pos) (tAnd tA tB'):=by
 intro wh pins s σ H Q I h;refine isTrue_and (thn (ha pins s σ H _ I h) λc s1 ⟨H1,I1,q1⟩=>?_);cases c with
 |true=>exact hb wh pins s1 σ H1 Q I1 q1
 |false=>exact⟨H1,I1,q1⟩
def pw_or  {rest: List Expr}(ha:PT X a tA)(hb:PW X (.BoolOp .Or (b::rest) pos) tB'):PW X (.BoolOp .Or (a::b::rest) pos) (tOr tA tB'):=by
 intro wh pins s σ H Q I h;refine isTrue_or (thn (ha pins s σ H _ I h) λc s1 ⟨H1,I1,q1⟩=>?_);cases c with
 |true=>exact⟨H1,I1,q1⟩
 |false=>exact hb wh pins s1 σ H1 Q I1 q1
def jks  (ha:PT X a tA):PT X (.UnaryOp .Not a pos) (tNot tA):=by
 intro pins s σ H Q I h;exact isTrue_not (ha pins s σ H (λc H1=>Q (!c) H1) I h)
def jpn  (ta tb:TE):TE:=λσ H Q=>ta σ H λx H1=>∃c,x=.bl c/\if c=true then tb σ H1 Q else Q (.bl false) H1
def tOrV  (ta tb:TE):TE:=λσ H Q=>ta σ H λx H1=>∃c,x=.bl c/\if c=true then Q (.bl true) H1 else tb σ H1 Q
def jpi  (ta:TE):TE:=λσ H Q=>ta σ H λx H1=>∃c,x=.bl c/\Q (.bl (!c)) H1
def jgA    (h:PE X a t):PE X (.BoolOp op [a] pos) t:=λpins s σ H Q I hw=>BoolOp_one (h pins s σ H Q I hw)
def jnz  {rest: List Expr}(ha:PE X a ta)(hb:PE X (.BoolOp .And (b::rest) pos) tb):PE X (.BoolOp .And (a::b::rest) pos) (jpn ta tb):=by
 intro pins s σ H Q I h;refine BoolOp_and (thn (ha pins s σ H _ I h) λv s1 ⟨x,H1,I1,r1,q1⟩=>?_);obtain⟨c,rfl,q1⟩:=q1;cases r1;refine Yba ?_;cases c with
 |true=>exact hb pins s1 σ H1 Q I1 q1
 |false=>exact⟨.bl false,H1,I1,rfl,q1⟩
def jpJ  {rest: List Expr}(ha:PE X a ta)(hb:PE X (.BoolOp .Or (b::rest) pos) tb):PE X (.BoolOp .Or (a::b::rest) pos) (tOrV ta tb):=by
 intro pins s σ H Q I h;refine BoolOp_or (thn (ha pins s σ H _ I h) λv s1 ⟨x,H1,I1,r1,q1⟩=>?_);obtain⟨c,rfl,q1⟩:=q1;cases r1;refine Yba ?_;cases c with
 |false=>exact hb pins s1 σ H1 Q I1 q1
 |true=>exact⟨.bl true,H1,I1,rfl,q1⟩
def jnv  (ha:PE X a ta):PE X (.UnaryOp .Not a pos) (jpi ta):=by
 intro pins s σ H Q I h;refine UnaryOp_ (thn (ha pins s σ H _ I h) λv s1 ⟨x,H1,I1,r1,q1⟩=>?_);obtain⟨c,rfl,q1⟩:=q1;cases r1;exact not_of (Yba ⟨.bl (!c),H1,I1,rfl,q1⟩)
def tIf  (t:TT)(ta tb:TE):TE:=λσ H Q=>t σ H λc H1=>if c=true then ta σ H1 Q else tb σ H1 Q
def jjK   (hc:PT X c tA)(ha:PE X a ta)(hb:PE X b tb):PE X (.IfExp c a b pos) (tIf tA ta tb):=by
 intro pins s σ H Q I h;refine wpAny_IfExp (thn (hc pins s σ H _ I h) λd s1 ⟨H1,I1,q1⟩=>?_);cases d with
 |true=>exact ha pins s1 σ H1 Q I1 q1
 |false=>exact hb pins s1 σ H1 Q I1 q1
end

def SqL  (K:Yab)(H:Hp)(a:Addr)(xs:List V):Prop:=
 Rd H a (.lst xs)\/
  ∃(o:Obj) (its:Array Value) (n:Nat),K.lookup a=some o/\o.cls=.type "list" /\ o.dict=none/\o.data=.seq its n/\its.size<=Yaf/\Vals xs its.toList
def SqT  (K:Yab)(H:Hp)(a:Addr)(xs:List V):Prop:=
 Rd H a (.tup xs)\/
  ∃(o:Obj) (its:Array Value) (n:Nat),K.lookup a=some o/\o.cls=.type "tuple" /\ o.data=.seq its n/\its.size<=Yaf/\Vals xs its.toList
noncomputable def absV  : Value->Option V
 |.none=>some .non
 |.bool b=>some (.bl b)
 |.int i _=>some (.int i)
 |.str x _=>some (.str x)
 |.bytes b _=>some (.byt b)
 |.float b _=>some (.flt b)
 |.ref a=>some (.ref a)
 |.type n=>some (.ty n)
 |_=>none
def RelV.abs    (r:RelV x u):absV u=some x:=by
 cases x with
 |non=>cases r;rfl
 |bl _=>cases r;rfl
 |int _=>obtain⟨t,rfl⟩:=r;rfl
 |str _=>obtain⟨t,rfl⟩:=r;rfl
 |byt _=>obtain⟨t,rfl⟩:=r;rfl
 |flt _=>obtain⟨t,rfl⟩:=r;rfl
 |ref _=>cases r;rfl
 |ty _=>cases r;rfl
def RelV.inj    (r:RelV x u)(q:RelV y u):x=y:=Yan (r.abs.symm.trans q.abs)
theorem Vals.inj  : ∀{xs ys } {us },Vals xs us->Vals ys us->xs=ys
 |_,_,_,.nil,.nil=>rfl
 |_,_,_,.cons r t,.cons r' t'=>by rw[r.inj r',Vals.inj t t']

def SqL.of  {K:Yab}(h:H a=some (.lst xs)):SqL K H a xs:=.inl (.inl h)
def SqT.of  {K:Yab}(h:H a=some (.tup xs)):SqT K H a xs:=.inl (.inl h)
def Inv.list  {σ: St}(I:Inv X pins σ H s)(h:SqL X.K H a xs):∃its ,Vals xs its/\PlainL s.heap a its.toArray/\xs.length<=Yaf:=by
 rcases h with h|⟨o,its,n,hk,hc,hd,hs,hz,r⟩
 ·obtain⟨z,its,n,r,e⟩:=h.ok I.hok;exact⟨its,r,⟨_,n,e,rfl,rfl,rfl⟩,z⟩
 ·refine⟨its.toList,r,⟨o,n,I.kIn a o hk,hc,hd,by simpa using hs⟩,?_⟩
  have e:=r.length;simp only[Ycn]at e
  lia
def Inv.tuple  {σ: St}(I:Inv X pins σ H s)(h:SqT X.K H a xs):∃its ,Vals xs its/\IsTup s.heap a its.toArray/\xs.length<=Yaf:=by
 rcases h with h|⟨o,its,n,hk,hc,hs,hz,r⟩
 ·obtain⟨z,its,r,p⟩:=h.ok I.hok;exact⟨its,r,p.tup,z⟩
 ·refine⟨its.toList,r,⟨o,I.kIn a o hk,hc,n,by simpa using hs⟩,?_⟩
  have e:=r.length;simp only[Ycn]at e
  lia
def Inv.list_inj  {σ: St}(I:Inv X pins σ H s)(h:SqL X.K H a xs)(h':SqL X.K H a ys):xs=ys:=by
 obtain⟨its,r,⟨o,n,e,_,_,d⟩,_⟩:=I.list h;obtain⟨its',r',⟨o',n',e',_,_,d'⟩,_⟩:=I.list h';rw[e]at e';cases e';rw[d]at d';injection d' with d1 _
 have:its=its':=by simpa using congrArg Array.toList d1
 subst this;exact r.inj r'
def Inv.tuple_inj  {σ: St}(I:Inv X pins σ H s)(h:SqT X.K H a xs)(h':SqT X.K H a ys):xs=ys:=by
 obtain⟨its,r,⟨o,e,_,n,d⟩,_⟩:=I.tuple h;obtain⟨its',r',⟨o',e',_,n',d'⟩,_⟩:=I.tuple h';rw[e]at e';cases e';rw[d]at d';injection d' with d1 _
 have:its=its':=by simpa using congrArg Array.toList d1
 subst this;exact r.inj r'

noncomputable abbrev Cx.wish  (X:Cx)(E:Value->Shared->Prop):Cx:={ X with xe:=E }
def Cx.Ok.wish  {X:Cx}(ok:X.Ok) E:(X.wish E).Ok:=
 ⟨ok.mod,ok.kind,ok.glob,ok.blt,ok.above,ok.inj,ok.has,ok.cab,ok.hd,ok.frames,ok.stk,ok.exf,ok.bs,ok.bsz,ok.noex,ok.exfs,ok.funs,ok.frf⟩
def Cx.Ok.unwish  {X:Cx}(ok:(X.wish E).Ok):X.Ok:=
 ⟨ok.mod,ok.kind,ok.glob,ok.blt,ok.above,ok.inj,ok.has,ok.cab,ok.hd,ok.frames,ok.stk,ok.exf,ok.bs,ok.bsz,ok.noex,ok.exfs,ok.funs,ok.frf⟩
section
variable {X:Cx}{pins:List (Addr×Obj)}{σ:St}{H:Hp}{s:Shared}{E:Value->Shared->Prop}
def Inv.wish  (I:Inv X pins σ H s) E:Inv (X.wish E) pins σ H s:=⟨I.ok.wish E,I.os,I.bare,I.base,I.loc,I.cell,I.free,I.freeC,I.pin,I.hok,I.len⟩
def Inv.unwish  (I:Inv (X.wish E) pins σ H s):Inv X pins σ H s:=⟨I.ok.unwish,I.os,I.bare,I.base,I.loc,I.cell,I.free,I.freeC,I.pin,I.hok,I.len⟩
theorem SP.unwish     (h:SP (X.wish E) pins D f s'):SP X pins D f s':=by
 cases f with
 |next=>obtain⟨σ',H',I,q⟩:=h;exact⟨σ',H',I.unwish,q⟩
 |brk=>obtain⟨σ',H',I,q⟩:=h;exact⟨σ',H',I.unwish,q⟩
 |cont=>obtain⟨σ',H',I,q⟩:=h;exact⟨σ',H',I.unwish,q⟩
 |ret u=>obtain⟨v,σ',H',I,r,q⟩:=h;exact⟨v,σ',H',I.unwish,r,q⟩
end

section
variable {X:Cx}{st:Stmt}{rest:List Stmt}{t u:TS}{e:Expr}{te:TE}{pos:Pos}
def jpk  : TS:=λD σ H=>D.nx σ H
def tSeq  (t u:TS):TS:=λD σ H=>t { D with nx:=u D } σ H
def jfN  : PSs X [] jpk:=λ_ _ σ H _ I h=>YdM ⟨σ,H,I,h⟩
def jeh  (h1:PS X st t)(h2:PSs X rest u):PSs X (st::rest) (tSeq t u):=by
 intro pins s σ H D I h;refine Yb0 (thn (h1 pins s σ H { D with nx:=u D } I h) λf s1 q=>?_)
 cases f with
 |next=>
  obtain⟨σ',H',I',q⟩:=q;exact h2 pins s1 σ' H' D I' q
 |ret v=>exact q
 |brk=>exact q
 |cont=>exact q
def jls  (h1:PS X st t):PSs X [st] t:=by
 intro pins s σ H D I h;refine Yb0 (thn (h1 pins s σ H D I h) λf s1 q=>?_);cases f with
 |next=>exact YdM q
 |ret v=>exact q
 |brk=>exact q
 |cont=>exact q
def Inv.quiet   {σ:St}(I:Inv X pins σ H s):interactive X.env=false:=by simp[interactive,I.ok.kind]
def jpl  (te:TE):TS:=λD σ H=>te σ H λ_ H1=>D.nx σ H1
def jlu (he:PE X e te)(hs:Ycr e none pos.line X.env=pure false:=by rfl):PS X (.Expr e pos) (jpl te):=by
 intro pins s σ H D I h;exact wpAny_Expr_any (thn (he pins s σ H _ I h) λv s1 ⟨x,H1,I1,r1,q1⟩=>⟨σ,H1,I1,q1⟩) I.quiet hs
def tRet  (te:TE):TS:=λD σ H=>te σ H D.rt
def jnl  (he:PE X e te):PS X (.Return (some e) pos) (tRet te):=by
 intro pins s σ H D I h;exact wpAny_Return_some (thn (he pins s σ H _ I h) λv s1 ⟨x,H1,I1,r1,q1⟩=>⟨x,σ,H1,I1,r1,q1⟩)
def tIfS  (c:TT)(t u:TS):TS:=λD σ H=>c σ H λb H1=>if b=true then t D σ H1 else u D σ H1
def jnn     (hc:PT X c tc)(ha:PSs X a t)(hb:PSs X b u):PS X (.If c a b pos) (tIfS tc t u):=by
 intro pins s σ H D I h;refine wpAny_If (thn (hc pins s σ H _ I h) λd s1 ⟨H1,I1,q1⟩=>?_);cases d with
 |true=>exact ha pins s1 σ H1 D I1 q1
 |false=>exact hb pins s1 σ H1 D I1 q1
end

abbrev TG:=V->St->Hp->(St->Hp->Prop)->Prop
abbrev TGs:=List V->St->Hp->(St->Hp->Prop)->Prop
def PG  (X:Cx)(target:Expr)(t:TG):Prop:=
 ∀(pins:List (Addr×Obj)) (s:Shared) (σ:St) (H:Hp) (v:V) (u:Value) (Q:St->Hp->Prop),Inv X pins σ H s->RelV v u->t v σ H Q->
  wpAny (model X.prog X.w) X.A (assign target X.env u) (λ_ s'=>∃σ' H',Inv X pins σ' H' s'/\Q σ' H') X.xe s
def PGs  (X:Cx)(ts:List Expr)(t:TGs):Prop:=
 ∀(pins:List (Addr×Obj)) (s:Shared) (σ:St) (H:Hp) (vs:List V) (us:List Value) (Q:St->Hp->Prop),Inv X pins σ H s->Vals vs us->t vs σ H Q->
  wpAny (model X.prog X.w) X.A (assignInOrder ((YaZ ts X.env).map (·.2)) us) (λ_ s'=>∃σ' H',Inv X pins σ' H' s'/\Q σ' H') X.xe s
abbrev TSet:=V->V->V->Hp->(Hp->Prop)->Prop
def PSet  (X:Cx)(t:TSet):Prop:=
 ∀(pins:List (Addr×Obj)) (s:Shared) (σ:St) (H:Hp) (o i v:V) (ov iv u:Value) (Q:Hp->Prop),Inv X pins σ H s->RelV o ov->RelV i iv->RelV v u->t o i v H Q->
  wpAny (model X.prog X.w) X.A (setItem ov iv u) (λ_ s'=>∃H',Inv X pins σ H' s'/\Q H') X.xe s
section
variable {X:Cx}{pos:Pos}
def jiG  (i:Nat):TG:=λv σ H Q=>Q (σ.set i (some v)) H
def jfO {i:Nat}{x:Str}(hN:X.N.Nodup)(hi:X.N[i]?=some x)(hx:Loc X.env.scope x)(hf:X.fn x=true\/X.env.scope.names.lookup x=some .local:=by first|exact .inl rfl|exact .inr rfl|assumption):PG X (.Name x pos) (jiG i):=by
 intro pins s σ H v u Q I r h;exact wpAny_assign_Name (jcO I hN hi hx r (λs' I'=>⟨_,H,I',h⟩) hf)
def gNil  : TGs:=λvs σ H Q=>vs=[]/\Q σ H
def jp7  (t:TG)(u:TGs):TGs:=λvs σ H Q=>∃v r,vs=v::r/\t v σ H λσ' H'=>u r σ' H' Q
def jlC  : PGs X [] gNil:=by
 intro pins s σ H vs us Q I r h;obtain⟨e,h⟩:=h;subst e;cases r;exact assignInOrder_nil ⟨σ,H,I,h⟩
def jjI {e:Expr}{es:List Expr}{t:TG}{u:TGs}(h1:PG X e t)(h2:PGs X es u)
  (hs:(YaZ (e::es) X.env).map (·.2)=assign e X.env::(YaZ es X.env).map (·.2):=by rfl):PGs X (e::es) (jp7 t u):=by
 intro pins s σ H vs us Q I r h;obtain⟨v,vr,e1,h⟩:=h;subst e1;cases r with
 |cons r rr=>
  rw[hs];refine assignInOrder_cons (thn (h1 pins s σ H _ _ _ I r h) λ_ s1 ⟨σ1,H1,I1,q1⟩=>?_);exact h2 pins s1 σ1 H1 _ _ Q I1 rr q1
def gTup  (K:Yab)(n:Nat)(t:TGs):TG:=λv σ H Q=>∃a xs,v=.ref a/\SqT K H a xs/\xs.length=n/\t xs σ H Q
def jnr {es:List Expr}{k:Nat}{t:TGs}{n:Nat}(hc:X.calm=true)(h:PGs X es t)
  (hn:(YaZ es X.env).length=n:=by rfl) (hst:(YaZ es X.env).findIdx? (·.1)=none:=by rfl):PG X (.Tuple es k pos) (gTup X.K n t):=by
 intro pins s σ H v u Q I r hw;obtain⟨a,xs,e1,hq,hl,hw⟩:=hw;subst e1;cases r;obtain⟨its,rv,ht,hz⟩:=I.tuple hq;refine assign_Tuple_tuple (I.ok.hd hc) ht (by simp[hn,<- hl,rv.length]) hst λh' hx=>?_
 have I1:Inv X pins σ H { s with heap:=h' }:=I.kept (t':=s.toks) λb o e=>hx b o (YaI (Yak e)) e
 exact h pins _ σ H xs _ Q I1 (by simpa using rv) hw
def gSub  (to ti:TE)(t:TSet):TG:=λv σ H Q=>to σ H λo H1=>ti σ H1 λi H2=>t o i v H2 λH3=>Q σ H3
def jns {o i:Expr}{to ti:TE}{t:TSet}(ho:PE X o to)(hi:PE X i ti)(hs:PSet X t)
  (ha:∀v,assign (.Subscript o i pos) X.env v=(do
   let ov <- holding [v] (eval o X.env)
   let iv <- holding [v,ov] (eval i X.env)
   standAt pos
   holding [v,ov,iv] (setItem ov iv v)
   release [v,ov,iv] []):=by intro _;rfl):PG X (.Subscript o i pos) (gSub to ti t):=by
 intro pins s σ H v u Q I r h;rw[ha];refine Yac (Ybe (thn (ho pins s σ H _ I h) λov s1 ⟨x,H1,I1,r1,q1⟩=>?_));refine Yac (Ybe (thn (hi pins s1 σ H1 _ I1 q1) λiv s2 ⟨y,H2,I2,r2,q2⟩=>?_));refine Yac (Yck (Yac (Ybe (thn (hs pins s2 σ H2 x y v ov iv u _ I2 r1 r2 r q2) λ_ s3 ⟨H3,I3,q3⟩=>?_))));exact wpAny_release ⟨σ,H3,I3,q3⟩
def tAsg  (te:TE)(g:TG):TS:=λD σ H=>te σ H λx H1=>g x σ H1 D.nx
def jgw {tg e:Expr}{te:TE}{g:TG}(he:PE X e te)(hg:PG X tg g)(hs:YbH [tg] e pos.line X.env=pure false:=by rfl)(hw:Ybs [tg] e X.env=pure none:=by rfl)
  (h1:(YaZ [tg] X.env).map (·.2)=[assign tg X.env]:=by rfl):PS X (.Assign [tg] e pos) (tAsg te g):=by
 intro pins s σ H D I h;refine wpAny_Assign_stores (thn (he pins s σ H _ I h) λv s1 ⟨x,H1,I1,r1,q1⟩=>?_) hs hw;rw[h1];exact thn (hg pins s1 σ H1 x v _ I1 r1 q1) λ_ s2 q=>q
def PGet  (X:Cx)(t:V->V->Hp->VK->Prop):Prop:=
 ∀(pins:List (Addr×Obj)) (s:Shared) (σ:St) (H:Hp) (o i:V) (ov iv:Value) (Q:VK),Inv X pins σ H s->RelV o ov->RelV i iv->t o i H Q->
  wpAny (model X.prog X.w) X.A (getItem ov iv) (EP X pins σ Q) X.xe s
end



structure It where
 go:Nat->Hp->Prop
 yld:Nat->Hp->V->Hp->Prop
 stop:Nat->Hp->Prop
def FpOk  (X:Cx)(pins:List (Addr×Obj))(H:Hp)(b:Addr):Prop:=
 H b=none/\b≠X.env.locals/\b∉X.fs/\(b∈X.ex\/X.s₀.heap.objs.size<=b)/\(∀x c,X.env.cells.lookup x=some c->c≠b)/\∀p∈X.pn++pins,p.1≠b
def Inv.fpOk    {σ:St}{b:Addr}(I:Inv X pins σ H s)(hb:s.heap.objs.size<=b)(hn:H' b=none):FpOk X pins H' b:=by
 refine⟨hn,Nat.ne_of_gt (Yap I.lt hb),I.nofs hb,.inr (Yai I.sz hb),λx c e z=>?_,λp hp z=>?_⟩
 ·obtain⟨v,q⟩:=I.cell x c e;exact absurd (Yap q.lt (by rw[z];exact hb)) (Ybo _)
 ·exact absurd (Yap (Yak (I.pin p hp).1) (by rw[z];exact hb)) (Ybo _)
structure Turn (P:Program)(w:World)(K:Yab)(tg:Expr)(J:It)(fp:List Addr)(it:Addr)(tn:Nat->Heap->Prop):Prop where
 mem:it∈fp
 obj:∀i h,tn i h->∀b∈fp,∃o,h.get? b=some o/\∀v,o.data≠.cell v
 keep:∀i h h',tn i h->(∀b∈fp,∀o,h.get? b=some o->h'.get? b=some o)->tn i h'
 item:∀(X:Cx),X.prog=P->X.w=w->X.K=K->X.calm=true->∀(i:Nat) (pins:List (Addr×Obj)) (s:Shared) (σ:St) (H:Hp) (E:Value->Shared->Prop),Inv X pins σ H s->(∀b∈fp,FpOk X pins H b)->tn i s.heap->J.go i H->
  wpAny (model P w) X.A (pyNext (.ref it)) (λr s1=>∃u,r=some u/\
   wpAny (model P w) X.A (Yc5 tg (.ref it) u) (λ_ s2=>∃x H',Inv X pins σ H' s2/\RelV x u/\J.yld i H x H'/\tn (i+1) s2.heap/\∀b∈fp,H' b=none) E s1) E s
 done:∀(X:Cx),X.prog=P->X.w=w->X.K=K->X.calm=true->∀(i:Nat) (pins:List (Addr×Obj)) (s:Shared) (σ:St) (H:Hp) (E:Value->Shared->Prop),Inv X pins σ H s->(∀b∈fp,FpOk X pins H b)->tn i s.heap->J.stop i H->
  wpAny (model P w) X.A (pyNext (.ref it)) (λr s1=>r=none/\Inv X pins σ H s1) E s
 self:∀(A:Around) (i:Nat) (s:Shared) (Q:Value->Shared->Prop) (E:Value->Shared->Prop),tn i s.heap->Q (.ref it) s->wpAny (model P w) A (pyIter (.ref it)) Q E s
abbrev TI:=St->Hp->(It->Hp->Prop)->Prop
def PIE  (X:Cx)(pins:List (Addr×Obj))(σ:St)(tg:Expr)(R:It->Hp->Prop)(itv:Value)(s2:Shared):Prop:=
 ∃(it:Addr) (fp:List Addr) (tn:Nat->Heap->Prop) (J:It) (H':Hp),itv=.ref it/\Inv X pins σ H' s2/\Turn X.prog X.w X.K tg J fp it tn/\tn 0 s2.heap/\(∀b∈fp,FpOk X pins H' b)/\R J H'
def PI  (X:Cx)(tg iter:Expr)(wi:TI):Prop:=
 ∀(pins:List (Addr×Obj)) (s:Shared) (σ:St) (H:Hp) (R:It->Hp->Prop),Inv X pins σ H s->wi σ H R->
  wpAny (model X.prog X.w) X.A (eval iter X.env) (λv s1=>wpAny (model X.prog X.w) X.A (pyIter v) (PIE X pins σ tg R) X.xe s1) X.xe s

def jj5             (ho : s.heap.get? it = some o)(hc : o.cls = .type n)(hd : o.data = .fields vs)
    (hn : ["enumerate", "zip", "dict_itemiterator", "dict_reverseitemiterator", "odict_iterator", "itertools.zip_longest", "itertools.pairwise"].contains n = false) (hQ : Q () s) : wpAny M A (Yc5 tg (.ref it) u) Q E s := by
  unfold Yc5
  cases tg <;> first
    | exact Yaj hQ
    | (cases u <;> first
        | exact Yaj hQ
        | (refine Yac (wpAny_load ho ?_)
           rw [hc, hd]
           show wpAny M A (if (["enumerate", "zip", "dict_itemiterator", "dict_reverseitemiterator", "odict_iterator", "itertools.zip_longest", "itertools.pairwise"].contains n && vs[0]? == some (rawInt _)) = true then _ else _) Q E s
           rw [if_neg (by intro h; rw [hn, Bool.false_and] at h; cases h)]
           exact Yaj hQ))

noncomputable def Itl  (K:Yab)(a:Addr):It:=
 ⟨λi H=>∃xs x,SqL K H a xs/\xs[i]?=some x,λi H x H'=>H'=H/\∀xs,SqL K H a xs->xs[i]?=some x,λi H=>∃xs,SqL K H a xs/\xs.length<=i⟩
noncomputable def Itt  (K:Yab)(a:Addr):It:=
 ⟨λi H=>∃xs x,SqT K H a xs/\xs[i]?=some x,λi H x H'=>H'=H/\∀xs,SqT K H a xs->xs[i]?=some x,λi H=>∃xs,SqT K H a xs/\xs.length<=i⟩
noncomputable def Itr  (lo:Int)(n:Nat):It:=⟨λi _=>i<n,λi H x H'=>H'=H/\x=.int (lo+i),λi _=>n<=i⟩
def jhy    {K:Yab} a it:Turn P w K tg (Itl K a) [it] it (λi h=>h.IsListIter it a i) where
 mem:=by simp
 obj:=λi h st b hb=>by
  have e:b=it:=by simpa using hb
  subst e;obtain⟨o,e,c,d⟩:=st;exact⟨o,e,λv z=>by rw[d]at z;cases z⟩
 keep:=λi h h' st k=>st.at λo e=>k it (by simp) o e
 item:=by
  intro X hP hw hK hc i pins s σ H E I hf st hg;subst hP hw hK;obtain⟨xs,x,hq,hx⟩:=hg;obtain⟨its,rv,p,hz⟩:=I.list hq;obtain⟨u,hu,ru⟩:=rv.get hx;obtain⟨f0,f1,f2,f3,f4,f5⟩:=hf it (by simp)
  refine Yf2 st p.isList (x:=u) (by simpa using hu) λh' st' sb=>?_
  have I1:Inv X pins σ H { s with heap:=h' }:=I.turned (t':=s.toks) (λb o hb e=>(sb.2 b hb).trans e) f0 f1 f3 f4 f5
  obtain⟨o,e,c,d⟩:=id st';exact⟨u,rfl,jj5 (s:={ s with heap:=h' }) e c d (by decide) ⟨x,H,I1,ru,⟨rfl,λys hy=>by rw[I.list_inj hy hq];exact hx⟩,st',λb hb=>(hf b hb).1⟩⟩
 done:=by
  intro X hP hw hK hc i pins s σ H E I hf st hg;subst hP hw hK;obtain⟨xs,hq,hx⟩:=hg;obtain⟨its,rv,p,hz⟩:=I.list hq;obtain⟨f0,f1,f2,f3,f4,f5⟩:=hf it (by simp)
  have hl:=rv.length;exact Ygg (I.ok.hd hc) st p.isList (by simp;lia) λh' eb=>⟨rfl,I.turned (t':=s.toks) (λb o hb e=>eb b o hb e) f0 f1 f3 f4 f5⟩
 self:=λ_ _ _ _ _ st h=>wpAny_pyIter_listiter st h
def jg1    {K:Yab} a it:Turn P w K tg (Itt K a) [it] it (λi h=>h.IsTupleIter it a i) where
 mem:=by simp
 obj:=λi h st b hb=>by
  have e:b=it:=by simpa using hb
  subst e;obtain⟨o,e,c,d⟩:=st;exact⟨o,e,λv z=>by rw[d]at z;cases z⟩
 keep:=λi h h' st k=>st.at λo e=>k it (by simp) o e
 item:=by
  intro X hP hw hK hc i pins s σ H E I hf st hg;subst hP hw hK;obtain⟨xs,x,hq,hx⟩:=hg;obtain⟨its,rv,p,hz⟩:=I.tuple hq;obtain⟨u,hu,ru⟩:=rv.get hx;obtain⟨f0,f1,f2,f3,f4,f5⟩:=hf it (by simp)
  refine wpAny_pyNext_tuple_item st (show s.heap.IsTuple a its.toArray from p) (x:=u) (by simpa using hu) λh' st' sb=>?_
  have I1:Inv X pins σ H { s with heap:=h' }:=I.turned (t':=s.toks) (λb o hb e=>(sb.2 b hb).trans e) f0 f1 f3 f4 f5
  obtain⟨o,e,c,d⟩:=id st';exact⟨u,rfl,jj5 (s:={ s with heap:=h' }) e c d (by decide) ⟨x,H,I1,ru,⟨rfl,λys hy=>by rw[I.tuple_inj hy hq];exact hx⟩,st',λb hb=>(hf b hb).1⟩⟩
 done:=by
  intro X hP hw hK hc i pins s σ H E I hf st hg;subst hP hw hK;obtain⟨xs,hq,hx⟩:=hg;obtain⟨its,rv,p,hz⟩:=I.tuple hq;obtain⟨f0,f1,f2,f3,f4,f5⟩:=hf it (by simp)
  have hl:=rv.length;exact wpAny_pyNext_tuple_end (I.ok.hd hc) st (show s.heap.IsTuple a its.toArray from p) (by simp;lia) λh' eb=>⟨rfl,I.turned (t':=s.toks) (λb o hb e=>eb b o hb e) f0 f1 f3 f4 f5⟩
 self:=λ_ _ _ _ _ st h=>wpAny_pyIter_tupleiter st h
def jg2    {K:Yab} it lo n:Turn P w K tg (Itr lo n) [it] it (λi h=>IsRangeIter h it (lo+(i:Nat)*1) ((n:Int)-(i:Nat)) 1) where
 mem:=by simp
 obj:=λi h st b hb=>by
  have e:b=it:=by simpa using hb
  subst e;exact⟨_,st,λv z=>by
   have z':Data.fields _=Data.cell v:=z;cases z'⟩
 keep:=λi h h' st k=>k it (by simp) _ st
 item:=by
  intro X hP hw hK hc i pins s σ H E I hf st hg;subst hP hw hK;obtain⟨f0,f1,f2,f3,f4,f5⟩:=hf it (by simp)
  have W:=Walks.range (prog:=X.prog) (w:=X.w) (I.ok.hd hc) it lo 1 n;refine W.item i s _ _ hg st λv h' tk hv st' kk=>?_;obtain⟨t,rfl⟩:=hv;have I1:Inv X pins σ H { s with heap:=h',toks:=tk }:=I.turned (λb o hb e=>kk b o (by simpa using hb) e) f0 f1 f3 f4 f5
  refine⟨_,rfl,jj5 (s:={ s with heap:=h',toks:=tk }) (n := "range_iterator") st' rfl rfl (by decide) ⟨.int (lo+i),H,I1,⟨t,?_⟩,⟨rfl,rfl⟩,st',λb hb=>(hf b hb).1⟩⟩
  rw[Int.mul_one]
 done:=by
  intro X hP hw hK hc i pins s σ H E I hf st hg;subst hP hw hK;obtain⟨f0,f1,f2,f3,f4,f5⟩:=hf it (by simp)
  exact wpAny_pyNext_range_end (I.ok.hd hc) st (by have:n<=i:=hg;lia) λh' eb=>⟨rfl,I.turned (t':=s.toks) (λb o hb e=>eb b o hb e) f0 f1 f3 f4 f5⟩
 self:=λ_ _ _ _ _ st h=>wpAny_pyIter_rangeiter st h
section
variable {X:Cx}{tg:Expr}
def jgv   {σ:St}{lo hi:Int}(I:Inv X pins σ H s)(h1:-(2 ^ 62)<=lo)(h2:lo<2 ^ 62)(h3:-(2 ^ 62)<=hi)(h4:hi<2 ^ 62)
  (q:R (Itr lo (hi-lo).toNat) H):wpAny (model X.prog X.w) X.A (pyIter (.ref s.heap.objs.size)) (PIE X pins σ tg R) E { s with heap:=s.heap.push { cls:=.type "range",data:=.fields #[.int lo t,.int hi u,.int 1 v] },toks:=tk }:=by
 refine wpAny_pyIter_range (IsRange.new ..) (small_one h1 h2 h3 h4) ?_;have I1:Inv X pins σ H { s with heap:=s.heap.push { cls:=.type "range",data:=.fields #[.int lo t,.int hi u,.int 1 v] },toks:=tk }:=I.kept λb o e=>Yad _ e
 refine⟨(s.heap.push { cls:=.type "range",data:=.fields #[.int lo t,.int hi u,.int 1 v] }).objs.size,[(s.heap.push { cls:=.type "range",data:=.fields #[.int lo t,.int hi u,.int 1 v] }).objs.size],_,_,H,rfl,
  I1.kept (t':=tk) λb o e=>Yad _ e,jg2 _ lo (hi-lo).toNat,?_,λb hb=>?_,q⟩
 ·have e1:lo+((0:Nat):Int)*1=lo:=by simp
  have e2:(((hi-lo).toNat:Nat):Int)-((0:Nat):Int)=Builtin.Range.rangeSize lo hi 1:=by rw[rangeSize_one];split<;>lia
  show IsRangeIter _ _ (lo+((0:Nat):Int)*1) ((((hi-lo).toNat:Nat):Int)-((0:Nat):Int)) 1;rw[e1,e2];exact Yaq _ rfl
 ·have e:b=(s.heap.push { cls:=.type "range",data:=.fields #[.int lo t,.int hi u,.int 1 v] }).objs.size:=by simpa using hb
  subst e;exact I1.fpOk (Yag _) (I1.hok.fresh (Yag _))
def jp4  (ta:TA):TI:=λσ H R=>ta σ H λvs H1=>∃j:Int,vs=[.int j]/\-(2 ^ 62)<=j/\j<2 ^ 62/\R (Itr 0 j.toNat) H1
def jp3  (ta:TA):TI:=λσ H R=>ta σ H λvs H1=>∃i j:Int,vs=[.int i,.int j]/\(-(2 ^ 62)<=i/\i<2 ^ 62/\-(2 ^ 62)<=j/\j<2 ^ 62)/\R (Itr i (j-i).toNat) H1
def jhU {a:Expr}{ta:TA}{p pos:Pos}(hg:Gl X "range")(hm:X.mg "range" = none)(ha:PA X [a] ta)(hs:Yax [a] X.env=[(false,eval a X.env)]:=by rfl):PI X tg (.Call (.Name "range" p) [a] [] pos) (jp4 ta):=by
 intro pins s σ H R I h;refine Call_ (jdT I hg hm boot_range (YbO (thn (ha pos pins s σ H _ I h) λus s1 ⟨vs,H1,I1,r1,q1⟩=>?_) hs rfl));obtain⟨j,e,q1,q2,q⟩:=q1;subst e;cases r1 with
 |cons r rr=>
  cases rr;obtain⟨t,rfl⟩:=r;exact call_range_1 (jgv I1 (by lia) (by lia) q1 q2 (by simpa using q))
def jhT {a b:Expr}{ta:TA}{p pos:Pos}(hg:Gl X "range")(hm:X.mg "range" = none)(ha:PA X [a,b] ta)(hs:Yax [a,b] X.env=[(false,eval a X.env),(false,eval b X.env)]:=by rfl)(hs2:Yax [b] X.env=[(false,eval b X.env)]:=by rfl) :
  PI X tg (.Call (.Name "range" p) [a,b] [] pos) (jp3 ta):=by
 intro pins s σ H R I h;refine Call_ (jdT I hg hm boot_range (YbO (thn (ha pos pins s σ H _ I h) λus s1 ⟨vs,H1,I1,r1,q1⟩=>?_) (by rw[hs,hs2]) (by rw[hs2];rfl)))
 obtain⟨i,j,e,⟨q1,q2,q3,q4⟩,q⟩:=q1;subst e;cases r1 with
 |cons r rr=>
  cases rr with
  |cons r' rr=>
   cases rr;obtain⟨t,rfl⟩:=r;obtain⟨t',rfl⟩:=r';exact call_range_2 (jgv I1 q1 q2 q3 q4 q)

def tFor  (wi:TI)(g:TG)(tb:TS):TS:=λD σ H=>wi σ H λJ H1=>∃W:Nat->Nat->St->Hp->Prop,(∃m,W 0 m σ H1)/\∀i m σ H,W i m σ H->
 (J.stop i H/\D.nx σ H)\/(J.go i H/\∃N:St->Hp->Prop,(∀σ' H',N σ' H'->∃m',m'<m/\W (i+1) m' σ' H')/\∀x H',J.yld i H x H'->g x σ H' λσ2 H2=>tb { D with nx:=N,ct:=N,bk:=D.nx } σ2 H2)
noncomputable def jeV  (fp:List Addr)(h:Heap):List (Addr×Obj):=fp.filterMap λb=>(h.get? b).map λo=>(b,o)
def jbI      (hb:b∈fp)(e:h.get? b=some o):(b,o)∈jeV fp h:=List.mem_filterMap.mpr ⟨b,hb,by rw[e];rfl⟩
def jh9     (hp:p∈jeV fp h):p.1∈fp/\h.get? p.1=some p.2:=by
 obtain⟨b,hb,e⟩:=List.mem_filterMap.mp hp;cases q:h.get? b with
 |none=>rw[q]at e;cases e
 |some o=>
  rw[q]at e;have e':(b,o)=p:=Yan e;subst e';exact⟨hb,q⟩
def Inv.pinned   {σ:St}(I:Inv X pins σ H s)(hf:∀b∈fp,FpOk X pins H b)(ho:∀b∈fp,∃o,s.heap.get? b=some o/\∀v,o.data≠.cell v):Inv X (pins++jeV fp s.heap) σ H s:=
 I.pins_of λp hp=>(List.mem_append.mp hp).elim (λz=>I.pin p (YaD _ z)) λz=>by
  obtain⟨hb,e⟩:=jh9 z;obtain⟨f0,f1,f2,_⟩:=hf p.1 hb;obtain⟨o,e',d⟩:=ho p.1 hb;rw[e]at e';cases e';exact⟨e,f0,f1,f2,d⟩
def Inv.unpinned   {σ:St}(I:Inv X (pins++pl) σ H s):Inv X pins σ H s:=I.pins_of λp hp=>I.pin p (YaD _ (Ybm _ hp))
def jno {iter:Expr}{body:List Stmt}{wi:TI}{g:TG}{tb:TS}{pos:Pos}(hp:Yes (model X.prog X.w) X.A X.env X.xe)(hc:X.calm=true)(hi:PI X tg iter wi)(hg:PG X tg g)(hb:PSs X body tb)
  (hs:∀x,Ya4 iter X.env x=pure x:=by intro _;rfl):PS X (.For tg iter body [] pos) (tFor wi g tb):=by
 intro pins s σ H D I h;refine wpAny_For (thn (hi pins s σ H _ I h) λv s1 h1=>thn h1 λitv s2 h2=>?_) hs;obtain⟨it,fp,tn,J,H2,e,I2,T,st2,f2,W,⟨m0,w0⟩,turn⟩:=h2;subst e;have stat:∀{H':Hp},(∀b∈fp,H' b=none)->∀b∈fp,FpOk X pins H' b:=λhn b hb=>⟨hn b hb,(f2 b hb).2⟩;refine codeAny_forLoop_any (λn s'=>∃i σ' H',Inv X pins σ' H' s'/\tn i s'.heap/\(∀b∈fp,H' b=none)/\W i n σ' H') ?_ m0 ⟨0,σ,H2,I2,st2,λb hb=>(f2 b hb).1,w0⟩;rintro n s3 ⟨i,σ3,H3,I3,st3,fr3,w3⟩;rcases turn i n σ3 H3 w3 with⟨stop,qn⟩|⟨go,N,hN,step⟩
 ·refine Yc3 hp (thn (T.done X rfl rfl rfl hc i pins s3 σ3 H3 X.xe I3 (stat fr3) st3 stop) λr s4 ⟨hr,I4⟩=>?_);subst hr;exact YdM ⟨σ3,H3,I4,qn⟩
 ·refine Yc3 hp (thn (T.item X rfl rfl rfl hc i pins s3 σ3 H3 X.xe I3 (stat fr3) st3 go) λr s4 ⟨u,hr,h4⟩=>?_);subst hr;refine Yc3 hp (thn h4 λ_ s5 ⟨x,H5,I5,r5,y5,st5,fr5⟩=>?_);have I5':=I5.pinned (stat fr5) (T.obj _ _ st5);refine Yc3 hp (thn (hg _ s5 σ3 H5 x u _ I5' r5 (step x H5 y5)) λ_ s6 ⟨σ6,H6,I6,q6⟩=>?_);refine Yc3 hp (thn (hb _ s6 σ6 H6 _ I6 q6) λf s7 q7=>?_);have again:∀{σ7:St} {H7:Hp},Inv X (pins++jeV fp s5.heap) σ7 H7 s7->N σ7 H7->∃m,m<n/\∃i σ' H',Inv X pins σ' H' s7/\tn i s7.heap/\(∀b∈fp,H' b=none)/\W i m σ' H':=λ{σ7 H7} I7 n7=>by
   obtain⟨m',hm,w7⟩:=hN σ7 H7 n7;refine⟨m',hm,i+1,σ7,H7,I7.unpinned,T.keep _ _ _ st5 λb hb o e=>(I7.pin (b,o) (YaD _ (YaD _ (jbI hb e)))).1,λb hb=>?_,w7⟩;obtain⟨o,e,d⟩:=T.obj _ _ st5 b hb;exact(I7.pin (b,o) (YaD _ (YaD _ (jbI hb e)))).2.1
  cases f with
  |next=>obtain⟨σ7,H7,I7,n7⟩:=q7;exact again I7 n7
  |cont=>obtain⟨σ7,H7,I7,n7⟩:=q7;exact again I7 n7
  |brk=>obtain⟨σ7,H7,I7,q7⟩:=q7;exact⟨σ7,H7,I7.unpinned,q7⟩
  |ret v=>obtain⟨x7,σ7,H7,I7,r7,q7⟩:=q7;exact⟨x7,σ7,H7,I7.unpinned,r7,q7⟩
end


abbrev R2:=V->V->Hp->VK->Prop
def OpR  (X:Cx)(f:Value->Value->Sem Value)(r:R2):Prop:=
 ∀(pins:List (Addr×Obj)) (s:Shared) (σ:St) (H:Hp) (x y:V) (v u:Value) (Q:VK),Inv X pins σ H s->RelV x v->RelV y u->r x y H Q->
  wpAny (model X.prog X.w) X.A (f v u) (EP X pins σ Q) X.xe s
def UnR  (X:Cx)(f:Value->Sem Value)(r:V->Hp->VK->Prop):Prop:=
 ∀(pins:List (Addr×Obj)) (s:Shared) (σ:St) (H:Hp) (x:V) (v:Value) (Q:VK),Inv X pins σ H s->RelV x v->r x H Q->
  wpAny (model X.prog X.w) X.A (f v) (EP X pins σ Q) X.xe s
def jaU  (X:Cx)(f:Value)(r:List V->Hp->VK->Prop):Prop:=
 ∀(pins:List (Addr×Obj)) (s:Shared) (σ:St) (H:Hp) (xs:List V) (us:List Value) (Q:VK),Inv X pins σ H s->Vals xs us->r xs H Q->
  wpAny (model X.prog X.w) X.A (call f us) (EP X pins σ Q) X.xe s
def TruR  (X:Cx)(r:V->Hp->(Bool->Hp->Prop)->Prop):Prop:=
 ∀(pins:List (Addr×Obj)) (s:Shared) (σ:St) (H:Hp) (x:V) (v:Value) (Q:Bool->Hp->Prop),Inv X pins σ H s->RelV x v->r x H Q->
  wpAny (model X.prog X.w) X.A (truthy v) (TP X pins σ Q) X.xe s

def tOp  (r:R2)(ta tb:TE):TE:=λσ H Q=>ta σ H λx H1=>tb σ H1 λy H2=>r x y H2 Q
def tUn  (r:V->Hp->VK->Prop)(ta:TE):TE:=λσ H Q=>ta σ H λx H1=>r x H1 Q
def rI  (C:Int->Int->Prop)(g:Int->Int->V):R2:=λx y H Q=>∃i j,x=.int i/\y=.int j/\C i j/\Q (g i j) H
def rI0  (g:Int->Int->V):R2:=λx y H Q=>∃i j,x=.int i/\y=.int j/\Q (g i j) H
def rU  (g:Int->V):V->Hp->VK->Prop:=λx H Q=>∃i,x=.int i/\Q (g i) H


def binT  (ha:PE X a ta)(hb:PE X b tb){σ:St}{R:V->V->Hp->Prop}(I:Inv X pins σ H s)
  (h:ta σ H λx H1=>tb σ H1 λy H2=>R x y H2) {f:Value->Value->Sem Value}
  (hf:∀v u s2 x y H2,Inv X pins σ H2 s2->RelV x v->RelV y u->R x y H2->wpAny (model X.prog X.w) X.A (f v u) Q X.xe s2) :
  wpAny (model X.prog X.w) X.A (eval a X.env) (λv s₁=>wpAny (model X.prog X.w) X.A (eval b X.env) (λu s₂=>wpAny (model X.prog X.w) X.A (f v u) Q X.xe s₂) X.xe s₁) X.xe s:=by
 refine thn (ha pins s σ H _ I h) λv s1 ⟨x,H1,I1,r1,q1⟩=>?_;refine thn (hb pins s1 σ H1 _ I1 q1) λu s2 ⟨y,H2,I2,r2,q2⟩=>?_;exact hf v u s2 x y H2 I2 r1 r2 q2

def jpK    (ho:OpR X (Ybg op) r)(ha:PE X a ta)(hb:PE X b tb):PE X (.BinOp a op b pos) (tOp r ta tb):=by
 intro pins s σ H Q I h;exact wpAny_BinOp (binT ha hb I h λv u s2 x y H2 I2 rx ry q=>ho pins s2 σ H2 x y v u Q I2 rx ry q)
def jpI    (ho:UnR X (unaryOp op) r)(ha:PE X a ta):PE X (.UnaryOp op a pos) (tUn r ta):=by
 intro pins s σ H Q I h;exact UnaryOp_ (thn (ha pins s σ H _ I h) λv s1 ⟨x,H1,I1,r1,q1⟩=>ho pins s1 σ H1 x v Q I1 r1 q1)
def opI    {g:Int->Int->Int}
  (rule:∀i j t u (s:Shared) Q E ,C i j->Q (.int (g i j) s.toks) { s with toks:=s.toks+1 }->wpAny (model X.prog X.w) X.A (f (.int i t) (.int j u)) Q E s) :
  OpR X f (rI C λi j=>.int (g i j)):=by
 intro pins s σ H x y v u Q I rx ry h;obtain⟨i,j,rfl,rfl,hc,q⟩:=h;obtain⟨t,rfl⟩:=rx;obtain⟨t',rfl⟩:=ry;exact rule i j t t' s _ _ hc ⟨.int (g i j),H,I.tok _,⟨_,rfl⟩,q⟩
def opI0   {g:Int->Int->Int}
  (rule:∀i j t u (s:Shared) Q E ,Q (.int (g i j) s.toks) { s with toks:=s.toks+1 }->wpAny (model X.prog X.w) X.A (f (.int i t) (.int j u)) Q E s) :
  OpR X f (rI0 λi j=>.int (g i j)):=by
 intro pins s σ H x y v u Q I rx ry h;obtain⟨i,j,rfl,rfl,q⟩:=h;obtain⟨t,rfl⟩:=rx;obtain⟨t',rfl⟩:=ry;exact rule i j t t' s _ _ ⟨.int (g i j),H,I.tok _,⟨_,rfl⟩,q⟩
def opB0   {g:Int->Int->Bool}
  (rule:∀i j t u s Q E ,Q (.bool (g i j)) s->wpAny (model X.prog X.w) X.A (f (.int i t) (.int j u)) Q E s) :
  OpR X f (rI0 λi j=>.bl (g i j)):=by
 intro pins s σ H x y v u Q I rx ry h;obtain⟨i,j,rfl,rfl,q⟩:=h;obtain⟨t,rfl⟩:=rx;obtain⟨t',rfl⟩:=ry;exact rule i j t t' s _ _ ⟨.bl (g i j),H,I,rfl,q⟩

def CDiv  (i j:Int):Prop:=0<j/\j<1073741824
def CPow  (i j:Int):Prop:=0<=j/\j<=1000000/\i.natAbs<2 ^ 64
def CMul  (i j:Int):Prop:=(-(2 ^ 64)<i/\i<2 ^ 64)\/(-(2 ^ 64)<j/\j<2 ^ 64)
def CMul.ok   (h:CMul i j):IntMulOk i j:=by
 rcases h with⟨h1,h2⟩|⟨h1,h2⟩
 ·exact .of_left (intBits_le_64 h1 h2)
 ·exact .of_right (intBits_le_64 h1 h2)
def jnT  : OpR X (Ybg .Add) (rI0 λi j=>.int (i+j)):=opI0 λ_ _ _ _ _ _ _ q=>add_int q
def jnI  : OpR X (Ybg .Sub) (rI0 λi j=>.int (i-j)):=opI0 λ_ _ _ _ _ _ _ q=>sub_int q
def jnM  : OpR X (Ybg .Mult) (rI CMul λi j=>.int (i*j)):=opI λ_ _ _ _ _ _ _ hc q=>mul_int q hc.ok
def jlM  : OpR X (Ybg .FloorDiv) (rI CDiv λi j=>.int (i/j)):=opI λi j _ _ _ _ _ hc q=>by
 have h1:(0:Int)<j:=hc.1;have h2:j<1073741824:=hc.2;exact floordiv_int (by lia) (by rw[Int.fdiv_eq_ediv_of_nonneg i (by lia)];exact q) (.inl (PyProof.noPylong_small (by lia)))
def jnN  : OpR X (Ybg .Mod) (rI (λ_ j=>0<j) λi j=>.int (i%j)):=opI λi j _ _ _ _ _ hc q=>by
 have h1:(0:Int)<j:=hc;exact mod_int' (by lia) (by rw[Int.fmod_eq_emod_of_nonneg i (by lia)];exact q)
def jnK  : OpR X (Ybg .Pow) (rI CPow λi j=>.int (i ^ j.toNat)):=opI λ_ _ _ _ _ _ _ hc q=>pow_int_small hc.1 hc.2.1 hc.2.2 q
def unI   {g:Int->Int}
  (rule:∀i t (s:Shared) Q E ,Q (.int (g i) s.toks) { s with toks:=s.toks+1 }->wpAny (model X.prog X.w) X.A (f (.int i t)) Q E s) :
  UnR X f (rU λi=>.int (g i)):=by
 intro pins s σ H x v Q I rx h;obtain⟨i,rfl,q⟩:=h;obtain⟨t,rfl⟩:=rx;exact rule i t s _ _ ⟨.int (g i),H,I.tok _,⟨_,rfl⟩,q⟩
def jmE  : UnR X (unaryOp .USub) (rU λi=>.int (-i)):=unI λ_ _ _ _ _ q=>neg_int q

noncomputable def scal  : V->V->Bool
 |.non,.non=>true|.non,.int _=>true|.int _,.non=>true|.non,.bl _=>true|.bl _,.non=>true|.non,.str _=>true|.str _,.non=>true
 |.int _,.int _=>true|.bl _,.bl _=>true|.str _,.str _=>true|.byt _,.byt _=>true
 |.int _,.str _=>true|.str _,.int _=>true|.bl _,.str _=>true|.str _,.bl _=>true
 |_,_=>false
def rEq  : R2:=λx y H Q=>scal x y=true/\Q (.bl (decide (x=y))) H
def rNe  : R2:=λx y H Q=>scal x y=true/\Q (.bl (!decide (x=y))) H

def jiP   : decide (V.int i=V.int j)=(i==j):=by
 rw[Ya5];simp
def jkQ   : decide (V.bl i=V.bl j)=(i==j):=by
 rw[Ya5];simp
def jiO   : decide (V.str i=V.str j)=(i==j):=by
 rw[Ya5];simp
def jiQ   : decide (V.byt i=V.byt j)=(i.toList==j.toList):=by
 rw[Ya5];cases i;cases j;simp

section
variable {X:Cx}{a b c:Expr}{ta tb tc:TE}{pos:Pos}
def jak   {σ:St}(I:Inv X pins σ H s)(q:Q (.bl k) H)(e:k=k'):EP X pins σ Q (.bool k') s:=by
 subst e;exact⟨.bl k,H,I,rfl,q⟩
def jpS  : OpR X (YaN .Eq) rEq:=by
 intro pins s σ H x y v u Q I rx ry h;obtain⟨hs,q⟩:=h;cases x with
 |non=>
  cases rx;cases y with
  |non=>cases ry;exact PySem.EqNone.eq_none_none (jak I q (by simp))
  |bl j=>cases ry;exact PySem.EqNone.eq_none_bool (jak I q (by simp))
  |int j=>obtain⟨t',rfl⟩:=ry;exact PySem.EqNone.eq_none_int (jak I q (by simp))
  |str j=>obtain⟨t',rfl⟩:=ry;exact PySem.EqNone.eq_none_str (jak I q (by simp))
  |_=>exact absurd (show false=true from hs) Yal
 |bl i=>
  cases rx;cases y with
  |non=>cases ry;exact PySem.EqNone.eq_bool_none (jak I q (by simp))
  |bl j=>cases ry;exact eq_bool (jak I q jkQ)
  |str j=>obtain⟨t',rfl⟩:=ry;exact PySem.EqMixed.eq_bool_str (jak I q (by simp))
  |_=>exact absurd (show false=true from hs) Yal
 |int i=>
  obtain⟨t,rfl⟩:=rx;cases y with
  |non=>cases ry;exact PySem.EqNone.eq_int_none (jak I q (by simp))
  |int j=>obtain⟨t',rfl⟩:=ry;exact eq_int (jak I q jiP)
  |str j=>obtain⟨t',rfl⟩:=ry;exact PySem.EqMixed.eq_int_str (jak I q (by simp))
  |_=>exact absurd (show false=true from hs) Yal
 |str i=>
  obtain⟨t,rfl⟩:=rx;cases y with
  |non=>cases ry;exact PySem.EqNone.eq_str_none (jak I q (by simp))
  |bl j=>cases ry;exact PySem.EqMixed.eq_str_bool (jak I q (by simp))
  |int j=>obtain⟨t',rfl⟩:=ry;exact PySem.EqMixed.eq_str_int (jak I q (by simp))
  |str j=>obtain⟨t',rfl⟩:=ry;exact eq_str (jak I q jiO)
  |_=>exact absurd (show false=true from hs) Yal
 |byt i=>
  obtain⟨t,rfl⟩:=rx;cases y with
  |byt j=>obtain⟨t',rfl⟩:=ry;exact PySem.W.eq_bytes (jak I q jiQ)
  |_=>exact absurd (show false=true from hs) Yal
 |_=>cases y<;>exact absurd (show false=true from hs) Yal
def jpN  : OpR X (YaN .NotEq) rNe:=by
 intro pins s σ H x y v u Q I rx ry h;obtain⟨hs,q⟩:=h;cases x with
 |non=>
  cases rx;cases y with
  |non=>cases ry;exact PySem.EqNone.ne_none_none (jak I q (by simp))
  |bl j=>cases ry;exact PySem.EqNone.ne_none_bool (jak I q (by simp))
  |int j=>obtain⟨t',rfl⟩:=ry;exact PySem.EqNone.ne_none_int (jak I q (by simp))
  |str j=>obtain⟨t',rfl⟩:=ry;exact PySem.EqNone.ne_none_str (jak I q (by simp))
  |_=>exact absurd (show false=true from hs) Yal
 |bl i=>
  cases rx;cases y with
  |non=>cases ry;exact PySem.EqNone.ne_bool_none (jak I q (by simp))
  |bl j=>cases ry;exact ne_bool (jak I q (congrArg not jkQ))
  |str j=>obtain⟨t',rfl⟩:=ry;exact PySem.EqMixed.ne_bool_str (jak I q (by simp))
  |_=>exact absurd (show false=true from hs) Yal
 |int i=>
  obtain⟨t,rfl⟩:=rx;cases y with
  |non=>cases ry;exact PySem.EqNone.ne_int_none (jak I q (by simp))
  |int j=>obtain⟨t',rfl⟩:=ry;exact ne_int (jak I q (congrArg not jiP))
  |str j=>obtain⟨t',rfl⟩:=ry;exact PySem.EqMixed.ne_int_str (jak I q (by simp))
  |_=>exact absurd (show false=true from hs) Yal
 |str i=>
  obtain⟨t,rfl⟩:=rx;cases y with
  |non=>cases ry;exact PySem.EqNone.ne_str_none (jak I q (by simp))
  |bl j=>cases ry;exact PySem.EqMixed.ne_str_bool (jak I q (by simp))
  |int j=>obtain⟨t',rfl⟩:=ry;exact PySem.EqMixed.ne_str_int (jak I q (by simp))
  |str j=>obtain⟨t',rfl⟩:=ry;exact ne_str (jak I q (congrArg not jiO))
  |_=>exact absurd (show false=true from hs) Yal
 |byt i=>
  obtain⟨t,rfl⟩:=rx;cases y with
  |byt j=>obtain⟨t',rfl⟩:=ry;exact PySem.W.ne_bytes (jak I q (congrArg not jiQ))
  |_=>exact absurd (show false=true from hs) Yal
 |_=>cases y<;>exact absurd (show false=true from hs) Yal

def jpO  : OpR X (YaN .Lt) (rI0 λi j=>.bl (decide (i<j))):=opB0 λ_ _ _ _ _ _ _ q=>lt_int q
def jpP  : OpR X (YaN .LtE) (rI0 λi j=>.bl (decide (i<=j))):=opB0 λ_ _ _ _ _ _ _ q=>le_int q
def jpQ  : OpR X (YaN .Gt) (rI0 λi j=>.bl (decide (j<i))):=opB0 λ_ _ _ _ _ _ _ q=>gt_int q
def jpR  : OpR X (YaN .GtE) (rI0 λi j=>.bl (decide (j<=i))):=opB0 λ_ _ _ _ _ _ _ q=>ge_int q
def jh3  : OpR X (YaN .In) (λx y H Q=>∃i j,x=.str i/\y=.str j/\Q (.bl (!(Yaw j i 0 j.length 1).isEmpty)) H):=by
 intro pins s σ H x y v u Q I rx ry h;obtain⟨i,j,rfl,rfl,q⟩:=h;obtain⟨t,rfl⟩:=rx;obtain⟨t',rfl⟩:=ry;exact in_str (jak I q rfl)

def jeW  : OpR X (YaN .NotIn) (λx y H Q=>∃i j,x=.str i/\y=.str j/\Q (.bl (!(!(Yaw j i 0 j.length 1).isEmpty))) H):=by
 intro pins s σ H x y v u Q I rx ry h;obtain⟨i,j,rfl,rfl,q⟩:=h;obtain⟨t,rfl⟩:=rx;obtain⟨t',rfl⟩:=ry;exact notIn_str (jak I q rfl)
def OpR.or    (h:OpR X f r)(h':OpR X f r'):OpR X f (λx y H Q=>r x y H Q\/r' x y H Q):=by
 intro pins s σ H x y v u Q I rx ry q;rcases q with q|q
 ·exact h pins s σ H x y v u Q I rx ry q
 ·exact h' pins s σ H x y v u Q I rx ry q

def jlG    (ho:OpR X (YaN op) r)(ha:PE X a ta)(hb:PE X b tb)(hm:Yen op b=false):PE X (.Compare a [op] [b] pos) (tOp r ta tb):=by
 intro pins s σ H Q I h;exact wpAny_Compare1 (binT ha hb I h λv u s2 x y H2 I2 rx ry q=>ho pins s2 σ H2 x y v u Q I2 rx ry q) hm
def jmR  (t:TE):TT:=λσ H Q=>t σ H λx H'=>∃k,x=.bl k/\Q k H'
def jlr    (ho:OpR X (YaN op) r)(ha:PE X a ta)(hb:PE X b tb)(hm:Yen op b=false):PT X (.Compare a [op] [b] pos) (jmR (tOp r ta tb)):=by
 intro pins s σ H Q I h;refine wpAny_isTrue_Compare1 (thn (ha pins s σ H _ I h) λv s1 ⟨x,H1,I1,r1,q1⟩=>thn (hb pins s1 σ H1 _ I1 q1) λu s2 ⟨y,H2,I2,r2,q2⟩=>
  thn (ho pins s2 σ H2 x y v u _ I2 r1 r2 q2) λc s3 ⟨z,H3,I3,r3,k,e,q3⟩=>?_) hm
 subst e;cases r3;exact Yba ⟨H3,I3,q3⟩
def jkn  (r r':R2)(ta tb tc:TE):TE:=λσ H Q=>ta σ H λx H1=>tb σ H1 λy H2=>r x y H2 λz H3=>∃k,z=.bl k/\
 (if k=true then tc σ H3 λw' H4=>r' y w' H4 Q else Q (.bl false) H3)
section
variable {op op':CmpOp}{r r':R2}
def jjM (ho:OpR X (YaN op) r)(ho':OpR X (YaN op') r')(ha:PE X a ta)(hb:PE X b tb)(hc:PE X c tc)
  (hm:Ygj [op,op'] [b,c]=false:=by with_unfolding_all rfl):PE X (.Compare a [op,op'] [b,c] pos) (jkn r r' ta tb tc):=by
 intro pins s σ H Q I h;refine Compare_chain (thn (ha pins s σ H _ I h) λv s1 ⟨x,H1,I1,r1,q1⟩=>chain_link (thn (hb pins s1 σ H1 _ I1 q1) λu s2 ⟨y,H2,I2,r2,q2⟩=>
  thn (ho pins s2 σ H2 x y v u _ I2 r1 r2 q2) λd s3 ⟨z,H3,I3,r3,k,e,q3⟩=>?_)) hm
 subst e;cases r3;refine Yba ?_;cases k with
 |false=>exact ite_ff ⟨.bl false,H3,I3,rfl,q3⟩
 |true=>exact ite_tt (chain_last (thn (hc pins s3 σ H3 _ I3 q3) λw' s4 ⟨z',H4,I4,r4,q4⟩=>ho' pins s4 σ H4 y z' u w' Q I4 r2 r4 q4))
def jjA (ho:OpR X (YaN op) r)(ho':OpR X (YaN op') r')(ha:PE X a ta)(hb:PE X b tb)(hc:PE X c tc)
  (hm:Ygj [op,op'] [b,c]=false:=by with_unfolding_all rfl):PT X (.Compare a [op,op'] [b,c] pos) (jmR (jkn r r' ta tb tc)):=by
 intro pins s σ H Q I h;refine isTrue_chain (thn (ha pins s σ H _ I h) λv s1 ⟨x,H1,I1,r1,q1⟩=>test_link (thn (hb pins s1 σ H1 _ I1 q1) λu s2 ⟨y,H2,I2,r2,q2⟩=>
  thn (ho pins s2 σ H2 x y v u _ I2 r1 r2 q2) λd s3 ⟨z,H3,I3,r3,k,e,q3⟩=>?_)) hm
 subst e;cases r3;refine Yba ?_;cases k with
 |false=>
  obtain⟨k',e',q'⟩:=q3;cases e';exact ite_ff ⟨H3,I3,q'⟩
 |true=>
  refine ite_tt (test_last (thn (hc pins s3 σ H3 _ I3 q3) λw' s4 ⟨z',H4,I4,r4,q4⟩=>thn (ho' pins s4 σ H4 y z' u w' _ I4 r2 r4 q4) λd' s5 ⟨z2,H5,I5,r5,k2,e2,q5⟩=>?_));subst e2;cases r5;exact Yba ⟨H5,I5,q5⟩

end
def TruV  (K:Yab)(x:V)(H:Hp)(k:Bool):Prop:=
 match x with
 |.non=>k=false
 |.bl b=>k=b
 |.int i=>k=(i != 0)
 |.str y=>y.length<=Yaf/\k=((y.length:Int) != 0)
 |.byt y=>y.size<=Yaf/\k=((y.size:Int) != 0)
 |.ref p=>(∃xs,SqL K H p xs/\k = !xs.isEmpty)\/(∃xs,SqT K H p xs/\k = !xs.isEmpty)\/∃kvs,H p=some (.dK kvs)/\k = !kvs.isEmpty
 |_=>False
def jhj     (r:KV kvs vs):(!vs.isEmpty) = !kvs.isEmpty:=by
 cases r<;>rfl
def jdX    (r:Vals xs its):(!its.toArray.isEmpty) = !xs.isEmpty:=by
 cases r<;>simp
def jdl  : (Yaf:Nat)<2 ^ 63:=by rw[YbX];decide
def jgn  : TruR X (λx H Q=>∃k,TruV X.K x H k/\Q k H):=by
 intro pins s σ H x v Q I rx h;obtain⟨k,e,q⟩:=h;have hl:=jdl;have hs:Yaf=16777216:=YbX;cases x with
 |non=>
  cases rx;have e':k=false:=e;subst e';exact truthy_none ⟨H,I,q⟩
 |bl b=>
  cases rx;have e':k=b:=e;subst e';exact Yba ⟨H,I,q⟩
 |int i=>
  obtain⟨t,rfl⟩:=rx;have e':k=(i != 0):=e;subst e';exact PySem.P.truthy_int ⟨H,I,q⟩
 |str y=>
  obtain⟨t,rfl⟩:=rx;obtain⟨hy,e'⟩:y.length<=Yaf/\k=((y.length:Int) != 0):=e;subst e';exact PySem.P.truthy_str (by lia) ⟨H,I.tok _,q⟩
 |byt y=>
  obtain⟨t,rfl⟩:=rx;obtain⟨hy,e'⟩:y.size<=Yaf/\k=((y.size:Int) != 0):=e;subst e';exact PySem.W.truthy_bytes (by lia) ⟨H,I.tok _,q⟩
 |ref p=>
  cases rx;have e':(∃xs,SqL X.K H p xs/\k = !xs.isEmpty)\/(∃xs,SqT X.K H p xs/\k = !xs.isEmpty)\/∃kvs,H p=some (.dK kvs)/\k = !kvs.isEmpty:=e;rcases e' with⟨xs,hx,e'⟩|⟨xs,hx,e'⟩|⟨kvs,hx,e'⟩
  ·subst e';obtain⟨its,r,pl,hz⟩:=I.list hx;have hlen:=r.length;exact wpAny_truthy_list pl.isList (by simp only[Yam];lia) ⟨H,I.tok _,by rw[jdX r];exact q⟩
  ·subst e';obtain⟨its,r,pl,hz⟩:=I.tuple hx;have hlen:=r.length;exact truthy_tuple pl (by simp only[Yam];lia) ⟨H,I.tok _,by rw[jdX r];exact q⟩
  ·subst e';obtain⟨hz,hS,vs,r,m⟩:kvs.length<=Yaf/\(p==Ya8)=false/\∃vs,KV kvs vs/\s.heap.DictOf (jam X.prog X.w) p vs:=I.hok p _ hx;have hlen:kvs.length=vs.length:=YdG r;exact wpAny_truthy_dict hS m (by lia) ⟨H,I.tok _,by rw[jhj r];exact q⟩
 |_=>exact(show False from e).elim
def jjz  (ha:PE X a ta)(he:∀whole,isTrue a X.env whole=(do let v <- whole;standAt a.pos;holding [v] (truthy v))) :
  PT X a (λσ H Q=>ta σ H λx H'=>∃k,TruV X.K x H' k/\Q k H'):=by
 intro pins s σ H Q I h;exact isTrue_plain (thn (ha pins s σ H _ I h) λv s1 ⟨x,H1,I1,r1,q1⟩=>jgn pins s1 σ H1 x v Q I1 r1 q1) (he _)

def jha  : OpR X (Ybg .Add) (λx y H Q=>∃i j,x=.str i/\y=.str j/\i.length+j.length<=Yaf/\Q (.str (i++j)) H):=by
 intro pins s σ H x y v u Q I rx ry h;obtain⟨i,j,rfl,rfl,hz,q⟩:=h;obtain⟨t,rfl⟩:=rx;obtain⟨t',rfl⟩:=ry;exact add_str (λt' tk=>⟨.str (i++j),H,I.tok _,⟨_,rfl⟩,q⟩) hz
def jcc    (r:Vals [x] us):∃u,us=[u]/\RelV x u:=by
 cases r with
 |cons r1 r2=>cases r2;exact⟨_,rfl,r1⟩
def joS    (r:Vals [x,y] us):∃u w',us=[u,w']/\RelV x u/\RelV y w':=by
 cases r with
 |cons r1 r2=>
  cases r2 with
  |cons r3 r4=>cases r4;exact⟨_,_,rfl,r1,r3⟩
def ji3  (hc:X.calm=true):jaU X (.builtin "min") (λxs H Q=>∃i j,xs=[.int i,.int j]/\Q (.int (if j<i then j else i)) H):=by
 intro pins s σ H xs us Q I r h;obtain⟨i,j,rfl,q⟩:=h;obtain⟨u,w',rfl,⟨t,rfl⟩,⟨t',rfl⟩⟩:=joS r;refine min_two_ints (I.ok.hd hc) λh' tk k=>⟨_,H,I.kept k,?_,q⟩;by_cases hj:j<i
 ·rw[if_pos hj,if_pos hj];exact⟨_,rfl⟩
 ·rw[if_neg hj,if_neg hj];exact⟨_,rfl⟩
def ji8  : jaU X (.type "int") (λxs H Q=>(∃i,xs=[.int i]/\Q (.int i) H)\/∃k,xs=[.bl k]/\Q (.int (if k then 1 else 0)) H):=by
 intro pins s σ H xs us Q I r h;rcases h with⟨i,rfl,q⟩|⟨k,rfl,q⟩
 ·obtain⟨u,rfl,t,rfl⟩:=jcc r;exact call_int_int ⟨.int i,H,I,⟨_,rfl⟩,q⟩
 ·obtain⟨u,rfl,r1⟩:=jcc r;cases r1;exact call_int_bool ⟨.int (if k then 1 else 0),H,I.tok _,⟨_,rfl⟩,q⟩
def jfr  : jaU X (.type "str") (λxs H Q=>∃i,xs=[.int i]/\i.natAbs.log2<1920/\Q (.str (toString i)) H):=by
 intro pins s σ H xs us Q I r h;obtain⟨i,rfl,hz,q⟩:=h;obtain⟨u,rfl,t,rfl⟩:=jcc r;exact PySem.P.str_of_int hz ⟨.str _,H,I.tok _,⟨_,rfl⟩,q⟩
def LenV  (K:Yab)(x:V)(H:Hp)(n:Nat):Prop:=
 match x with
 |.str y=>y.length<=Yaf/\n=y.length
 |.byt y=>y.size<=Yaf/\n=y.size
 |.ref p=>(∃xs,SqL K H p xs/\n=xs.length)\/∃xs,SqT K H p xs/\n=xs.length
 |_=>False
def jka  : jaU X (.builtin "len") (λxs H Q=>∃x n,xs=[x]/\LenV X.K x H n/\Q (.int n) H):=by
 intro pins s σ H xs us Q I r h;obtain⟨x,n,rfl,e,q⟩:=h;obtain⟨u,rfl,rx⟩:=jcc r;have hl:=jdl;have hs:Yaf=16777216:=YbX;cases x with
 |str y=>
  obtain⟨t,rfl⟩:=rx;obtain⟨hy,e'⟩:y.length<=Yaf/\n=y.length:=e;subst e';exact len_str (by lia) ⟨.int _,H,I.tok _,⟨_,rfl⟩,q⟩
 |byt y=>
  obtain⟨t,rfl⟩:=rx;obtain⟨hy,e'⟩:y.size<=Yaf/\n=y.size:=e;subst e';exact PySem.W.len_bytes (by lia) ⟨.int _,H,I.tok _,⟨_,rfl⟩,q⟩
 |ref p=>
  cases rx;have e':(∃xs,SqL X.K H p xs/\n=xs.length)\/∃xs,SqT X.K H p xs/\n=xs.length:=e;rcases e' with⟨xs,hx,e'⟩|⟨xs,hx,e'⟩
  ·subst e';obtain⟨its,r',pl,hz⟩:=I.list hx;have hlen:=r'.length;exact Calls.call_len_list pl.isList (by simp only[Yam];lia) ⟨.int xs.length,H,I.tok _,⟨_,by simp only[Yam];rw[hlen]⟩,q⟩
  ·subst e';obtain⟨its,r',pl,hz⟩:=I.tuple hx;have hlen:=r'.length;exact len_tuple pl (by simp only[Yam];lia) ⟨.int xs.length,H,I.tok _,⟨_,by simp only[Yam];rw[hlen]⟩,q⟩
 |_=>exact(show False from e).elim
end

structure ObjM (h:Heap)(x dx C:Addr)(mA:Str->Option Value):Prop where
 obj:h.get? x=some (Yeb C dx)
 ns:h.Ns1 dx mA
 ne:dx≠x

def jik  {h:Heap}(n:h.Ns1 dx mA):∃od,h.get? dx=some od/\∀name,Yeq name od=some (mA name):=by
 obtain⟨o,es,ep,ho,hd,hk,_,hm⟩:=n;refine⟨o,ho,λname=>?_⟩;have e:=hm name;unfold nsFind findBy at e;rw[<- YdU]at e;unfold Yeq;rw[hd];dsimp only;split
 ·rename_i y q;rw[q]at e;exact congrArg some e
 ·rename_i q;rw[q]at e;have a:es.toList.any (·.refKey)=false:=by
   rw[List.any_eq_false];intro y hy;obtain⟨z,t,hkey⟩:=hk y (Array.mem_toList_iff.mp hy);simp[Yew.refKey,hkey]
  have a':¬es.toList.any (·.refKey)=true:=by rw[a];exact Yal
  rw[if_neg a'];exact congrArg some e

def ObjM.look     (I:ObjM h x dx C mA):∃od,PySem.W.InstAt h x (Yeb C dx) C (some od)/\∀name,Yeq name od=some (mA name):=
 let ⟨od,ho,hl⟩:=jik I.ns
 ⟨od,⟨I.obj,rfl,rfl,ho⟩,hl⟩



noncomputable def putF  (f:Str)(v:V):List (Str×V)->List (Str×V)
 |[]=>[(f,v)]
 |(g,x)::r=>if g=f then (g,v)::r else (g,x)::putF f v r
theorem jdj   f g v:∀fs ,(putF f v fs).lookup g=if g=f then some v else fs.lookup g
 |[]=>by
  show YbF g [(f,v)]=_;by_cases h:g=f
  ·have hb:(g==f)=true:=beq_iff_eq.mpr h;simp only[YbF,hb,if_pos h]
  ·have hb:(g==f)=false:=beq_eq_false_iff_ne.mpr h;simp only[YbF,hb,if_neg h]
 |(k,x)::r=>by
  have ih:=jdj f g v r;rw[show putF f v ((k,x)::r)=(if k=f then (k,v)::r else (k,x)::putF f v r)from rfl]
  by_cases hk:k=f
  ·rw[if_pos hk];by_cases h:g=k
   ·have hb:(g==k)=true:=beq_iff_eq.mpr h;simp only[YbF,hb,if_pos (h.trans hk)]
   ·have hb:(g==k)=false:=beq_eq_false_iff_ne.mpr h;simp only[YbF,hb,if_neg (λe:g=f=>h (e.trans hk.symm))]
  ·rw[if_neg hk];by_cases h:g=k
   ·have hb:(g==k)=true:=beq_iff_eq.mpr h;simp only[YbF,hb,if_neg (λe:g=f=>hk (h.symm.trans e))]
   ·have hb:(g==k)=false:=beq_eq_false_iff_ne.mpr h;simp only[YbF,hb];exact ih
def RelO.some_of    (r:RelO (some v) o):∃u,o=some u/\RelV v u:=by
 cases o with
 |none=>exact(show False from r).elim
 |some u=>exact⟨u,rfl,r⟩
def RelO.none_of   (r:RelO none o):o=none:=by
 cases o with
 |none=>rfl
 |some u=>exact(show False from r).elim

def jmi  (hok:HOk P w H h)(e:H a=some (.ins C dx fs)):∃mA,ObjM h a dx C mA/\(∀f,RelO (fs.lookup f) (mA f))/\PySem.Within mA (fs.map (·.1))/\fs.length<=1000/\H dx=some (.own a):=by
 obtain⟨d,z,ne,ob,mA,n,r,q⟩:=(show jaD P w H h a (.ins C dx fs)from hok a _ e);exact⟨mA,⟨ob,n,ne⟩,r,q,z,d⟩

structure Cls (K:Yab)(C:Addr):Prop where
 pg:YfD K C Str.empty=true
 hd:PySem.W.hasDictIn K C=true
 po:PySem.W.plainOver K C=true
 sa:Yf7 K (.ref C) "__setattr__" = some (some (.builtin "object.__setattr__"))
def Cls.get  {K:Yab}(c:Cls K C) f:YfD K C f=true:=c.pg

def jmy          (hb:YcV e f env (eval e env)=eval e env)
  (h:wpAny (model prog w) A (eval e env) (λo s₁=>wpAny (model prog w) A (getAttr o f true) Q E s₁) E s):wpAny (model prog w) A (eval (.Attribute e f pos) env) Q E s:=
 Attribute_any_ h (by rw[arm_eval_Attribute,hb])



section
variable {X:Cx}{pins:List (Addr×Obj)}{σ:St}{H:Hp}{s:Shared}{A:Around}{E:Value->Shared->Prop}{Q:Value->Shared->Prop}{c:Value}{b:Bool}
inductive TyOf (K:Yab)(H:Hp):V->Value->Prop where
 |non:TyOf K H .non (.type "NoneType")
 |bl (x:Bool):TyOf K H (.bl x) (.type "bool")
 |int (i:Int):TyOf K H (.int i) (.type "int")
 |str (x:Str):TyOf K H (.str x) (.type "str")
 |flt (x:UInt64):TyOf K H (.flt x) (.type "float")
 |lst {a:Addr} {xs:List V} (e:H a=some (.lst xs)):TyOf K H (.ref a) (.type "list")
 |frz {a:Addr} {o:Obj} {xs:List V} (e:H a=some (.frz o (.lst xs))):TyOf K H (.ref a) (.type "list")
 |tup {a:Addr} {xs:List V} (e:H a=some (.tup xs)):TyOf K H (.ref a) (.type "tuple")
 |dK {a:Addr} {kvs:List (Key×V)} (e:H a=some (.dK kvs)):TyOf K H (.ref a) (.type "dict")
 |dT {a:Addr} {kvs:List (List Key×V)} (e:H a=some (.dT kvs)):TyOf K H (.ref a) (.type "dict")
 |ins {a C dx:Addr} {fs:List (Str×V)} (e:H a=some (.ins C dx fs)) (cl:Cls K C) (ha:Yf7 K (.ref C) "__class__" = some (some (.builtin "object.__class__")))
   (hn:PySem.W.specialIn K (.builtin "object.__class__") "__get__" = some (some (.builtin "getset_descriptor.__get__"))) (htk:PySem.W.takesIn K (.builtin "object.__class__")=some true)
   (hm:PySem.W.mroIn K C (.type "object")=some true):TyOf K H (.ref a) (.ref C)
def jiw    (I:Inv X pins σ H s)(rx:RelV x u)(ty:TyOf X.K H x t)(e:Yds X.K t c=some b)(h:∀tk,Q (.bool b) { s with toks:=tk }) :
  wpAny (model X.prog X.w) A (call (.builtin "isinstance") [u,c]) Q E s:=by
 cases ty with
 |non=>cases(show u=Ybx from rx);exact Ya9 PySem.W.kitx_none I.kIn YbK e (λz=>nomatch z) h
 |bl y=>cases(show u=YeN y from rx);exact Ya9 PySem.W.kitx_bool I.kIn YbK e (λz=>nomatch z) h
 |int i=>obtain⟨t,q⟩:=(show ∃t,u=Yfd i t from rx);cases q;exact Ya9 PySem.W.kitx_int I.kIn YbK e (λz=>nomatch z) h
 |str y=>obtain⟨t,q⟩:=(show ∃t,u=Yep y t from rx);cases q;exact Ya9 PySem.W.kitx_str I.kIn YbK e (λz=>nomatch z) h
 |flt y=>obtain⟨t,q⟩:=(show ∃t,u=Value.float y t from rx);cases q;exact Ya9 PySem.W.kitx_float I.kIn YbK e (λz=>nomatch z) h
 |@lst a xs ea=>
  cases(show u=YaQ a from rx);obtain⟨_,_,n,_,h1⟩:=(show jaD X.prog X.w H s.heap a (.lst xs)from I.hok a _ ea);exact Ya9 Yfr I.kIn ⟨_,h1,rfl⟩ e (λz=>nomatch z) h
 |@frz a ob xs ea=>
  cases(show u=YaQ a from rx);obtain⟨_,_,_,n,_,h1⟩:=(show jaD X.prog X.w H s.heap a (.frz ob (.lst xs))from I.hok a _ ea);exact Ya9 Yfr I.kIn ⟨_,h1,rfl⟩ e (λz=>nomatch z) h
 |@tup a xs ea=>
  cases(show u=YaQ a from rx);obtain⟨_,_,_,p⟩:=(show jaD X.prog X.w H s.heap a (.tup xs)from I.hok a _ ea);obtain⟨o,h1,h2,_⟩:=p;exact Ya9 PySem.W.kitx_tuple I.kIn ⟨o,h1,h2⟩ e (λz=>nomatch z) h
 |@dK a kvs ea=>
  cases(show u=YaQ a from rx);obtain⟨_,_,vs,_,p⟩:=(show jaD X.prog X.w H s.heap a (.dK kvs)from I.hok a _ ea);obtain⟨o,es,ep,h1,h2,_⟩:=p;exact Ya9 Yfs I.kIn ⟨o,h1,h2.1⟩ e (λz=>nomatch z) h
 |@dT a kvs ea=>
  cases(show u=YaQ a from rx);obtain⟨_,_,xs,_,o,es,ep,h1,h2,_⟩:=(show jaD X.prog X.w H s.heap a (.dT kvs)from I.hok a _ ea);exact Ya9 Yfs I.kIn ⟨o,h1,h2.1⟩ e (λz=>nomatch z) h
 |@ins a C dx fs ea cl ha hn htk hm=>
  cases(show u=YaQ a from rx);obtain⟨mA,O,_⟩:=jmi I.hok ea;obtain⟨od,J,_⟩:=O.look;exact Ya9 (PySem.W.kitx_own (cl.get _) cl.hd ha hn htk hm) I.kIn J e (λz=>nomatch z) h
end

structure Room (k:Nat)(A:Around):Prop where
 hd:A.handled=none
 dp:A.depth+k+20<recursionLimit
 un:A.units+8*k+200<cLine
 gd:A.guards=some []
def Room.mono    (r:Room k A)(h:j<=k):Room j A:=⟨r.hd,by have:=r.dp;lia,by have:=r.un;lia,r.gd⟩
def Room.deeper    (r:Room (k+1) A) env:Room k (A.deeper env):=
 ⟨r.hd,by have:=r.dp;show A.depth+1+k+20<_;lia,by have:=r.un;show A.units+3+8*k+200<_;lia,r.gd⟩
def jhh  {A:Around}:(A.under (.builtin "type.__call__" ⟨.ref C::us,kw⟩)).depth=A.depth+1:=by
 first|rfl|simp[Yfa,Code.weight,Code.isCreation,Code.isGuard,Code.isCaller,Code.frames,Yfk,guardIds]
def jhg  {A:Around}:(A.under (.builtin "type.__call__" ⟨.ref C::us,kw⟩)).units=A.units+1:=by
 first|rfl|simp[Yfa,Code.cUnits,Code.frames,Yfk]
def Room.make    (r:Room (k+1) A) C us kw:Room k (A.under (.builtin "type.__call__" ⟨.ref C::us,kw⟩)):=
 ⟨r.hd,by have:=r.dp;rw[jhh];lia,by have:=r.un;rw[jhg];lia,r.gd⟩
def Room.depth    (r:Room k A):A.depth<recursionLimit:=by have:=r.dp;lia
def Room.units    (r:Room k A):A.units+64<cLine:=by have:=r.un;lia
def Room.units0    (r:Room k A):A.units<cLine:=by have:=r.un;lia

def tNil  : TA:=λ_ H Q=>Q [] H
def jjj  (ta:TE)(tr:TA):TA:=λσ H Q=>ta σ H λx H1=>tr σ H1 λxs H2=>Q (x::xs) H2
section
variable {X:Cx}{e:Expr}{es:List Expr}{te:TE}{t:TA}{pos:Pos}
def jc4  : PA X [] tNil:=λ_ _ _ _ H Q I h=>Calls.spliced_nil ⟨[],H,I,.nil,h⟩
def jaN (ha:PE X e te)(hr:PA X es t)(hs:Yax (e::es) X.env=(false,eval e X.env)::Yax es X.env:=by rfl):PA X (e::es) (jjj te t):=by
 intro pos pins s σ H Q I h;rw[hs];show wpAny _ _ (spliced ((false,eval e X.env)::backTo pos (Yax es X.env))) _ _ s;refine Calls.spliced_cons (thn (ha pins s σ H _ I h) λu s1 ⟨x,H1,I1,r1,q1⟩=>?_);exact thn (hr pos pins s1 σ H1 _ I1 q1) λus s2 ⟨xs,H2,I2,r2,q2⟩=>⟨x::xs,H2,I2,.cons r1 r2,q2⟩

def tTup  (t:TA):TE:=λσ H Q=>t σ H λxs H1=>xs.length<=Yaf/\∀p,H1 p=none->Q (.ref p) (upd H1 p (.tup xs))
def tLst  (t:TA):TE:=λσ H Q=>t σ H λxs H1=>xs.length<=Yaf/\∀p,H1 p=none->Q (.ref p) (upd H1 p (.lst xs))
def jhV   (h:PA X es t):PE X (.Tuple es x1 pos) (tTup t):=by
 intro pins s σ H Q I hq;refine wpAny_Tuple_spliced (thn (h pos pins s σ H _ I hq) λus s1 ⟨xs,H1,I1,r,z,q⟩=>⟨by rw[<- r.length];exact z,?_⟩)
 have hf:H1 s1.heap.objs.size=none:=I1.hok.fresh (Yag _);refine⟨.ref s1.heap.objs.size,upd H1 s1.heap.objs.size (.tup xs),I1.laid (t':=s1.toks) (λb u e=>Yad _ e) (Yag _) ?_,rfl,q _ hf⟩;exact⟨z,us,r,⟨_,Yaq _ rfl,rfl,_,rfl,rfl⟩⟩
def jku  (h:PA X es t):PE X (.List es pos) (tLst t):=by
 intro pins s σ H Q I hq;refine wpAny_List_spliced (thn (h pos pins s σ H _ I hq) λus s1 ⟨xs,H1,I1,r,z,q⟩=>⟨by rw[<- r.length];exact z,?_⟩)
 have hf:H1 s1.heap.objs.size=none:=I1.hok.fresh (Yag _);refine⟨.ref s1.heap.objs.size,upd H1 s1.heap.objs.size (.lst xs),I1.laid (t':=s1.toks) (λb u e=>Yad _ e) (Yag _) ?_,rfl,q _ hf⟩;exact⟨z,us,0,r,Yaq _ rfl⟩
end

abbrev Sp:=List V->Hp->VK->XK->Prop
abbrev CXT:=List Env->Hp->Shared->XK->Value->Shared->Prop

structure Env0 (P:Program)(w:World)(K:Yab)(mg:Str->Option Value)(base:Heap)(A:Around)(outer:List Env)(s:Shared)(H:Hp):Prop where
 frames:A.frames=some outer
 mod:Mod K mg base
 bs:∀b o,base.get? b=some o->s.heap.get? b=some o/\H b=none
 bsz:base.objs.size<=s.heap.objs.size
 funs:s.heap.FunFrames base outer
 frf:∀b∈frs outer,H b=none
 hok:HOk P w H s.heap
 bare:AllBare s.gens
def CE  (outer:List Env)(P:Program)(w:World)(H:Hp)(s:Shared)(Q:VK)(u:Value)(s':Shared):Prop:=
 ∃v H',s'.os=s.os/\AllBare s'.gens/\Un (frs outer) [] H H' s.heap s'.heap/\HOk P w H' s'.heap/\RelV v u/\Q v H'
def CR  (CX:CXT)(outer:List Env)(P:Program)(w:World)(H:Hp)(s:Shared)(Q:VK)(E:XK)(r:Result)(s':Shared):Prop:=
 match r with
 |.ok (.ret u)=>CE outer P w H s Q u s'
 |.ok _=>False
 |.error e=>CX outer H s E e s'
structure FnOk (P:Program)(w:World)(K:Yab)(mg:Str->Option Value)(base:Heap)(CX:CXT)(k:Nat)(f:Addr)(fd:Ye7)(ps:List Str)(sp:Sp):Prop where
 len:∀vs H Q E,sp vs H Q E->vs.length=ps.length
 run:∀(A:Around) (outer:List Env) (s:Shared) (H:Hp) (args:Args) (us:List Value) (vs:List V) (Q:VK) (E:XK),Room k A->Env0 P w K mg base A outer s H->BindsTo s fd args (ps.zip us)->Vals vs us->sp vs H Q E->
  codeAny (model P w) A (.call (.ref f) args) (CR CX outer P w H s Q E) s
def Env0.make    {K:Yab}(e:Env0 P w K mg base A outer s H) C us kw :
  Env0 P w K mg base (A.under (.builtin "type.__call__" ⟨.ref C::us,kw⟩)) outer s H:=⟨by first|exact e.frames|(simpa[Yfa,Code.envs,Yfk,pushEnvs]using e.frames),e.mod,e.bs,e.bsz,e.funs,e.frf,e.hok,e.bare⟩

def Inv.env0  {σ: St}(I:Inv X pins σ H s):Env0 X.prog X.w X.K X.mg X.base X.A X.stack s H:=
 ⟨I.ok.frames,I.ok.mod,I.bs,Yai I.ok.bsz I.sz,I.stack,I.stkFree,I.hok,I.bare⟩
def Inv.after  {σ: St}(I:Inv X pins σ H s)(h:CE X.stack X.prog X.w H s Q u s'):EP X pins σ Q u s':=by
 obtain⟨v,H',os,bare,un,hok,r,q⟩:=h;obtain⟨hh,g,d,t,os'⟩:=s';obtain rfl:os'=s.os:=os;exact⟨v,H',I.call (h':=hh) (g':=g) (d':=d) (t':=t) (ch:=[]) un hok bare (λb z=>absurd z (by simp)),r,q⟩

def Binds  (K:Yab)(fd:Ye7)(ps:List Str)(ds:List Value):Prop:=
 ∀(s:Shared) (us:List Value),K.In s.heap->(us++ds).length=ps.length->BindsTo s fd ⟨us,[]⟩ (ps.zip (us++ds))
def Binds.all  {K:Yab}(h:∀us ,us.length=ps.length->YfU fd ⟨us,[]⟩=pure (ps.zip us)):Binds K fd ps []:=λs us _ hl=>by
 rw[YbM]at hl ⊢;exact .of_eq (h us hl)





structure FnScope (N P:List Str)(sc:Scope):Prop where
 kind:sc.kind=.function
 co:sc.isCoroutine=false
 gen:sc.isGenerator=false
 nd:N.Nodup
 pre:N.take P.length=P
 par:∀x∈P,sc.names.lookup x=some .local\/sc.names.lookup x=some .cell
 nofree:∀y∈sc.names,y.2≠.free

theorem jft  {kindOf:Str->Option YbB}:∀{binds } {m },(∀v,(x,v)∉binds)->bindL kindOf binds m x=m x
 |[],_,_=>rfl
 |(n,v)::r,m,h=>by
  unfold bindL;rw[jft λw hw=>h w (Yah _ hw)];split
  ·have:x≠n:=by rintro rfl;exact h v Yat
   simp[this]
  ·rfl
theorem jfv  {kindOf:Str->Option YbB}:∀{binds } {m },(∀v,(x,v)∉binds)->bindC kindOf binds m x=m x
 |[],_,_=>rfl
 |(n,v)::r,m,h=>by
  unfold bindC;rw[jfv λw hw=>h w (Yah _ hw)];split
  ·rfl
  ·have:x≠n:=by rintro rfl;exact h v Yat
   simp[this]
theorem jfu  {kindOf:Str->Option YbB}:∀{P:List Str} {vs } {i:Nat} {m },P.Nodup->P[i]?=some x->vs[i]?=some v->kindOf x=some .local->
  bindL kindOf (P.zip vs) m x=some v
 |[],_,_,_,_,h,_,_=>by simp at h
 |_::_,[],_,_,_,_,h,_=>by simp at h
 |p::P,w::vs,0,m,nd,h1,h2,hk=>by
  simp at h1 h2;subst h1;subst h2;show bindL kindOf ((p,w)::P.zip vs) m p=_;unfold bindL;rw[jft λv hv=>(List.nodup_cons.mp nd).1 (Yct hv).1,if_pos hk];simp
 |p::P,w::vs,i+1,m,nd,h1,h2,hk=>by
  show bindL kindOf ((p,w)::P.zip vs) m x=_;unfold bindL;exact jfu (i:=i) (List.nodup_cons.mp nd).2 (by simpa using h1) (by simpa using h2) hk
theorem jfw  {kindOf:Str->Option YbB}:∀{P:List Str} {vs } {i:Nat} {m },P.Nodup->P[i]?=some x->vs[i]?=some v->kindOf x≠some .local->
  bindC kindOf (P.zip vs) m x=some v
 |[],_,_,_,_,h,_,_=>by simp at h
 |_::_,[],_,_,_,_,h,_=>by simp at h
 |p::P,w::vs,0,m,nd,h1,h2,hk=>by
  simp at h1 h2;subst h1;subst h2;show bindC kindOf ((p,w)::P.zip vs) m p=_;unfold bindC;rw[jfv λv hv=>(List.nodup_cons.mp nd).1 (Yct hv).1,if_neg hk];simp
 |p::P,w::vs,i+1,m,nd,h1,h2,hk=>by
  show bindC kindOf ((p,w)::P.zip vs) m x=_;unfold bindC;exact jfw (i:=i) (List.nodup_cons.mp nd).2 (by simpa using h1) (by simpa using h2) hk

noncomputable def start  (N:List Str)(vs:List V):St:=vs.map some++Yaa (N.length-vs.length) none

noncomputable def cxOf  (CX:CXT)(P:Program)(w:World)(K:Yab)(mg:Str->Option Value)(base:Heap)(N:List Str)(qual:Str)(scope:Scope)(f:Addr)(cd:Value)(A:Around)(outer:List Env)(s:Shared)(H:Hp)(E:XK):Cx where
 prog:=P
 w:=w
 K:=K
 mg:=mg
 base:=base
 A:=A.deeper (envOfC qual scope s.heap.objs.size f cd)
 N:=N
 s₀:=s
 H₀:=H
 env:=envOfC qual scope s.heap.objs.size f cd
 outer:=outer
 stack:=envOfC qual scope s.heap.objs.size f cd::outer
 ex:=[]
 calm:=true
 fn:=λ_=>true
 pn:=[]
 xe:=λe s'=>wpAny (model P w) (A.deeper (envOfC qual scope s.heap.objs.size f cd)) (leaving (envOfC qual scope s.heap.objs.size f cd) e) (λ_ s''=>CX outer H s E e s'') (λe' s''=>CX outer H s E e' s'') s'

def jeH  {sc:Scope}(h:sc.names.lookup x=some .cell):∃c,(Ybf n sc.names []).lookup x=some c:=by
 have q:=Ycs sc.names n [] (.inl h);exact Option.isSome_iff_exists.mp q

def jdn     {K:Yab} 
  (S:FnScope N ps scope) (hd:A.handled=none) (e0:Env0 P w K mg base A outer s H) (hl:vs.length=ps.length) (r:Vals vs us)
  (x:InCallC s s.heap.objs.size (bindL (envOfC qual scope s.heap.objs.size f cd).kindOf (ps.zip us) λ_=>none) (Ybf (s.heap.objs.size+1) scope.names []) (bindC (envOfC qual scope s.heap.objs.size f cd).kindOf (ps.zip us) λ_=>none) s1) :
  Inv (cxOf CX P w K mg base N qual scope f cd A outer s H E) [] (start N vs) H s1:=by
 have hpl:ps.length<=N.length:=by have:=congrArg YfL S.pre;rw[Ya6]at this;lia
 obtain⟨h1,tk,rfl,hk⟩:=x.done;have noA:∀b:Addr,b∉(cxOf CX P w K mg base N qual scope f cd A outer s H E).ex:=λb z=>absurd (show b∈([]:List Addr)from z) (by simp)
 refine⟨⟨e0.mod,S.kind,rfl,rfl,Yag _,λy z c h1 h2=>?_,λy hy=>?_,λy c _ h=>?_,λ_=>hd,Yfi e0.frames,.inr ⟨rfl,rfl⟩,λb z=>absurd z (noA b),e0.bs,e0.bsz,λb _ _=>noA b,λb z=>absurd z (noA b),e0.funs,e0.frf⟩,
  rfl,e0.bare,Un.kept hk,⟨_,x.toInCall.ns,λi y v h1 h2 h3=>?_⟩,λy c h=>⟨_,x.cell y c h⟩,e0.hok.fresh (Yag _),λy c h=>?_,λp hp=>absurd (show p∈([]:List (Addr×Obj))from hp) (by simp),e0.hok.kept hk,?_⟩
 ·exact name_of_addr x.apart (Yaz h1) (Yaz h2)
 ·have hy:scope.names.lookup y=some .cell\/scope.names.lookup y=some .free:=hy;rcases hy with hy|hy
  ·exact jeH hy
  ·exact absurd rfl (S.nofree _ (Yaz hy))
 ·exact YbQ (x.above y c (Yaz h))
 ·have hi:i<vs.length:=by
   unfold start at h2;by_cases hi:i<vs.length
   ·exact hi
   ·rw[Yby (by simpa using hi)]at h2
    rw[Ycu]at h2;split at h2<;>cases h2
  have ha:vs[i]?=some v:=by
   unfold start at h2;rw[YaM (by simpa using hi),Yay]at h2
   cases e:vs[i]? with
   |none=>rw[e]at h2;cases h2
   |some a=>rw[e]at h2;cases h2;rfl
  obtain⟨u,hu,rv⟩:=r.get ha;have hp:ps[i]?=some y:=by
   rw[<- S.pre,Ye2 (by lia)];exact h1
  have ndP:ps.Nodup:=by rw[<- S.pre];exact S.nd.sublist (YcB _ _)
  refine⟨u,rv,?_⟩;rcases S.par y (Ya2 hp)with k|k
  ·exact .inl ⟨k,jfu ndP hp hu k⟩
  ·obtain⟨c,e⟩:=jeH (n:=s.heap.objs.size+1) k;refine .inr ⟨.inl k,c,e,?_⟩;have q:=x.cell y c e;rw[jfw ndP hp hu (by show scope.names.lookup y≠_;rw[k];decide)]at q
   exact q
 ·exact e0.hok.fresh (YbQ (x.above y c (Yaz h)))
 ·unfold start;show _=N.length;rw[YaA,Yae,Yfj]
  lia

def jp8     {K : Yab}{dV kV doc pm cdv ct oc : Value} 
       (lk : K.lookup f = some ⟨oc, od, .func (Ya7 name qual params body scope dV kV doc pm an cdv ct), osl⟩) (hcd : Ybz K cdv qual = true) (S : FnScope N ps scope)
    (len : ∀ vs H Q E, sp vs H Q E -> vs.length = ps.length)
    (hbody : ∀ (A : Around) outer (s : Shared) H (vs : List V) Q E , Room k (A.deeper (envOfC qual scope s.heap.objs.size f cdv)) -> sp vs H Q E ->
      ∃ t, PSs (cxOf CX P w K mg base N qual scope f cdv A outer s H E) body t /\ t { nx := λ_ H' => Q .non H', rt := Q } (start N vs) H) :
    FnOk P w K mg base CX (k + 1) f (Ya7 name qual params body scope dV kV doc pm an cdv ct) ps sp := by
  refine ⟨len, λA outer s H args us vs Q E hr e0 hb r hsp => ?_⟩
  have hl := len _ _ _ _ hsp
  have KX : K.In s.heap := e0.mod.kin.keeps λb o e => (e0.bs b o e).1
  have lim : s.heap.NoLimit := e0.mod.nolimit.keeps λb o e => (e0.bs b o e).1
  have hkind : ∀ y ∈ ps.zip us, scope.names.lookup y.1 = some .local \/ (scope.names.lookup y.1 = some .cell /\ ((Ybf (s.heap.objs.size + 1) scope.names []).lookup y.1).isSome = true) := λ⟨n, v⟩ hy => by
    rcases S.par n (Yct hy).1 with q | q
    · exact .inl q
    · exact .inr ⟨q, Ycs _ _ _ (.inl q)⟩
  refine YdN hr.depth (KX _ _ lk) rfl S.co S.gen rfl (YdB KX hcd) (hb _ _ _ _ ?_)
  refine Ydd S.kind hkind λenv he s1 x => ?_
  subst he
  refine ⟨lim.keeps x.toInCall.keep, Ygl ?_⟩
  obtain ⟨t, ht, hq⟩ := hbody A outer s H vs Q E (hr.deeper _) hsp
  have I : Inv (cxOf CX P w K mg base N qual scope f cdv A outer s H E) [] (start N vs) H s1 := jdn S hr.hd e0 hl r x
  refine YaO (ht [] s1 (start N vs) H _ I hq) (λfl s' hs => ?_) λe s' hs => hs
  have fin : ∀ {σ' : St} {H' : Hp} {v : V} {u : Value}, Inv (cxOf CX P w K mg base N qual scope f cdv A outer s H E) [] σ' H' s' -> RelV v u -> Q v H' -> CE outer P w H s Q u s' :=
    λ{σ' H' v u} J rv q => ⟨v, H', J.os, J.bare, J.base, J.hok, rv, q⟩
  cases fl with
  | ret u =>
    obtain ⟨v, σ', H', J, rv, q⟩ := hs
    exact fin J rv q
  | next =>
    obtain ⟨σ', H', J, q⟩ := hs
    exact fin (v := V.non) (u := Ybx) J rfl q
  | brk =>
    obtain ⟨_, _, _, q⟩ := hs
    exact YbJ q
  | cont =>
    obtain ⟨_, _, _, q⟩ := hs
    exact YbJ q
section
variable {X:Cx}{x:Str}{p pos:Pos}{e:Expr}{es:List Expr}{t:TA}{id T:String}{r:List V->Hp->VK->Prop}

def tCB  (r:List V->Hp->VK->Prop)(t:TA):TE:=λσ H Q=>t σ H λvs H1=>r vs H1 Q
def jcR (hc:jaU X (.builtin id) r)(hg:Gl X x)(hm:X.mg x=none)(hv:YbT x=some (.builtin id))(ha:PA X (e::es) t)(hn:x ≠ "__name__" := by decide)(hdb:(x==("__debug__" : Str))=false:=by decide)
  (he:Yax (e::es) X.env=(false,eval e X.env)::Yax es X.env:=by rfl) (hpl:(backTo pos (Yax es X.env)).any (·.1)=false:=by rfl):PE X (.Call (.Name x p) (e::es) [] pos) (tCB r t):=by
 intro pins s σ H Q I h;refine YbG (jdT I hg hm hv ?_ hn hdb);exact PyProof.Rows.callWith_builtin1 (thn (ha pos pins s σ H _ I h) λus s1 ⟨vs,H1,I1,r1,q1⟩=>hc pins s1 σ H1 vs us Q I1 r1 q1) he hpl
def jb0 (hc:jaU X (.type T) r)(hg:Gl X x)(hm:X.mg x=none)(hv:YbT x=some (.type T))(ha:PA X (e::es) t)(hn:x ≠ "__name__" := by decide)(hdb:(x==("__debug__" : Str))=false:=by decide)
  (he:Yax (e::es) X.env=(false,eval e X.env)::Yax es X.env:=by rfl) (hpl:(backTo pos (Yax es X.env)).any (·.1)=false:=by rfl):PE X (.Call (.Name x p) (e::es) [] pos) (tCB r t):=by
 intro pins s σ H Q I h;refine YbG (jdT I hg hm hv ?_ hn hdb);exact YbO (thn (ha pos pins s σ H _ I h) λus s1 ⟨vs,H1,I1,r1,q1⟩=>hc pins s1 σ H1 vs us Q I1 r1 q1) he hpl
end
end L2

namespace HT
open PySem PyProof.Rows

section
open PySem.SeqAt
open PySem.AutoSeq1 (wpAny_loadPart')
open PySem.MeetsSeq PySem.MeetsSeq2 PySem.MeetsSeq3

end

section
variable {prog:Program}{w:World}{A:Around}{E:Value->Shared->Prop}{s:Shared}

def cat_tup     (ht:IsTup s.heap t vs.toArray)(hb:IsTup s.heap b ws.toArray)(hv:vs≠[])
  (h1:ws=[]->Q (.ref t) s) (h2:ws≠[]->Q (.ref s.heap.objs.size) { s with heap:=s.heap.push { cls:=.type "tuple",data:=.seq (vs++ws).toArray } })
  (hsz:vs.length+ws.length<=Yaf):wpAny (model prog w) A (Ybg .Add (.ref t) (.ref b)) Q E s:=by
 obtain⟨⟨cls,dd,data,sl⟩,ho,hc,n,hd⟩:=id ht;obtain⟨⟨cls2,dd2,data2,sl2⟩,ho2,hc2,n2,hd2⟩:=id hb;simp only at hc hd hc2 hd2;subst hc hd hc2 hd2;have e:vs.toArray++ws.toArray=(vs++ws).toArray:=by simp
 by_cases hw:ws=[]
 ·exact Ygk ⟨_,ho,rfl⟩ ⟨_,ho2,rfl⟩ YeW YfS Ydf Yda (YcW _ _)
   (tuple_addW1 t b vs.toArray ws.toArray n n2 dd dd2 sl sl2 (by simpa using hv) (by simp[hw])) ⟨ho,ho2,h1 hw⟩
 ·refine Ygk ⟨_,ho,rfl⟩ ⟨_,ho2,rfl⟩ YeW YfS Ydf Yda (YcW _ _)
   (tuple_addW2 t b vs.toArray ws.toArray n n2 dd dd2 sl sl2 (by simpa using hv) (by simpa using hw) (by rw[Yam,Yam];exact hsz)) ⟨ho,ho2,?_⟩
  rw[e];exact h2 hw

noncomputable def sIx  (n d:Nat):Option Int->Nat
 |none=>d
 |some v=>if v<0 then (v+(n:Int)).toNat else min v.toNat n
def sIx_none   n d:sIx n d none=d:=rfl
def sIx_nat  (n d k:Nat):sIx n d (some (k:Int))=min k n:=by
 show(if (k:Int)<0 then ((k:Int)+(n:Int)).toNat else min (k:Int).toNat n)=min k n
 rw[if_neg (by lia),Ygu]
def jna   n d (hd:d<=n) o:sIx n d o<=n:=by
 cases o with
 |none=>exact hd
 |some v=>
  show(if v<0 then (v+(n:Int)).toNat else min v.toNat n)<=n
  by_cases hv:v<0
  ·rw[if_pos hv];lia
  ·rw[if_neg hv];exact Nat.min_le_right _ _
def ji0   v (n d:Nat):(if v<0 then max (v+(n:Int)) 0 else min v (n:Int))=((sIx n d (some v):Nat):Int):=by
 show(if v<0 then max (v+(n:Int)) 0 else min v (n:Int))=(((if v<0 then (v+(n:Int)).toNat else min v.toNat n):Nat):Int)
 by_cases hv:v<0
 ·simp only[if_pos hv];lia
 ·simp only[if_neg hv];lia
def jhq   lo hi (n:Nat):Ybq lo hi 1 (n:Int)=(((sIx n 0 lo:Nat):Int),((sIx n n hi:Nat):Int)):=by
 have h1:¬((1:Int)<0):=by lia
 unfold Ybq;simp only[h1,if_false];refine Prod.ext ?_ ?_
 ·cases lo with
  |none=>rfl
  |some v=>exact ji0 v n 0
 ·cases hi with
  |none=>rfl
  |some v=>exact ji0 v n n
def jg8  (i j:Nat):YaR (i:Int) (j:Int) 1=j-i:=by
 unfold YaR;have h1:(1:Int)>0:=by lia
 simp only[h1,if_true,Yfy];split<;>lia
def jbc     (p:IsPart v o)(h:Q o s):wpAny (model prog w) A (Builtin.Slice.slicePartIndex v) Q E s:=by
 cases p with
 |none=>exact slicePart_none h
 |int i t=>exact slicePart_int h
def jbm    {lo hi:Option Int}{n:Nat}(hs:s.heap.IsSliceOf sl vl vu .none)(pl:IsPart vl lo)(pu:IsPart vu hi)
  (h:Q (((sIx n 0 lo:Nat):Int),1,sIx n n hi-sIx n 0 lo) s):wpAny (model prog w) A (YbS (.ref sl) (pure (n:Int))) Q E s:=by
 obtain⟨os,hos,hcs,hds⟩:=id hs;unfold YbS YdT;refine Yac (Yac (YbW hos hds (x:=vl) rfl (Yac (YbW hos hds (x:=vu) rfl (Yac (YbW hos hds (x:=.none) rfl (Yaj ?_)))))));refine Yac (slicePart_none ?_);show wpAny _ _ (if ((1:Int)==0)=true then _ else _) _ _ s
 rw[if_neg (by decide)]
 refine Yac (jbc pl (Yac (jbc pu (Yac (Yaj ?_)))));show wpAny _ _ (match Ybq lo hi 1 (n:Int)with|(lo,hi)=>pure (lo,(1:Int),YaR lo hi 1)) _ _ s
 rw[jhq lo hi n];show wpAny _ _ (pure (((sIx n 0 lo:Nat):Int),(1:Int),YaR ((sIx n 0 lo:Nat):Int) ((sIx n n hi:Nat):Int) 1)) _ _ s;rw[jg8];exact Yaj h
def jjG  (xs:Array Value)(i k:Nat):((YaH k).filterMap λ(m:Nat)=>xs[((i:Int)+(m:Int)*1).toNat]?).toArray=((xs.toList.drop i).take k).toArray:=by
 have e:(λ(m:Nat)=>xs[((i:Int)+(m:Int)*1).toNat]?)=λm=>xs[i+m]?:=by
  funext m;have:((i:Int)+(m:Int)*1).toNat=i+m:=by lia
  rw[this]
 rw[e];have:=pick_run xs i k;rw[YfZ]at this;have e2:((λx=>xs[x]?) ∘ λx=>i+x)=λm=>xs[i+m]?:=rfl;rw[e2]at this;rw[this]

def getItem_tuple_cut     {lo hi:Option Int}(ht:IsTup s.heap t items)(hs:s.heap.IsSliceOf sl vl vu .none)(pl:IsPart vl lo)(pu:IsPart vu hi)
  (hw:¬(sIx items.size 0 lo=0/\sIx items.size items.size hi=items.size))
  (h:Q (.ref s.heap.objs.size) { s with heap:=s.heap.push { cls:=.type "tuple",data:=.seq ((items.toList.drop (sIx items.size 0 lo)).take (sIx items.size items.size hi-sIx items.size 0 lo)).toArray } })
  (hsz:items.size<=Yaf):wpAny (model prog w) A (getItem (.ref t) (.ref sl)) Q E s:=by
 have htake:sizeOk (.seq ((items.toList.drop (sIx items.size 0 lo)).take (sIx items.size items.size hi-sIx items.size 0 lo)).toArray):=by
  show((items.toList.drop (sIx items.size 0 lo)).take (sIx items.size items.size hi-sIx items.size 0 lo)).toArray.size<=Yaf;rw[Yam,Ya6,YbR,Ycn]
  lia
 have hj:sIx items.size items.size hi<=items.size:=jna _ _ (Yag _) hi;obtain⟨os,hos,hcs,hds⟩:=id hs;have hTs:s.TypeIs (.ref sl) "slice" := ⟨os,hos,hcs⟩;unfold getItem
 try with_reducible refine Ybe ?_
 first|refine Yac (Yaj ?_)|skip
 refine Yac (YeE ht.typeIs (by decide) ?_)
 refine Yac (Ydt (name:=Ycp "__getitem__") ht.typeIs YaW
  (YeV YaW ht.typeIs Yd9 ?_ (Yeo _ _)))
 show wpAny _ _ (YcF (.ref t) >>= _) _ _ s;refine Yac (YfP ht ?_);refine Yac (YdL hTs ?_);rw[if_pos (by decide)]
 refine Yac (jbm hs pl pu ?_);have hno:¬((((sIx items.size 0 lo:Nat):Int)==0&&(1:Int)==1&&(sIx items.size items.size hi-sIx items.size 0 lo)==items.size)=true):=by
  intro q;rw[Yao,Yao]at q;have q1:((sIx items.size 0 lo:Nat):Int)=0:=eq_of_beq q.1.1;have q2:sIx items.size items.size hi-sIx items.size 0 lo=items.size:=eq_of_beq q.2;exact hw ⟨by lia,by lia⟩
 show wpAny _ _ (if (((sIx items.size 0 lo:Nat):Int)==0&&(1:Int)==1&&(sIx items.size items.size hi-sIx items.size 0 lo)==items.size)=true then _ else _) _ _ s
 rw[if_neg hno,jjG]
 first
  |exact Yac (m:=YaT _) (Ybb (Yaj ⟨_,rfl,Yaj h⟩) htake)
  |exact Yac (m:=YaT _) (Ybb (Yac (Yaj (Yaj ⟨_,rfl,Yaj h⟩))) htake)
  |exact Yac (Yac (m:=YaT _) (Ybb (Yaj (Yaj ⟨_,rfl,Yaj h⟩)) htake))
  |exact Yac (Yac (m:=YaT _) (Ybb (Yaj ⟨_,rfl,Yaj h⟩) htake))
end
end HT

namespace L2
open PySem PySem.Spec PyProof.Rows

abbrev TO:=St->Hp->(Option Int->Hp->Prop)->Prop
def PO  (X:Cx)(e:Option Expr)(t:TO):Prop:=
 ∀(pins:List (Addr×Obj)) (s:Shared) (σ:St) (H:Hp) (Q:Option Int->Hp->Prop),Inv X pins σ H s->t σ H Q->
  wpAny (model X.prog X.w) X.A (evalPart e X.env) (λu s'=>∃o H',Inv X pins σ H' s'/\IsPart u o/\Q o H') X.xe s
def jlb  : TO:=λ_ H Q=>Q none H
def jph  (t:TE):TO:=λσ H Q=>t σ H λx H1=>∃i,x=.int i/\Q (some i) H1


def jly  : PO X none jlb:=by
 intro pins s σ H Q I h;rw[YfT];exact Yaj ⟨none,H,I,.none,h⟩
def jlx  (h:PE X e te):PO X (some e) (jph te):=by
 intro pins s σ H Q I hw;rw[evalPart_some];refine thn (h pins s σ H _ I hw) λu s1 ⟨x,H1,I1,r1,q1⟩=>?_;obtain⟨i,rfl,q⟩:=q1;obtain⟨t,rfl⟩:=r1;exact⟨some i,H1,I1,.int i t,q⟩

def SlR  (X:Cx)(r:V->Option Int->Option Int->Hp->VK->Prop):Prop:=
 ∀(pins:List (Addr×Obj)) (s:Shared) (σ:St) (H:Hp) (x:V) (v vl vu:Value) (lo hi:Option Int) (sl:Addr) (Q:VK),Inv X pins σ H s->RelV x v->s.heap.IsSliceOf sl vl vu .none->IsPart vl lo->IsPart vu hi->r x lo hi H Q->
  ∃T id,YaY (.type T) "__getitem__" = pure (some (.builtin id))/\s.TypeIs v T/\wpAny (model X.prog X.w) X.A (getItem v (.ref sl)) (EP X pins σ Q) X.xe s
def SlR.or   (h:SlR X r)(h':SlR X r'):SlR X (λx lo hi H Q=>r x lo hi H Q\/r' x lo hi H Q):=by
 intro pins s σ H x v vl vu lo hi sl Q I rx hs pl pu q;rcases q with q|q
 ·exact h pins s σ H x v vl vu lo hi sl Q I rx hs pl pu q
 ·exact h' pins s σ H x v vl vu lo hi sl Q I rx hs pl pu q
def tSl  (r:V->Option Int->Option Int->Hp->VK->Prop)(te:TE)(tl th:TO):TE:=λσ H Q=>te σ H λx H1=>tl σ H1 λl H2=>th σ H2 λu H3=>r x l u H3 Q
def jjJ  {lo: Option Expr}(hr:SlR X r)(he:PE X e te)(hl:PO X lo tl)(hu:PO X hi th):PE X (.Subscript e (.Slice lo hi none p2) pos) (tSl r te tl th):=by
 intro pins s σ H Q I h;refine Subscript_ (thn (he pins s σ H _ I h) λv s1 ⟨x,H1,I1,r1,q1⟩=>?_);refine wpAny_Slice (thn (hl pins s1 σ H1 _ I1 q1) λvl s2 ⟨l,H2,I2,pl,q2⟩=>thn (hu pins s2 σ H2 _ I2 q2) λvu s3 ⟨u,H3,I3,pu,q3⟩=>?_);rw[YfT];refine Yaj ?_;have I4:Inv X pins σ H3 { s3 with heap:=s3.heap.push { cls:=.type "slice",data:=.fields #[vl,vu,.none] } }:=I3.kept (t':=s3.toks) λb ob q=>Yad _ q
 obtain⟨T,id,hT,ht,hg⟩:=hr pins { s3 with heap:=s3.heap.push { cls:=.type "slice",data:=.fields #[vl,vu,.none] } } σ H3 x v vl vu l u s3.heap.objs.size Q I4 r1 (Heap.IsSliceOf.new ..) pl pu q3;show wpAny (model X.prog X.w) X.A (Ydu e (.Slice lo hi none p2) v (.ref s3.heap.objs.size)) (EP X pins σ Q) X.xe { s3 with heap:=s3.heap.push { cls:=.type "slice",data:=.fields #[vl,vu,.none] } }
 exact YfQ (ops:=[.ref s3.heap.objs.size,v]) ht hT hg (by with_unfolding_all rfl)

noncomputable def cutV  (xs:List V)(lo hi:Option Int):List V:=(xs.drop (HT.sIx xs.length 0 lo)).take (HT.sIx xs.length xs.length hi-HT.sIx xs.length 0 lo)
def jdz  (xs:List V) lo hi:(cutV xs lo hi).length<=xs.length:=by
 unfold cutV;rw[Ya6,YbR]
 lia
def rSlT  (K:Yab):V->Option Int->Option Int->Hp->VK->Prop:=λx lo hi H Q=>∃a xs,x=.ref a/\SqT K H a xs/\
 ¬(HT.sIx xs.length 0 lo=0/\HT.sIx xs.length xs.length hi=xs.length)/\∀p,H p=none->Q (.ref p) (upd H p (.tup (cutV xs lo hi)))
def jmZ  : SlR X (rSlT X.K):=by
 intro pins s σ H x v vl vu lo hi sl Q I rx hs pl pu h;obtain⟨a,xs,rfl,hx,hw,q⟩:=h;cases rx;obtain⟨its,r,ht,hz⟩:=I.tuple hx;have hlen:its.toArray.size=xs.length:=by rw[Yam];exact r.length.symm
 refine⟨"tuple",_,YaW.lookup,ht.typeIs,?_⟩;refine HT.getItem_tuple_cut ht hs pl pu (by rw[hlen];exact hw) ?_ (by rw[hlen];exact hz)
 rw[hlen];refine⟨.ref s.heap.objs.size,_,I.laid (t':=s.toks) (o:=.tup (cutV xs lo hi)) (λb ob q=>Yad _ q) (Yag _) ?_,rfl,q _ (I.hok.fresh (Yag _))⟩;exact⟨Yai (jdz xs lo hi) hz,_,(r.drop (HT.sIx xs.length 0 lo)).take (HT.sIx xs.length xs.length hi-HT.sIx xs.length 0 lo),TupD.new _ _⟩

def jpF  (K:Yab):R2:=λx y H Q=>∃a b xs ys,x=.ref a/\y=.ref b/\SqT K H a xs/\SqT K H b ys/\xs≠[]/\xs.length+ys.length<=Yaf/\
 (ys=[]->Q (.ref a) H)/\(ys≠[]->∀p,H p=none->Q (.ref p) (upd H p (.tup (xs++ys))))
def Vals.nil_iff    (r:Vals xs us):us=[]↔xs=[]:=by
 cases r with
 |nil=>simp
 |cons _ _=>simp
def jlN  : OpR X (Ybg .Add) (jpF X.K):=by
 intro pins s σ H x y v u Q I rx ry h;obtain⟨a,b,xs,ys,rfl,rfl,ha,hb,hx,hz,q1,q2⟩:=h;cases rx;cases ry;obtain⟨its,r1,p1,_⟩:=I.tuple ha;obtain⟨its2,r2,p2,_⟩:=I.tuple hb;refine HT.cat_tup p1 p2 (λz=>hx (r1.nil_iff.mp z)) (λz=>⟨.ref a,H,I,rfl,q1 (r2.nil_iff.mp z)⟩) (λz=>?_) (by rw[<- r1.length,<- r2.length];exact hz)
 refine⟨.ref s.heap.objs.size,_,I.laid (t':=s.toks) (o:=.tup (xs++ys)) (λb ob q=>Yad _ q) (Yag _) ?_,rfl,q2 (λw=>z (r2.nil_iff.mpr w)) _ (I.hok.fresh (Yag _))⟩;exact⟨by rw[YaA];exact hz,_,r1.append r2,TupD.new _ _⟩

noncomputable def ixN  (n:Nat)(i:Int):Option Nat:=if 0<=i then (if i<n then some i.toNat else none) else if -(n:Int)<=i then some (i+n).toNat else none
noncomputable def atI  {α:Type}(xs:List α)(i:Int):Option α:=(ixN xs.length i).bind λj=>xs[j]?
def jiu     (h:ixN n i=some j):seqIndex? i n=some j/\j<n/\-(n:Int)<=i/\i<n:=by
 unfold ixN at h;by_cases h0:0<=i
 ·rw[if_pos h0]at h;by_cases h1:i<n
  ·rw[if_pos h1]at h;have e:i.toNat=j:=Yan h;exact⟨by rw[seqIndex_of h0 h1,e],by lia,by lia,h1⟩
  ·rw[if_neg h1]at h;cases h
 ·rw[if_neg h0]at h;by_cases h1:-(n:Int)<=i
  ·rw[if_pos h1]at h;have e:(i+n).toNat=j:=Yan h;exact⟨by rw[Ygh (by lia) h1,e],by lia,h1,by lia⟩
  ·rw[if_neg h1]at h;cases h
def jgf      (h:atI xs i=some v):∃j,seqIndex? i xs.length=some j/\xs[j]?=some v/\j<xs.length/\-(xs.length:Int)<=i/\i<xs.length:=by
 unfold atI at h;cases e:ixN xs.length i with
 |none=>rw[e]at h;cases h
 |some j=>
  rw[e]at h;obtain⟨h1,h2,h3,h4⟩:=jiu e;exact⟨j,h1,h,h2,h3,h4⟩
def jbb    {j:Nat}{v:α}(h:xs[j]?=some v):atI xs (j:Int)=some v:=by
 have hj:j<xs.length:=(List.getElem?_eq_some_iff.mp h).1;have e:ixN xs.length (j:Int)=some j:=by
  unfold ixN;rw[if_pos (by lia),if_pos (by lia)];simp
 unfold atI;rw[e];exact h
def jgi  (b:Expr):Prop:=∀o i,subscripted b false o i=operate [o,i] (getItem o i)
def IxR  (X:Cx)(r:R2):Prop:=
 ∀(value slice:Expr) (pins:List (Addr×Obj)) (s:Shared) (σ:St) (H:Hp) (x y:V) (v u:Value) (Q:VK),Inv X pins σ H s->RelV x v->RelV y u->r x y H Q->
  subscripted slice false v u=operate [v,u] (getItem v u)->wpAny (model X.prog X.w) X.A (Ydu value slice v u) (EP X pins σ Q) X.xe s
def MtR  (X:Cx)(id:String)(r:V->List V->Hp->VK->Prop):Prop:=
 ∀(pins:List (Addr×Obj)) (s:Shared) (σ:St) (H:Hp) (x:V) (xs:List V) (v:Value) (us:List Value) (Q:VK),Inv X pins σ H s->RelV x v->Vals xs us->r x xs H Q->
  wpAny (model X.prog X.w) X.A (call (.builtin id) (v::us)) (EP X pins σ Q) X.xe s

def IxR.or   (h:IxR X r)(h':IxR X r'):IxR X (λx y H Q=>r x y H Q\/r' x y H Q):=by
 intro value slice pins s σ H x y v u Q I rx ry q hs;rcases q with q|q
 ·exact h value slice pins s σ H x y v u Q I rx ry q hs
 ·exact h' value slice pins s σ H x y v u Q I rx ry q hs
def jpM   (hr:IxR X r)(ha:PE X a ta)(hb:PE X b tb)(hs:jgi b):PE X (.Subscript a b pos) (tOp r ta tb):=by
 intro pins s σ H Q I h;exact Subscript_ (binT ha hb I h λv u s2 x y H2 I2 rx ry q=>hr a b pins s2 σ H2 x y v u Q I2 rx ry q (hs _ _))

def rIxL  (K:Yab):R2:=λx y H Q=>∃p xs i v,x=.ref p/\y=.int i/\SqL K H p xs/\atI xs i=some v/\Q v H
def rIxT  (K:Yab):R2:=λx y H Q=>∃p xs i v,x=.ref p/\y=.int i/\SqT K H p xs/\atI xs i=some v/\Q v H
def rIxS  : R2:=λx y H Q=>∃z i c,x=.str z/\y=.int i/\z.length<=Yaf/\atI z.cps.toList i=some c/\Q (.str ⟨#[c]⟩) H
def jma  : IxR X (rIxL X.K):=by
 intro value slice pins s σ H x y v u Q I rx ry h hs;obtain⟨p,xs,i,z,rfl,rfl,hq,he,q⟩:=h;cases rx;obtain⟨t,rfl⟩:=ry;obtain⟨its,r,pl,hz⟩:=I.list hq;obtain⟨j,h1,h2,h3,h4,h5⟩:=jgf he;obtain⟨w,ew,rw'⟩:=r.get h2;have hl:=r.length;have hn:=jdl;have fin:EP X pins σ Q w s:=⟨z,H,I,rw',q⟩;by_cases h0:0<=i
 ·have hj:i.toNat=j:=by
   rw[seqIndex_of h0 h5]at h1;exact Yan h1
  exact item_listR pl.isList h0 (by lia) (by rw[hj];simpa using ew) fin hs
 ·have hj:(i+(its.toArray.size:Int)).toNat=j:=by
   rw[Ygh (by lia) h4]at h1
   rw[Yam,<- hl];exact Yan h1
  exact Yf3 (x:=w) pl.isList.typeIs slot_list_getitem.lookup
   (wpAny_getItem_list_neg (Q:=λr s'=>r=w/\EP X pins σ Q r s') pl.isList (by lia) (by rw[Yam]<;>lia) (by lia) (by rw[hj];simpa using ew) ⟨rfl,fin⟩) hs
def joh  : IxR X (rIxT X.K):=by
 intro value slice pins s σ H x y v u Q I rx ry h hs;obtain⟨p,xs,i,z,rfl,rfl,hq,he,q⟩:=h;cases rx;obtain⟨t,rfl⟩:=ry;obtain⟨its,r,pl,hz⟩:=I.tuple hq;obtain⟨j,h1,h2,h3,h4,h5⟩:=jgf he;obtain⟨w,ew,rw'⟩:=r.get h2;have hl:=r.length;have hn:=jdl;have fin:EP X pins σ Q w s:=⟨z,H,I,rw',q⟩;exact Yf3 (x:=w) pl.typeIs slot_tuple_getitem.lookup
  (getItem_tuple (j:=j) (Q:=λr s'=>r=w/\EP X pins σ Q r s') pl (by lia) (by lia) (by rw[Yam,<- hl];exact h1) (by simpa using ew) ⟨rfl,fin⟩) hs
def joi  : IxR X rIxS:=by
 intro value slice pins s σ H x y v u Q I rx ry h hs;obtain⟨z,i,c,rfl,rfl,hz,he,q⟩:=h;obtain⟨t,rfl⟩:=rx;obtain⟨t',rfl⟩:=ry;obtain⟨j,h1,h2,h3,h4,h5⟩:=jgf he;have hl:z.cps.toList.length=z.length:=by simp[YcO]
 rw[hl]at h1 h4 h5;have hn:=jdl;exact YfQ (Ycy s z t) slot_str_getitem.lookup (getItem_str (c:=c) (by
  have e1:decide (i < -(2 ^ 63:Int))=false:=decide_eq_false (by lia)
  have e2:decide (i ≥ 2 ^ 63)=false:=decide_eq_false (by lia)
  rw[e1,e2,Bool.or_false]) (by rw[h1];simpa using h2) ⟨.str ⟨#[c]⟩,H,I.tok _,⟨_,rfl⟩,q⟩) hs
def rIx  (K:Yab):R2:=λx y H Q=>rIxL K x y H Q\/rIxT K x y H Q\/rIxS x y H Q
def joj  : IxR X (rIx X.K):=jma.or (joh.or joi)

def jhf  (its:List Value)(n j:Nat) u:Yee (·.setIfInBounds j u) { cls:=.type "list",data:=.seq its.toArray n }={ cls:=.type "list",data:=.seq (its.set j u).toArray n }:=by
 simp[Yee]
def Inv.lst   {σ:St}(I:Inv X pins σ H s)(h:H p=some (.lst xs)) :
  ∃(its:List Value) (n:Nat),Vals xs its/\s.heap.get? p=some { cls:=.type "list",data:=.seq its.toArray n }/\xs.length<=Yaf:=by
 obtain⟨z,its,n,r,e⟩:=I.hok p _ h;exact⟨its,n,r,e,z⟩
def Inv.lstUpd   {σ:St}{its its':List Value}(I:Inv X pins σ H s)(h:H p=some (.lst xs))
  (ho:s.heap.get? p=some { cls:=.type "list",data:=.seq its.toArray n }) (hf:f { cls:=.type "list",data:=.seq its.toArray n }={ cls:=.type "list",data:=.seq its'.toArray n' }) (r:Vals ys its') (hz:ys.length<=Yaf) t :
  Inv X pins σ (upd H p (.lst ys)) { s with heap:=s.heap.update p f,toks:=t }:=by
 have e:(s.heap.update p f).get? p=some { cls:=.type "list",data:=.seq its'.toArray n' }:=by
  rw[Yb7 f ho (by rw[hf]<;>rfl),hf]
 refine I.write (x:=p) (e:=p) (by rw[h];trivial) (.inl rfl) (λb u hb q=>(Ydn _ _ (Ne.symm hb)).trans q) ⟨_,e⟩ ?_
 exact⟨hz,its',n',r,e⟩
def jng  : V->V->V->Hp->(Hp->Prop)->Prop:=λo i v H Q=>∃p xs k j,o=.ref p/\i=.int k/\H p=some (.lst xs)/\ixN xs.length k=some j/\Q (upd H p (.lst (xs.set j v)))
def jjt  : PSet X jng:=by
 intro pins s σ H o i v ov iv u Q I ro ri rv h;obtain⟨p,xs,k,j,rfl,rfl,hp,hj,q⟩:=h;cases ro;obtain⟨t,rfl⟩:=ri;obtain⟨its,n,r,ho,hz⟩:=I.lst hp;obtain⟨h1,h2,h3,h4⟩:=jiu hj;have hl:=r.length;have hn:=jdl;have I':Inv X pins σ (upd H p (.lst (xs.set j v))) { s with heap:=s.heap.update p (Yee (·.setIfInBounds j u)) }:=
  I.lstUpd hp ho (jhf its n j u) (r.set rv j) (by rw[List.length_set];exact hz) s.toks
 by_cases h0:0<=k
 ·have hk:k.toNat=j:=by
   rw[seqIndex_of h0 h4]at h1;exact Yan h1
  exact PySem.W.ki_setAt ho h0 (by lia) (by rw[Yam,<- hl];exact h4) (by rw[hk];exact⟨_,I',q⟩)
 ·have hk:(k+(its.toArray.size:Int)).toNat=j:=by
   rw[Ygh (by lia) h3]at h1
   rw[Yam,<- hl];exact Yan h1
  exact PySem.W.ki_setBack ho (by lia) (by rw[Yam,<- hl];exact h3) (by lia) (by rw[hk];exact⟨_,I',q⟩)

def jeR   lo hi n:(Ycv lo hi none n).1=((HT.sIx n 0 lo:Nat):Int)/\(Ycv lo hi none n).2.1=((HT.sIx n n hi:Nat):Int)/\(Ycv lo hi none n).2.2=1:=by
 refine⟨?_,?_,rfl⟩
 ·cases lo with
  |none=>simp[Ycv,HT.sIx]
  |some i=>
   simp only[Ycv,HT.sIx,YfX,show(1:Int)>0 by decide,if_true]
   by_cases h:i<0
   ·simp only[h,if_true]<;>lia
   ·simp only[h,if_false]<;>lia
 ·cases hi with
  |none=>simp[Ycv,HT.sIx]
  |some i=>
   simp only[Ycv,HT.sIx,YfX,show(1:Int)>0 by decide,if_true]
   by_cases h:i<0
   ·simp only[h,if_true]<;>lia
   ·simp only[h,if_false]<;>lia
def jef  (its:List Value) lo hi:Yel its.toArray lo hi none=((its.drop (HT.sIx its.length 0 lo)).take (HT.sIx its.length its.length hi-HT.sIx its.length 0 lo)).toArray:=by
 obtain⟨h1,h2,h3⟩:=jeR lo hi its.toArray.size;unfold Yel;rw[h1,h2,h3];simp only[sliceRange_one,pick_run,Yam]<;>rfl
def rSlL  (K:Yab):V->Option Int->Option Int->Hp->VK->Prop:=λx lo hi H Q=>∃a xs,x=.ref a/\SqL K H a xs/\∀p,H p=none->Q (.ref p) (upd H p (.lst (cutV xs lo hi)))
def jli  : SlR X (rSlL X.K):=by
 intro pins s σ H x v vl vu lo hi sl Q I rx hs pl pu h;obtain⟨a,xs,rfl,hx,q⟩:=h;cases rx;obtain⟨its,r,ht,hz⟩:=I.list hx;have hlen:=r.length;refine⟨"list",_,slot_list_getitem.lookup,ht.isList.typeIs,?_⟩;refine Ydp ht.isList hs pl pu .none (by simp) ?_ (by rw[Yam]<;>lia)
 rw[jef,<- hlen];refine⟨.ref s.heap.objs.size,_,I.laid (t':=s.toks) (o:=.lst (cutV xs lo hi)) (λb ob q=>Yad _ q) (Yag _) ?_,rfl,q _ (I.hok.fresh (Yag _))⟩;exact⟨Yai (jdz xs lo hi) hz,_,0,(r.drop (HT.sIx xs.length 0 lo)).take (HT.sIx xs.length xs.length hi-HT.sIx xs.length 0 lo),Yaq _ rfl⟩

noncomputable def flatV  : V->Bool
 |.non=>true
 |.bl _=>true
 |.int _=>true
 |.str _=>true
 |_=>false
noncomputable def eqV  : V->V->Bool
 |.non,.non=>true
 |.bl a,.bl b=>a==b
 |.bl a,.int b=>(if a then 1 else 0)==b
 |.int a,.bl b=>a==(if b then 1 else 0)
 |.int a,.int b=>a==b
 |.str a,.str b=>a==b
 |_,_=>false
def joA      (ry:RelV y u)(rx:RelV x v)(fy:flatV y=true)(fx:flatV x=true):YeP A s u v (eqV y x):=by
 cases y with
 |non=>
  cases ry;cases x with
  |non=>cases rx;exact YeP.same _
  |bl b=>cases rx;exact YeP.none_bool b
  |int b=>obtain⟨t,rfl⟩:=rx;exact YeP.none_int b t
  |str b=>obtain⟨t,rfl⟩:=rx;exact YeP.none_str b t
  |_=>exact absurd (show false=true from fx) Yal
 |bl a=>
  cases ry;cases x with
  |non=>cases rx;exact YeP.bool_none a
  |bl b=>cases rx;exact YeP.bool_bool a b
  |int b=>obtain⟨t,rfl⟩:=rx;exact YeP.bool_int a b t
  |str b=>obtain⟨t,rfl⟩:=rx;exact YeP.bool_str a b t
  |_=>exact absurd (show false=true from fx) Yal
 |int a=>
  obtain⟨t',rfl⟩:=ry;cases x with
  |non=>cases rx;exact YeP.int_none a t'
  |bl b=>cases rx;exact YeP.int_bool a t' b
  |int b=>obtain⟨t,rfl⟩:=rx;exact YeP.int_int a t' b t
  |str b=>obtain⟨t,rfl⟩:=rx;exact Ye0 a t' b t
  |_=>exact absurd (show false=true from fx) Yal
 |str a=>
  obtain⟨t',rfl⟩:=ry;cases x with
  |non=>cases rx;exact YeP.str_none a t'
  |bl b=>cases rx;exact YeP.str_bool a t' b
  |int b=>obtain⟨t,rfl⟩:=rx;exact YeZ a t' b t
  |str b=>obtain⟨t,rfl⟩:=rx;exact YeP.str_str a t' b t
  |_=>exact absurd (show false=true from fx) Yal
 |_=>exact absurd (show false=true from fy) Yal
noncomputable def eqU  (x:V)(u:Value):Bool:=match u with
 |.none=>eqV .non x
 |.bool b=>eqV (.bl b) x
 |.int i _=>eqV (.int i) x
 |.str z _=>eqV (.str z) x
 |_=>false
def jkN    (r:RelV y u)(f:flatV y=true):eqU x u=eqV y x:=by
 cases y with
 |non=>cases r;rfl
 |bl b=>cases r;rfl
 |int i=>obtain⟨t,rfl⟩:=r;rfl
 |str z=>obtain⟨t,rfl⟩:=r;rfl
 |_=>exact absurd (show false=true from f) Yal
theorem jdD   : ∀{xs } {us },Vals xs us->xs.all flatV=true->us.any (eqU x)=xs.any λy=>eqV y x
 |_,_,.nil,_=>rfl
 |y::xs,u::us,.cons r t,f=>by
  rw[YbE,Yao]at f;rw[Ybn,Ybn,jkN r f.1,jdD t f.2]
theorem jbf      (rx:RelV x v)(fx:flatV x=true):∀{xs } {us },Vals xs us->xs.all flatV=true->∀u∈us,YeP A s u v (eqU x u)
 |_,_,.nil,_=>λu hu=>by cases hu
 |y::xs,u::us,.cons r t,f=>λu' hu=>by
  rw[YbE,Yao]at f;rcases YaG.mp hu with rfl|hu
  ·rw[jkN r f.1];exact joA r rx f.1 fx
  ·exact jbf rx fx t f.2 u' hu
noncomputable def inV  (x:V)(xs:List V):Bool:=xs.any λy=>eqV y x
def rIn  (K:Yab)(neg:Bool):R2:=λx y H Q=>∃p xs,y=.ref p/\(SqL K H p xs\/SqT K H p xs)/\flatV x=true/\xs.all flatV=true/\Q (.bl (if neg then !inV x xs else inV x xs)) H
def jh4  : OpR X (YaN .In) (rIn X.K false):=by
 intro pins s σ H x y v u Q I rx ry h;obtain⟨p,xs,rfl,hq,fx,fs,q⟩:=h;cases ry;rcases hq with hq|hq
 ·obtain⟨its,r,pl,hz⟩:=I.list hq;refine Ygm (eqU x) pl.isList (λw hw=>jbf rx fx r fs w (by simpa using hw)) ⟨.bl _,H,I,rfl,?_⟩
  rw[show its.toArray.any (eqU x)=its.any (eqU x) by simp,jdD r fs]
  exact q
 ·obtain⟨its,r,pl,hz⟩:=I.tuple hq;refine Yf4 (eqU x) pl (λw hw=>jbf rx fx r fs w (by simpa using hw)) ⟨.bl _,H,I,rfl,?_⟩
  rw[show its.toArray.any (eqU x)=its.any (eqU x) by simp,jdD r fs]
  exact q
def jeX  : OpR X (YaN .NotIn) (rIn X.K true):=by
 intro pins s σ H x y v u Q I rx ry h;obtain⟨p,xs,rfl,hq,fx,fs,q⟩:=h;cases ry;rcases hq with hq|hq
 ·obtain⟨its,r,pl,hz⟩:=I.list hq;refine YfC (eqU x) pl.isList (λw hw=>jbf rx fx r fs w (by simpa using hw)) ⟨.bl _,H,I,rfl,?_⟩
  rw[show its.toArray.any (eqU x)=its.any (eqU x) by simp,jdD r fs]
  exact q
 ·obtain⟨its,r,pl,hz⟩:=I.tuple hq;refine Yfq (eqU x) pl (λw hw=>jbf rx fx r fs w (by simpa using hw)) ⟨.bl _,H,I,rfl,?_⟩
  rw[show its.toArray.any (eqU x)=its.any (eqU x) by simp,jdD r fs]
  exact q
def jaU.or    (h:jaU X f r)(h':jaU X f r'):jaU X f (λxs H Q=>r xs H Q\/r' xs H Q):=by
 intro pins s σ H xs us Q I rs q;rcases q with q|q
 ·exact h pins s σ H xs us Q I rs q
 ·exact h' pins s σ H xs us Q I rs q
def jfs  : jaU X (.type "list") (λxs H Q=>∃p ys,xs=[.ref p]/\(SqL X.K H p ys\/SqT X.K H p ys)/\∀l,H l=none->Q (.ref l) (upd H l (.lst ys))):=by
 intro pins s σ H xs us Q I r h;obtain⟨p,ys,rfl,hq,q⟩:=h;obtain⟨u,rfl,rx⟩:=jcc r;cases rx;have fin:∀(its:List Value),Vals ys its->ys.length<=Yaf->∀(h':Heap) (c':Nat),(∀b o',s.heap.get? b=some o'->h'.get? b=some o')->
   h'.get? s.heap.objs.size=some { cls:=.type "list",dict:=none,data:=.seq its.toArray c',slots:=#[] }->EP X pins σ Q (.ref s.heap.objs.size) { s with heap:=h' }:=λits r' hz h' c' kp e=>
  ⟨.ref s.heap.objs.size,_,I.laid (t':=s.toks) kp (Yag _) (show jaD X.prog X.w _ h' _ (.lst ys)from⟨hz,its,c',r',e⟩),rfl,q _ (I.hok.fresh (Yag _))⟩
 rcases hq with hq|hq
 ·obtain⟨its,r',pl,hz⟩:=I.list hq;have hlen:=r'.length;obtain⟨o,ho,hc,n,hd⟩:=pl.isList;exact call_list_seq p (.inl rfl) ho hc hd (λh' c' kp e=>fin its r' hz h' c' kp e) (by simp only[Yam]<;>lia)
 ·obtain⟨its,r',pl,hz⟩:=I.tuple hq;have hlen:=r'.length;obtain⟨o,ho,hc,n,hd⟩:=pl;exact call_list_seq p (.inr rfl) ho hc hd (λh' c' kp e=>fin its r' hz h' c' kp e) (by simp only[Yam]<;>lia)
def jeI  : jaU X (.type "tuple") (λxs H Q=>∃p ys,xs=[.ref p]/\((SqL X.K H p ys/\∀l,H l=none->Q (.ref l) (upd H l (.tup ys)))\/(SqT X.K H p ys/\Q (.ref p) H))):=by
 intro pins s σ H xs us Q I r h;obtain⟨p,ys,rfl,h⟩:=h;obtain⟨u,rfl,rx⟩:=jcc r;cases rx;rcases h with⟨hq,q⟩|⟨hq,q⟩
 ·obtain⟨its,r',pl,hz⟩:=I.list hq;have hlen:=r'.length;refine call_tuple_list pl.isList (λh' kp=>?_) (by simp only[Yam]<;>lia)
  have I1:Inv X pins σ H { s with heap:=h' }:=I.kept (t':=s.toks) kp
  have I2:Inv X pins σ (upd H h'.objs.size (.tup ys)) { s with heap:=h'.push { cls:=.type "tuple",data:=.seq its.toArray } }:=
   I1.laid (t':=s.toks) (λb o e=>Yad _ e) (Yag _) (show jaD X.prog X.w _ _ _ (.tup ys)from⟨hz,its,r',TupD.new _ _⟩)
  exact⟨.ref h'.objs.size,_,I2,rfl,q _ (I1.hok.fresh (Yag _))⟩
 ·obtain⟨its,r',pl,hz⟩:=I.tuple hq;exact call_tuple_same pl ⟨.ref p,H,I,rfl,q⟩

def tyV  (K:Yab)(T:String)(x:V)(H:Hp):Prop:=match x with
 |.str _=>T = "str"
 |.int _=>T = "int"
 |.ref p=>(T = "list" /\ ∃xs,SqL K H p xs)\/(T = "tuple" /\ ∃o,K.lookup p=some o/\o.cls=.type "tuple" /\ o.dict=none)\/
   (T = "dict" /\ ((∃kvs,H p=some (.dK kvs))\/∃kvs,H p=some (.dT kvs)))\/(T = "set" /\ ∃S n,H p=some (.set S n))\/(T = "tuple" /\ ∃xs,H p=some (.tup xs))
 |_=>False
def jkk   {σ:St}(I:Inv X pins σ H s)(r:RelV x v)(ty:tyV X.K T x H) :
  s.TypeIs v T/\∀a,v=.ref a->∃ob,s.heap.get? a=some ob/\ob.dict=none:=by
 cases x with
 |str z=>
  obtain⟨t,rfl⟩:=r;cases(show T = "str" from ty);exact⟨Ycy s z t,λ_ e=>nomatch e⟩
 |int i=>
  obtain⟨t,rfl⟩:=r;cases(show T = "int" from ty);exact⟨YeF s i t,λ_ e=>nomatch e⟩
 |ref p=>
  cases r;rcases ty with⟨rfl,xs,hq⟩|⟨rfl,o,hk,hc,hd⟩|⟨rfl,hk⟩|⟨rfl,S,n,hk⟩|⟨rfl,xs,hk⟩
  ·obtain⟨its,_,pl,_⟩:=I.list hq;refine⟨pl.isList.typeIs,λa e=>?_⟩;cases e;obtain⟨o,n,e,c,hd,_⟩:=pl;exact⟨o,e,hd⟩
  ·refine⟨⟨o,I.kIn p o hk,hc⟩,λa e=>?_⟩;cases e;exact⟨o,I.kIn _ o hk,hd⟩
  ·have z:∃o,s.heap.get? p=some o/\o.ExactDict:=by
    rcases hk with⟨kvs,hk⟩|⟨kvs,hk⟩
    ·obtain⟨_,_,_,_,o,_,_,e,ex,_⟩:=I.hok p _ hk;exact⟨o,e,ex⟩
    ·obtain⟨_,_,_,_,o,_,_,e,ex,_⟩:=I.hok p _ hk;exact⟨o,e,ex⟩
   obtain⟨o,e,ex⟩:=z;refine⟨⟨o,e,ex.1⟩,λa e2=>?_⟩;cases e2;exact⟨o,e,ex.2.1⟩
  ·obtain⟨o,_,_,_,e,ex,_⟩:=I.hok p _ hk;refine⟨⟨o,e,ex.1⟩,λa e2=>?_⟩;cases e2;exact⟨o,e,ex.2.1⟩
  ·obtain⟨_,its,r,o,e,c,n,d,hd⟩:=(show jaD X.prog X.w H s.heap p (.tup xs)from I.hok p _ hk);refine⟨⟨o,e,c⟩,λa e2=>?_⟩;cases e2;exact⟨o,e,hd⟩
 |_=>exact YbJ ty


def MtM  (X:Cx)(id:String)(r:V->List V->Hp->VK->Prop):Prop:=
 ∀(pins:List (Addr×Obj)) (s:Shared) (σ:St) (H:Hp) (x:V) (xs:List V) (v:Value) (us:List Value) (Q:VK),Inv X pins σ H s->RelV x v->Vals xs us->r x xs H Q->
  wpAny (model X.prog X.w) X.A (call (.builtin id) (v::us)) (EP X pins σ Q) X.xe s

def Vals.one  : ∀{x } {us },Vals [x] us->∃u,us=[u]/\RelV x u
 |_,_,.cons r .nil=>⟨_,rfl,r⟩
def Vals.two  : ∀{x y } {us },Vals [x,y] us->∃u v,us=[u,v]/\RelV x u/\RelV y v
 |_,_,_,.cons r (.cons q .nil)=>⟨_,_,rfl,r,q⟩
def Vals.zero  : ∀{us },Vals [] us->us=[]
 |_,.nil=>rfl
theorem Vals.rep    (h:Vals xs us):∀k ,Vals (Yaa k xs).flatten (Yaa k us).flatten
 |0=>.nil
 |k+1=>by
  rw[YaS,YaS,Yb9,Yb9];exact Vals.append h (Vals.rep h k)
theorem jdp  (its:List Value):∀k (acc:List Value),
  Yd7 (λx1 x2=>x1++x2) acc.toArray (Yaa k its.toArray)=(acc++(Yaa k its).flatten).toArray
 |0,acc=>by simp
 |k+1,acc=>by
  have e:acc.toArray++its.toArray=(acc++its).toArray:=by simp
  have e2:(acc++its)++(Yaa k its).flatten=acc++(Yaa (k+1) its).flatten:=by
   rw[YaS,Yb9,Ydc]
  rw[<- e2,<- jdp its k (acc++its),<- e,YaS,YeA]

section
variable {X:Cx}{pins:List (Addr×Obj)}{σ:St}{H:Hp}{s:Shared}{l b:Addr}{xs ys zs:List V}

def Inv.lset  {its its':List Value}(I:Inv X pins σ H s)(hH:H l=some (.lst xs))
  (e:s.heap.get? l=some { cls:=.type "list",data:=.seq its.toArray n }) (hf:f its.toArray=its'.toArray) (hv:Vals ys its') (hz:ys.length<=Yaf) :
  Inv X pins σ (upd H l (.lst ys)) { s with heap:=s.heap.update l (Yee f),toks:=t' }:=by
 have q:=PySem.IsL.update e f;rw[hf]at q;refine I.write (x:=l) (e:=l) (by rw[hH];exact trivial) (.inl rfl) (λb' u hb hu=>(Ydn s.heap (Yee f) (Ne.symm hb)).trans hu) ⟨_,q⟩ ?_
 exact⟨hz,its',_,hv,q⟩
def Inv.lnew    (I:Inv X pins σ H s)(hv:Vals ys its)(hz:ys.length<=Yaf) :
  Inv X pins σ (upd H s.heap.objs.size (.lst ys)) { s with heap:=s.heap.push { cls:=.type "list",data:=.seq its.toArray },toks:=t' }:=
 I.laid (λ_ _ q=>Yad _ q) (Yag _) ⟨hz,its,0,hv,Yaq _ rfl⟩
def Inv.fresh  (I:Inv X pins σ H s):H s.heap.objs.size=none:=I.hok.fresh (Yag _)
def Inv.lstM  (I:Inv X pins σ H s)(hH:H l=some (.lst xs)):xs.length<=Yaf/\∃(its:List Value) (n:Nat),Vals xs its/\xs.length=its.length/\s.heap.get? l=some { cls:=.type "list",data:=.seq its.toArray n }:=by
 obtain⟨z,its,n,r,e⟩:=I.hok l _ hH;exact⟨z,its,n,r,r.length,e⟩

def jjU   (h:n<=Yaf):YcN n=false:=by
 unfold YcN;exact decide_eq_false (by lia)
end


def jlq  : V->List V->Hp->VK->Prop:=λx vs H Q=>∃l xs y,x=.ref l/\vs=[y]/\H l=some (.lst xs)/\xs.length<Yaf/\Q .non (upd H l (.lst (xs++[y])))
def je8  : MtM X "list.append" jlq:=by
 intro pins s σ H x vs v us Q I rx rv h;obtain⟨l,xs,y,rfl,rfl,hH,hz,q⟩:=h;cases rx;obtain⟨u,rfl,ru⟩:=rv.one;obtain⟨z,its,n,r,hl,e⟩:=I.lstM hH;refine Ybv F.slot_list_append ⟨_,e,rfl⟩ F.entry_list_append (F.args_list_append_2 _ _) (PySem.list_append l its.toArray n u (by rw[Yam];lia)) ⟨e,?_⟩
 refine⟨.non,_,I.lset (its':=its++[u]) hH e (by simp) (r.append (.cons ru .nil)) ?_,rfl,q⟩
 rw[YaA,YbC]
 lia

def jnj  : V->List V->Hp->VK->Prop:=λx vs H Q=>∃l xs,x=.ref l/\vs=[]/\H l=some (.lst xs)/\Q .non (upd H l (.lst []))
def jj0  : MtM X "list.clear" jnj:=by
 intro pins s σ H x vs v us Q I rx rv h;obtain⟨l,xs,rfl,rfl,hH,q⟩:=h;cases rx;have hus:=rv.zero;subst hus;obtain⟨z,its,n,r,hl,e⟩:=I.lstM hH;refine Ybv F.slot_list_clear ⟨_,e,rfl⟩ F.entry_list_clear (F.args_list_clear_1 _) (AutoSeq1.list_clear_list_0 l its.toArray n (by rw[Yam];lia)) ⟨e,?_⟩
 exact⟨.non,_,I.lset (its':=[]) (ys:=[]) hH e rfl .nil (Ybh _),rfl,q⟩

def rCat  : R2:=λx y H Q=>∃l b xs zs,x=.ref l/\y=.ref b/\H l=some (.lst xs)/\H b=some (.lst zs)/\xs.length+zs.length<=Yaf/\∀p,H p=none->Q (.ref p) (upd H p (.lst (xs++zs)))
def jnS  : OpR X (Ybg .Add) rCat:=by
 intro pins s σ H x y v u Q I rx ry h;obtain⟨l,b,xs,zs,rfl,rfl,hH,hB,hz,q⟩:=h;cases rx;cases ry;obtain⟨z,its,n,r,hl,e⟩:=I.lstM hH;obtain⟨z2,its2,n2,r2,hl2,e2⟩:=I.lstM hB;refine PySem.P.add_list e e2 ?_ (by rw[Yam,Yam];lia)
 have ea:its.toArray++its2.toArray=(its++its2).toArray:=by simp
 rw[ea];exact⟨.ref _,_,I.lnew (t':=s.toks) (r.append r2) (by rw[YaA];lia),rfl,q _ I.fresh⟩
def rRep  : R2:=λx y H Q=>∃l k xs,x=.ref l/\y=.int k/\H l=some (.lst xs)/\-(2 ^ 63)<=k/\k<2 ^ 63/\xs.length*k.toNat<=Yaf/\
 ∀p,H p=none->Q (.ref p) (upd H p (.lst (Yaa k.toNat xs).flatten))
def jfY  {α:Type}(xs:List α) k:(Yaa k xs).flatten.length=k*xs.length:=by
 induction k with
 |zero=>simp
 |succ k ih=>rw[YaS,Yb9,YaA,ih,Yfv,Yfw]
def jnJ  : OpR X (Ybg .Mult) rRep:=by
 intro pins s σ H x y v u Q I rx ry h;obtain⟨l,k,xs,rfl,rfl,hH,h1,h2,hz,q⟩:=h;cases rx;obtain⟨t,rfl⟩:=ry;obtain⟨z,its,n,r,hl,e⟩:=I.lstM hH;have hlen:its.toArray.size*k.toNat<=Yaf:=by rw[Yam,<- hl];exact hz
 have hcap:¬its.toArray.size*k.toNat>(2 ^ 63-1)/8:=by
  have:(Yaf:Nat)<=(2 ^ 63-1)/8:=by decide
  lia
 have hfit:¬(!Builtin.List.listFitsIndex k)=true:=by
  rw[fitsIndex_both h1 h2];exact Yal
 have hlong:¬YcN (its.toArray.size*k.toNat)=true:=by
  rw[jjU hlen];exact Yal
 have hnew:Yd7 (λx1 x2=>x1++x2) #[] (Yaa (if its.toArray.isEmpty=true then 0 else k.toNat) its.toArray)=(Yaa k.toNat its).flatten.toArray:=by
  have f0:∀m:Nat,Yd7 (λx1 x2=>x1++x2) #[] (Yaa m its.toArray)=(Yaa m its).flatten.toArray:=λm=>by
   have:=jdp its m [];rw[Yb5]at this;exact this
  rw[f0];cases its with
  |nil=>simp
  |cons a r'=>rw[if_neg (by simp)]
 refine Yfm (T := "list") (U := "int") (by decide) ⟨_,e,rfl⟩ (λs'=>YeF s' k t) noFill_list_mul F.fills_int_mul YdF repeat_list F.slot_int_index.lookup
  (Ybv YdF (YeF s k t) F.entry_int_rmul (F.args_int_rmul_2 _ _) (int___rmul___int_list k t l its.toArray n)
   ⟨e,rfl,⟨_,e,rfl⟩,Ybv F.slot_list_mul ⟨_,e,rfl⟩ F.entry_list_mul (F.args_list_mul_2 _ _) (AutoListH.list___mul___list_int_3 l its.toArray n k t hfit hcap hlong) ⟨e,?_⟩⟩)
 rw[hnew];exact⟨.ref _,_,I.lnew (t':=s.toks) (r.rep k.toNat) (by rw[jfY,Yei];exact hz),rfl,q _ I.fresh⟩






section
variable {κ:Type}[DecidableEq κ]
noncomputable def valV (kvs:List (κ×V))(k:κ):Option V:=(kvs.find? λkv=>decide (kv.1=k)).map (·.2)
noncomputable def putK (kvs:List (κ×V))(k:κ)(v:V):List (κ×V):=
 if (kvs.any λkv=>decide (kv.1=k))=true then kvs.map (λkv=>if kv.1=k then (kv.1,v) else kv) else kvs++[(k,v)]
def jcL    {k:κ}(e:p.1=k):valV (p::r) k=some p.2:=by simp[valV,Ybr,e]
def jcM    {k:κ}(e:¬p.1=k):valV (p::r) k=valV r k:=by simp[valV,Ybr,e]
theorem jgk  (k:κ):∀kvs ,(kvs.any λkv=>decide (kv.1=k))=(valV kvs k).isSome
 |[]=>rfl
 |p::r=>by
  rw[Ybn];by_cases e:p.1=k
  ·simp only[jcL e,decide_eq_true e,Bool.true_or,Option.isSome_some]
  ·rw[jcM e,decide_eq_false e,Ye9];exact jgk k r
def jbg  (kvs:List (κ×V)) k v:(putK kvs k v).length<=kvs.length+1:=by
 unfold putK;split
 ·rw[Yae];lia
 ·rw[YaA,Ybd,YcP];lia
def RelO.isSome_eq    (r:RelO o u):o.isSome=u.isSome:=by
 cases o with
 |none=>cases u with
  |none=>rfl
  |some _=>exact(show False from r).elim
 |some _=>cases u with
  |none=>exact(show False from r).elim
  |some _=>rfl
theorem RelO.getD      (r:RelO o u)(rd:RelV d d'):RelV (o.getD d) (u.getD d'):=by
 cases o with
 |none=>cases u with
  |none=>exact rd
  |some _=>exact(show False from r).elim
 |some _=>cases u with
  |none=>exact(show False from r).elim
  |some _=>exact r

def KV.val    (r:KV kvs vs)(k:κ):RelO (valV kvs k) (valueAt vs k):=by
 unfold KV at r
 induction r with
 |nil=>exact YbK
 |@cons p q ps qs h t ih=>
  obtain⟨h1,h2⟩:=h;by_cases e:p.1=k
  ·have e':q.1=k:=h1.symm.trans e;have b:valueAt (q::qs) k=some q.2:=by simp[valueAt,Ybr,e']
   rw[jcL e,b];exact h2
  ·have e':¬q.1=k:=λz=>e (h1.trans z);have b:valueAt (q::qs) k=valueAt qs k:=by simp[valueAt,Ybr,e']
   rw[jcM e,b];exact ih
theorem KV.any    (r:KV kvs vs)(k:κ):(kvs.any λkv=>decide (kv.1=k))=vs.any λkv=>decide (kv.1=k):=by
 unfold KV at r
 induction r with
 |nil=>rfl
 |cons h t ih=>rw[Ybn,Ybn,ih,h.1]
def KV.repl    (r:KV kvs vs)(k:κ)(ry:RelV y u) :
  KV (kvs.map λkv=>if kv.1=k then (kv.1,y) else kv) (vs.map λkv=>if kv.1=k then (kv.1,u) else kv):=by
 unfold KV at r ⊢
 induction r with
 |nil=>exact .nil
 |@cons p q ps qs h t ih=>
  rw[Yas,Yas];refine .cons ?_ ih;obtain⟨h1,h2⟩:=h;by_cases e:p.1=k
  ·rw[if_pos e,if_pos (h1.symm.trans e)];exact⟨h1,ry⟩
  ·rw[if_neg e,if_neg (λz=>e (h1.trans z))];exact⟨h1,h2⟩
def KV.put    (r:KV kvs vs)(k:κ)(ry:RelV y u):KV (putK kvs k y) (stored vs k u):=by
 unfold putK stored;rw[r.any k];by_cases e:(vs.any λkv=>decide (kv.1=k))=true
 ·rw[if_pos e,if_pos e];exact r.repl k ry
 ·rw[if_neg e,if_neg e];exact Paired.snoc r ⟨rfl,ry⟩
def KV.length {kvs:List (κ×V)}{vs:List (κ×Value)}(r:KV kvs vs):kvs.length=vs.length:=YdG r
end

def jfc      (r:RelV (kV k) u):(jam P w).is k u=true:=by
 cases k with
 |inl i=>obtain⟨t,e⟩:=(show ∃t,u=Yfd i t from r);subst e;exact jfV P w i t
 |inr x=>obtain⟨t,e⟩:=(show ∃t,u=Yep x t from r);subst e;exact jfU P w x t
theorem jfe    : ∀{ks } {us },Vals (ks.map kV) us->ItemsAre (jam P w) ks us
 |[],_,r=>by rw[YcY]at r;cases r;exact .nil
 |k::ks,_,r=>by
  rw[Yas]at r;cases r with
  |cons h t=>exact .cons (jfc h) (jfe t)

abbrev KT  (H:Hp):List (List Key×V)->List (List Key×Addr×Value)->Prop:=Paired λp q=>p.1=q.1/\H q.2.1=some (.tup (p.1.map kV))/\RelV p.2 q.2.2
def KT.val     (r:KT H kvs xs) k:RelO (valV kvs k) ((atKey xs k).map (·.2)):=by
 induction r with
 |nil=>exact YbK
 |@cons p q ps qs h t ih=>
  obtain⟨h1,_,h2⟩:=h;by_cases e:p.1=k
  ·have e':q.1=k:=h1.symm.trans e;have b:atKey (q::qs) k=some q.2:=by simp[atKey,Ybr,e']
   rw[jcL e,b];exact h2
  ·have e':¬q.1=k:=λz=>e (h1.trans z);have b:atKey (q::qs) k=atKey qs k:=by simp[atKey,Ybr,e']
   rw[jcM e,b];exact ih
def KT.repl     (r:KT H kvs xs) k (ry:RelV y u) :
  KT H (kvs.map λkv=>if kv.1=k then (kv.1,y) else kv) (xs.map (putAt k u)):=by
 induction r with
 |nil=>exact .nil
 |@cons p q ps qs h t ih=>
  rw[Yas,Yas];refine .cons ?_ ih;obtain⟨h1,h2,h3⟩:=h;unfold putAt;by_cases e:p.1=k
  ·rw[if_pos e,if_pos (h1.symm.trans e)];exact⟨h1,h2,ry⟩
  ·rw[if_neg e,if_neg (λz=>e (h1.trans z))];exact⟨h1,h2,h3⟩
def KT.put     (r:KT H kvs xs)(k:List Key)(hb:H b=some (.tup (k.map kV)))(ry:RelV y u) :
  KT H (putK kvs k y) (storedH xs k b u):=by
 have e:(kvs.any λkv=>decide (kv.1=k))=(atKey xs k).isSome:=by
  rw[jgk,(r.val k).isSome_eq,Yc2]
 unfold putK storedH;rw[e];by_cases q:(atKey xs k).isSome=true
 ·rw[if_pos q,if_pos q];exact r.repl k ry
 ·rw[if_neg q,if_neg q];exact Paired.snoc r ⟨rfl,hb,ry⟩
def KT.keeps     (r:KT H kvs xs)(ht:∀b ys,H b=some (.tup ys)->H' b=some (.tup ys)):KT H' kvs xs:=
 Paired.mapP r λ_ _ z=>⟨z.1,ht _ _ z.2.1,z.2.2⟩


def jne   (ok:HOk P w H h)(e:Rd H a u):jaD P w H h a u:=e.ok ok
def jf8   (ok:HOk P w H h)(e:Rd H a (.dK kvs)):kvs.length<=Yaf/\(a==Ya8)=false/\∃vs,KV kvs vs/\h.DictOf (jam P w) a vs:=
 show jaD P w H h a (.dK kvs)from jne ok e
def jmr   (ok:HOk P w H h)(e:H a=some (.dK kvs)):kvs.length<=Yaf/\(a==Ya8)=false/\∃vs,KV kvs vs/\h.DictOf (jam P w) a vs:=jf8 ok (.inl e)
def jdW   (ok:HOk P w H h)(e:H a=some (.tup (ks.map kV))):(Yek (jam P w)).is h ks a:=by
 obtain⟨_,its,r,o,h1,h2,n,h3,_⟩:=(show jaD P w H h a (.tup (ks.map kV))from ok a _ e);exact⟨o,its.toArray,n,h1,h2,h3,by simpa using jfe r⟩
def jhl   (ok:HOk P w H h)(e:Rd H a (.dT kvs)):kvs.length<=Yaf/\(a==Ya8)=false/\
  ∃xs,KT H kvs xs/\h.DictOfH (Yek (jam P w)) a xs:=by
 obtain⟨z,y,xs,r,o,es,ep,h1,h2,h3,h4,h5⟩:=(show jaD P w H h a (.dT kvs)from jne ok e);refine⟨z,y,xs,r,o,es,ep,h1,h2,h3,h4,λx hx=>?_,h5⟩;have all:∀{l:List (List Key×V)} {m:List (List Key×Addr×Value)},KT H l m->∀x∈m,(Yek (jam P w)).is h x.1 x.2.1:=by
  intro l m q
  induction q with
  |nil=>intro x hx;exact nomatch hx
  |@cons p q ps qs hq t ih=>
   intro x hx;rcases YaG.mp hx with e|hx
   ·subst e;exact jdW ok (by rw[<- hq.1];exact hq.2.1)
   ·exact ih x hx
 exact all r x hx
def jp9   (ok:HOk P w H h)(e:H a=some (.dT kvs)):kvs.length<=Yaf/\(a==Ya8)=false/\
  ∃xs,KT H kvs xs/\h.DictOfH (Yek (jam P w)) a xs:=jhl ok (.inl e)

def DGet  (H:Hp)(a:Addr)(y:V)(r:Option V):Prop:=
 (∃kvs k,Rd H a (.dK kvs)/\y=kV k/\r=valV kvs k)\/∃kvs k b,Rd H a (.dT kvs)/\y=.ref b/\H b=some (.tup (k.map kV))/\r=valV kvs k
def DPut  (H:Hp)(a:Addr)(y v:V)(H':Hp):Prop:=
 (∃kvs k,H a=some (.dK kvs)/\y=kV k/\kvs.length<Yaf/\H'=upd H a (.dK (putK kvs k v)))\/
 ∃kvs k b,H a=some (.dT kvs)/\y=.ref b/\H b=some (.tup (k.map kV))/\kvs.length<Yaf/\H'=upd H a (.dT (putK kvs k v))
def DGet.k     {k:Key}(e:H a=some (.dK kvs)):DGet H a (kV k) (valV kvs k):=.inl ⟨kvs,k,.inl e,rfl,rfl⟩
def DGet.t     {k:List Key}(e:H a=some (.dT kvs))(eb:H b=some (.tup (k.map kV))):DGet H a (.ref b) (valV kvs k):=.inr ⟨kvs,k,b,.inl e,rfl,eb,rfl⟩
def DPut.k     {k:Key}(e:H a=some (.dK kvs))(hl:kvs.length<Yaf):DPut H a (kV k) v (upd H a (.dK (putK kvs k v))):=.inl ⟨kvs,k,e,rfl,hl,rfl⟩
def DPut.t     {k:List Key}(e:H a=some (.dT kvs))(eb:H b=some (.tup (k.map kV)))(hl:kvs.length<Yaf) :
  DPut H a (.ref b) v (upd H a (.dT (putK kvs k v))):=.inr ⟨kvs,k,b,e,rfl,eb,hl,rfl⟩


def Inv.big  {σ: St}(I:Inv X pins σ H s):Ya8<s.heap.objs.size:=by
 have h:YaC<s.heap.objs.size:=(I.mod.glob.keeps I.bk).lt;exact Ydw (by decide) h

def jiS  {σ: St}(hu:A.units+1<cLine)(I:Inv X pins σ H s)(g:DGet H a y (some v))(ry:RelV y u)(h:∀w' s',Inv X pins σ H s'->RelV v w'->Q w' s') :
  wpAny (model X.prog X.w) A (getItem (.ref a) u) Q E s:=by
 rcases g with⟨kvs,k,e,ey,l⟩|⟨kvs,k,b,e,ey,eb,l⟩
 ·subst ey;obtain⟨z,hd,vs,rel,dd⟩:=jf8 I.hok e;obtain⟨w',hw,rw'⟩:=RelO.some_of (v:=v) (o:=valueAt vs k) (by rw[l];exact rel.val k)
  exact wpAny_getItem_of (jfc ry) dd.mapOf hw (h w' _ (I.tok _) rw')
 ·subst ey;cases(show u=YaQ b from ry);obtain⟨z,hd,xs,rel,dd⟩:=jhl I.hok e;obtain⟨w',hw,rw'⟩:=RelO.some_of (v:=v) (o:=(atKey xs k).map (·.2)) (by rw[l];exact rel.val k)
  obtain⟨p,hp,hp2⟩:=Option.map_eq_some_iff.mp hw;refine wpAny_getItem_heap (YcE hu) (jdW I.hok eb) dd hp ?_;rw[hp2];exact h w' _ (I.tok _) rw'
def d_in  {σ: St}(hu:A.units+1<cLine)(I:Inv X pins σ H s)(g:DGet H a y o)(ry:RelV y u)(h:∀s',Inv X pins σ H s'->Q (.bool o.isSome) s') :
  wpAny (model X.prog X.w) A (YaN .In u (.ref a)) Q E s:=by
 rcases g with⟨kvs,k,e,ey,l⟩|⟨kvs,k,b,e,ey,eb,l⟩
 ·subst ey;obtain⟨z,hd,vs,rel,dd⟩:=jf8 I.hok e;refine wpAny_in_of (jfc ry) hd dd.mapOf ?_;rw[<- (rel.val k).isSome_eq,<- l];exact h _ (I.tok _)
 ·subst ey;cases(show u=YaQ b from ry);obtain⟨z,hd,xs,rel,dd⟩:=jhl I.hok e;refine wpAny_in_heap (YcE hu) (jdW I.hok eb) hd dd ?_;have q:=(rel.val k).isSome_eq;rw[Yc2]at q;rw[<- q,<- l];exact h _ (I.tok _)
def jmt  {σ: St}(hu:A.units+1<cLine)(I:Inv X pins σ H s)(g:DGet H a y o)(ry:RelV y u)(h:∀s',Inv X pins σ H s'->Q (.bool (!o.isSome)) s') :
  wpAny (model X.prog X.w) A (YaN .NotIn u (.ref a)) Q E s:=by
 rcases g with⟨kvs,k,e,ey,l⟩|⟨kvs,k,b,e,ey,eb,l⟩
 ·subst ey;obtain⟨z,hd,vs,rel,dd⟩:=jf8 I.hok e;refine wpAny_notIn_of (jfc ry) hd dd.mapOf ?_;rw[<- (rel.val k).isSome_eq,<- l];exact h _ (I.tok _)
 ·subst ey;cases(show u=YaQ b from ry);obtain⟨z,hd,xs,rel,dd⟩:=jhl I.hok e;refine wpAny_notIn_heap (YcE hu) (jdW I.hok eb) hd dd ?_;have q:=(rel.val k).isSome_eq;rw[Yc2]at q;rw[<- q,<- l];exact h _ (I.tok _)
def jeF  {σ: St}(I:Inv X pins σ H s)(mu:Mut (H a))(hs:YcZ a s.heap h')(he:∃q,h'.get? a=some q)(new:jaD X.prog X.w (upd H a ob) h' a ob) :
  Inv X pins σ (upd H a ob) { s with heap:=h',toks:=t' }:=
 I.write (x:=a) (e:=a) mu (.inl rfl) (λb q hb z=>(hs.2 b hb).trans z) he new
def jiM        (z:kvs.length<=Yaf)(hd:(a==Ya8)=false)(rel:KV kvs vs)(dd:h'.DictOf (jam P w) a vs) :
  jaD P w H' h' a (.dK kvs):=⟨z,hd,vs,rel,dd⟩
def jiR  {σ: St}(hu:A.units+1<cLine)(I:Inv X pins σ H s)(g:DPut H a y v H')(ry:RelV y u)(rv:RelV v r)(h:∀s',Inv X pins σ H' s'->Q () s') :
  wpAny (model X.prog X.w) A (setItem (.ref a) u r) Q E s:=by
 rcases g with⟨kvs,k,e,ey,l,eH⟩|⟨kvs,k,b,e,ey,eb,l,eH⟩
 ·subst ey eH;obtain⟨z,hd,vs,rel,dd⟩:=jmr I.hok e;have hz:vs.length<=Yaf:=by rw[<- rel.length];exact z
  have hl:(putK kvs k v).length<=Yaf:=by have:=jbg kvs k v;lia
  refine wpAny_setItem_pairs (hsz:=hz) (jfc ry) dd λh' dd' hs=>h _ ?_;have he:∃q,h'.get? a=some q:=let ⟨q,_,_,hq,_⟩:=dd';⟨q,hq⟩
  exact jeF I (by rw[e];exact YbK) hs he (jiM hl hd (rel.put k rv) dd')
 ·subst ey eH;cases(show u=YaQ b from ry);obtain⟨z,hd,xs,rel,dd⟩:=jp9 I.hok e;have hz:xs.length<=Yaf:=by rw[<- YdG rel];exact z
  have hl:(putK kvs k v).length<=Yaf:=by have:=jbg kvs k v;lia
  refine wpAny_setItem_heap (hsz:=hz) (YcE hu) (jdW I.hok eb) dd λh' dd' hs=>h _ ?_;obtain⟨q,es,ep,hq,h2,h3,h4,_,h5⟩:=dd';refine jeF I (by rw[e];exact YbK) hs ⟨q,hq⟩ ⟨hl,hd,_,(rel.put k eb rv).keeps λc ys ec=>?_,q,es,ep,hq,h2,h3,h4,h5⟩
  rw[jad (jpT ec e (λz=>nomatch z))];exact ec


def jqa  {σ: St}(I:Inv X pins σ H s)(e:Rd H a (.dK kvs))(h:∀t s',Inv X pins σ H s'->Q (.int kvs.length t) s'):wpAny (model X.prog X.w) A (call (.builtin "len") [.ref a]) Q E s:=by
 obtain⟨z,hd,vs,rel,dd⟩:=jf8 I.hok e;refine call_len_dict hd dd (by rw[<- rel.length];rw[YbX]at z;lia) ?_
 rw[<- rel.length];exact h _ _ (I.tok _)

def jf9    {σ:St}(I:Inv X pins σ H s)(g:DGet H a y o):s.TypeIs (.ref a) "dict" := by
 rcases g with⟨kvs,k,e,_,_⟩|⟨kvs,k,b,e,_,_,_⟩
 ·obtain⟨_,_,vs,_,dd⟩:=jf8 I.hok e;exact dd.typeIs
 ·obtain⟨_,_,xs,_,dd⟩:=jhl I.hok e;exact dd.typeIs


def jgV     (h:Heap)(hb:Ya8<h.objs.size):jaD P w H (h.push { cls:=.type "dict",data:=.dict #[] }) h.objs.size (.dK []):=
 ⟨Ybh _,beq_eq_false_iff_ne.mpr (Ne.symm (YaI hb)),[],.nil,Heap.DictOf.new h⟩
def jmS  : TE:=λ_ H Q=>∀p,H p=none->Q (.ref p) (upd H p (.dK []))

def jjL  : PE X (.Dict [] [] pos) jmS:=λpins s σ H Q I h=>
 wpAny_Dict_empty ⟨.ref s.heap.objs.size,_,I.laid (a:=s.heap.objs.size) (o:=.dK []) (t':=s.toks) (λ_ _ q=>Yad _ q) (Yag _) (jgV s.heap I.big),rfl,h _ (I.hok.fresh (Yag _))⟩

def jgp  : List (TE×TE)->St->Hp->(List (V×V)->Hp->Prop)->Prop
 |[],_,H,Q=>Q [] H
 |(tk,tv)::r,σ,H,Q=>tk σ H λx H1=>tv σ H1 λy H2=>jgp r σ H2 λps H3=>Q ((x,y)::ps) H3
abbrev VV  : List (V×V)->List (Value×Value)->Prop:=Paired λp q=>RelV p.1 q.1/\RelV p.2 q.2
def PPs  (X:Cx)(pos:Pos)(keys:List (Option Expr))(values:List Expr)(trs:List (TE×TE)):Prop:=
 ∀(pins:List (Addr×Obj)) (s:Shared) (σ:St) (H:Hp) (Q:List (V×V)->Hp->Prop),Inv X pins σ H s->jgp trs σ H Q->
  wpAny (model X.prog X.w) X.A (evalPairs (pairTrees keys values X.env pos)) (λvs s'=>∃ps H',Inv X pins σ H' s'/\VV ps vs/\Q ps H') X.xe s
def jlw    : PPs X pos [] [] []:=λpins s σ H Q I h=>pairTrees_nil_walk ⟨[],H,I,.nil,h⟩
def jjC         (hk:PE X k tk)(hv:PE X v tv)(hr:PPs X pos ks vs trs) :
  PPs X pos (some k::ks) (v::vs) ((tk,tv)::trs):=λpins s σ H Q I h=>
 pairTrees_cons_walk (thn (hk pins s σ H _ I h) λu s1 ⟨x,H1,I1,rx,q1⟩=>thn (hv pins s1 σ H1 _ I1 q1) λw2 s2 ⟨y,H2,I2,ry,q2⟩=>
  thn (hr pins s2 σ H2 _ I2 q2) λws s3 ⟨ps,H3,I3,rel,q3⟩=>⟨(x,y)::ps,H3,I3,.cons ⟨rx,ry⟩ rel,q3⟩)

noncomputable def jdi  (kvs more:List (Key×V)):List (Key×V):=more.foldl (λacc kv=>putK acc kv.1 kv.2) kvs
def KV.merge  : ∀{more } {rs } {kvs } {vs },KV more rs->KV kvs vs->KV (jdi kvs more) (merged vs rs):=by
 intro more rs kvs vs r;unfold KV at r
 induction r generalizing kvs vs with
 |nil=>intro q;exact q
 |@cons p q ps qs h t ih=>
  intro r0;have e:KV (putK kvs p.1 p.2) (stored vs q.1 q.2):=by
   have:=r0.put p.1 h.2;rw[<- h.1];exact this
  exact ih e
theorem jb6  : ∀(more kvs:List (Key×V)),(jdi kvs more).length<=kvs.length+more.length
 |[],kvs=>by show kvs.length<=kvs.length+0;lia
 |p::r,kvs=>by
  have h1:=jb6 r (putK kvs p.1 p.2);have h2:=jbg kvs p.1 p.2;show(jdi (putK kvs p.1 p.2) r).length<=_;rw[Ybd];lia
theorem jd7    : ∀{kvs } {ws },VV (kvs.map λkv=>(kV kv.1,kv.2)) ws->∃rs,Carries (jam P w) ws rs/\KV kvs rs
 |[],_,r=>by rw[YcY]at r;cases r;exact⟨[],YbK,.nil⟩
 |p::kvs,_,r=>by
  rw[Yas]at r;cases r with
  |@cons a b as bs h t=>
   obtain⟨rs,c,q⟩:=jd7 (P:=P) (w:=w) t;obtain⟨b1,b2⟩:=b;exact⟨(p.1,b2)::rs,⟨jfc h.1,rfl,c⟩,.cons ⟨rfl,h.2⟩ q⟩
def jpm  (trs:List (TE×TE)):TE:=λσ H Q=>∀p,H p=none->jgp trs σ (upd H p (.dK [])) λps H2=>H2 p=some (.dK [])/\∃kvs:List (Key×V),ps=kvs.map (λkv=>(kV kv.1,kv.2))/\kvs.length<=15/\Q (.ref p) (upd H2 p (.dK (jdi [] kvs)))
def jlF       (h:PPs X pos keys values trs)(hall:keys.all (·.isSome)=true)(hl:keys.length=values.length)(h0:keys≠[])
  (h15:keys.length<=15):PE X (.Dict keys values pos) (jpm trs):=by
 intro pins s σ H Q I q;have hn:=I.hok.fresh (Yag s.heap.objs.size);have I1:=I.laid (a:=s.heap.objs.size) (o:=.dK []) (h':=s.heap.push { cls:=.type "dict",data:=.dict #[] }) (t':=s.toks) (λ_ _ q=>Yad _ q) (Yag _) (jgV s.heap I.big);refine wpAny_Dict_walk (knd:=jam X.prog X.w) hall hl h0 h15 (thn (h pins _ σ _ _ I1 (q _ hn)) λws s2 ⟨ps,H2,I2,rel,e,kvs,ep,lk,q2⟩=>?_);subst ep;obtain⟨rs,c,rk⟩:=jd7 (P:=X.prog) (w:=X.w) rel;obtain⟨z,hd,vs0,r0,dd⟩:=jmr I2.hok e;cases r0;refine⟨rs,c,dd,λh' dd' hs=>⟨.ref s.heap.objs.size,_,?_,rfl,q2⟩⟩;have hz:(jdi [] kvs).length<=Yaf:=by
  have h1:=jb6 kvs [];rw[YcP]at h1;rw[YbX];lia
 have he:∃q,h'.get? s.heap.objs.size=some q:=let ⟨q,_,_,hq,_⟩:=dd';⟨q,hq⟩
 exact jeF I2 (by rw[e];exact YbK) hs he (jiM hz hd (rk.merge .nil) dd')


def joH  {σ: St}(hu:A.units+1<cLine)(I:Inv X pins σ H s)(g:DGet H a y o)(ry:RelV y u)(rd:RelV d r)(h:∀w' s',Inv X pins σ H s'->RelV (o.getD d) w'->Q w' s') :
  wpAny (model X.prog X.w) A (call (.builtin "dict.get") [.ref a,u,r]) Q E s:=by
 rcases g with⟨kvs,k,e,ey,l⟩|⟨kvs,k,b,e,ey,eb,l⟩
 ·subst ey;obtain⟨z,hd,vs,rel,dd⟩:=jf8 I.hok e;refine call_meetsIn Ycz dd.typeIs YeR (YeG _ _ _) (meets_dict_get_default (jam X.prog X.w) a (jfc ry) hd r) ⟨_,dd.mapOf,h _ _ (I.tok _) ?_⟩;rw[l];exact(rel.val k).getD rd
 ·subst ey;cases(show u=YaQ b from ry);obtain⟨z,hd,xs,rel,dd⟩:=jhl I.hok e;refine call_meetsIn Ycz dd.typeIs YeR (YeG _ _ _) (meetsH_dict_get_default (Yek (jam X.prog X.w)) a b hd r) ⟨YcE hu,k,xs,jdW I.hok eb,dd,h _ _ (I.tok _) ?_⟩;rw[l];exact(rel.val k).getD rd






end L2

namespace Att
open PySem PySem.W PySem.Calls PyProof.Rows

def jdo    : ∀(ns:List Int) vs ,WellAll P h vs (ns.map WData.int)->IntsAre vs ns:=by
 intro ns
 induction ns with
 |nil=>
  intro vs w;rw[YcY]at w;cases w;exact .nil
 |cons n ns ih=>
  intro vs w;rw[Yas]at w;cases w with
  |cons a b=>
   cases a;exact .cons _ _ (ih _ b)

def jhH  {l:OpenLaw}(hn:l.most=some n) 
  (hpre:l.row.toRowW.claim.pre args=true) (hwl:WellAll P h vals args) :
  ∃a vs ns,vals=[YaQ a]/\args=[WData.list (ns.map WData.int)]/\h.get? a=some { cls:=.type "list",data:=.seq vs.toArray }/\IntsAre vs ns/\ns.length<=n:=by
 have hsh:WShape.hasAll [] args [.list .int]=true:=(pre_splitW hpre).1;have hc:l.pre.holds [] { args:=args }=true:=(pre_splitW hpre).2;obtain⟨d,r,rfl,h1,h2⟩:=hasAllW_cons hsh;obtain rfl:=hasAllW_nil h2;obtain⟨xs,rfl,h3⟩:=hasW_list h1;obtain⟨ns,rfl⟩:=items_int h3;have hlen:ns.length<=n:=by
  unfold OpenLaw.pre at hc;have h4:(WTm.not (.lt (.lit (.int (n:Int))) (.len (.arg 0)))).holds [] { args:=[.list (ns.map .int)] }=true:=by
   have h4:=(holds_andW hc).1;rw[hn]at h4;exact h4
  have h5:=condW_of h4 (w_not (w_lt w_lit (w_len_list (w_arg rfl))));rw[Yae]at h5;refine Ydm λq=>?_;have q':(n:Int)<((ns.length:Nat):Int):=by lia
  first
   |(rw[decide_eq_true q']at h5;exact absurd h5 (by decide))
   |(simp at h5;lia)
 cases hwl with
 |cons w1 w2=>
  cases w2;cases w1 with
  |list ho hall=>exact⟨_,_,ns,rfl,rfl,ho,jdo ns _ hall,hlen⟩

def jhR  (l:OpenLaw) args:l.row.toRowW.claim.post args (.bool true) args=true:=
 postW_of (r:=l.row.toRowW) (X:=(true==true))
  (show WShape.has [] (.bool true) .bool=true by first|rfl|decide|simp[WShape.has,WShape.arms,WShape.armsAll])
  (show(WTm.eq .res (.lit (.bool true))).value [] { args:=args,res:=some (.bool true),after:=args }=some (.bool (true==true))from w_eq_bool (w_res rfl) w_lit) rfl

def attach_call  {l:OpenLaw} 
  (hn:l.most=some n) (hdf:d.params.defaults=[])
  (call:∀(w:World) (s₀ s₁:Shared) mg mb fa (o:Obj) pm cd doc a (vs:List Value) (ns:List Int),
   Ground q loose [] XP w s₀ mg mb s₁.heap->YP w s₁.heap->
   s₁.heap.get? fa=some o->o.data=.func (docDef d.name d.params d.body d.scope pm cd doc)->s₁.heap.CodeRec cd d.name->mg d.name=some (.ref fa)->
   s₁.heap.get? a=some { cls:=.type "list",data:=.seq vs.toArray }->IntsAre vs ns->ns.length<=n->s₁.gens=#[]->
   codeAny (model l.prog w) callerA (.call (.ref fa) ⟨[.ref a],[]⟩) (λr s'=>r=.ok (.ret (.bool true))/\OldK s₁.heap s'.heap/\s'.os=s₁.os/\AllBare s'.gens) s₁) :
  WalkO q loose XP YP l.row.toRowW d [] (λf vs=>YfV f vs):=by
 intro w s₀ s₁ mg mb G Y fa o pm cd doc dV kV ho hd hcd hD hmg hg args vals as hpre hlay hrd hwl hlo;obtain rfl:dV=.none:=Dflts.none hD hdf;obtain rfl:kV=.none:=Dflts.noKw hD;obtain⟨a,vs,ns,rfl,rfl,hobj,hints,hlen⟩:=jhH hn hpre hwl;refine enter_call (Ydg (call w s₀ s₁ mg mb fa o pm cd doc a vs ns G Y ho (fd_plain hd) hcd hmg hobj hints hlen hg) λr s' hq=>?_);obtain⟨rfl,h2,h3,h4⟩:=hq;exact⟨.inl ⟨.bool true,.bool true,[],rfl,λ_=>rfl,.bool true,jhR l _,λ_=>⟨YeH,λ_ hm=>(nomatch hm)⟩⟩,h2,h3,h4⟩


end Att

namespace L2
open PySem PySem.Spec PyProof.Rows

theorem jeM  : ∀{vs } {ns },IntsAre vs ns->Vals (ns.map V.int) vs
 |_,_,.nil=>.nil
 |_,_,.cons n t h=>.cons ⟨t,rfl⟩ (jeM h)



noncomputable def jaG  (s:Stmt)(j:Nat):Stmt:=match s with
 |.ClassDef _ _ _ body _ _ _ _ _ _ _=>body.getD j (.Pass ⟨0,0,0,0⟩)
 |_=>.Pass ⟨0,0,0,0⟩
def jaA  (s:Stmt):Ygv:=match s with
 |.FunctionDef _ a _ _ _ _ _ _ _ _=>a
 |_=>{ posonlyargs:=[],args:=[],vararg:=none,kwonlyargs:=[],kw_defaults:=[],kwarg:=none,defaults:=[] }
def jaf  (s:Stmt):List Stmt:=match s with
 |.FunctionDef _ _ b _ _ _ _ _ _ _=>b
 |_=>[]
def jaa  (s:Stmt):Scope:=match s with
 |.FunctionDef _ _ _ _ _ _ sc _ _ _=>sc
 |_=>{ kind:=.function,names:=[],isGenerator:=false,isCoroutine:=false }

abbrev E0  : XK:=λ_ _ _=>False
structure Fun (K:Yab)(x qual:Str)(st:Stmt)(f:Addr)(fd:Ye7):Prop where
 ex:∃(oc:Value) (od:Option Addr) (kV doc pm:Value) (an:Option Addr) (cdv ct:Value) (osl:Array (Option Value)),
  fd=Ya7 x qual (jaA st) (jaf st) (jaa st) .none kV doc pm an cdv ct/\K.lookup f=some ⟨oc,od,.func fd,osl⟩/\Ybz K cdv qual=true
 kp:Ybl K (.ref f)=true

def Fun.binds  {K: Yab}{st:Stmt}(F:Fun K x qual st f fd)
  (h:∀kV doc pm an cdv ct (us:List Value),us.length=ps.length->YfU (Ya7 x qual (jaA st) (jaf st) (jaa st) .none kV doc pm an cdv ct) ⟨us,[]⟩=pure (ps.zip us)):Binds K fd ps []:=by
 obtain⟨oc,od,kV,doc,pm,an,cdv,ct,osl,rfl,lk,hcd⟩:=F.ex;exact .all (h kV doc pm an cdv ct)
def jiH  {K: Yab}{st:Stmt}{kV doc pm cdv ct:Value}(l:K.lookup f=some ⟨oc,od,.func (Ya7 x qual (jaA st) (jaf st) (jaa st) .none kV doc pm an cdv ct),osl⟩)
  (c:Ybz K cdv qual=true) (k:Ybl K (.ref f)=true):Fun K x qual st f (Ya7 x qual (jaA st) (jaf st) (jaa st) .none kV doc pm an cdv ct):=⟨⟨oc,od,kV,doc,pm,an,cdv,ct,osl,rfl,l,c⟩,k⟩
def jp5    (hr:Room k A):A.units+1<cLine:=YaV (YcS (by decide:1<=64) _) hr.units


def iteF  {A B:Prop}(h:B):if false=true then A else B:=by
 rw[if_neg Yal];exact h
def iteT  {A B:Prop}(h:A):if true=true then A else B:=by
 rw[if_pos rfl];exact h

def ji4  : jaU X (.builtin "len") (λxs H Q=>∃a kvs,xs=[V.ref a]/\H a=some (.dK kvs)/\Q (.int kvs.length) H):=by
 intro pins s σ H xs us Q I r h;obtain⟨a,kvs,rfl,ha,q⟩:=h;obtain⟨u,rfl,ru⟩:=jcc r;cases ru;exact jqa I (.inl ha) λt s' I'=>⟨.int kvs.length,H,I',⟨t,rfl⟩,q⟩
section
variable {κ:Type}[DecidableEq κ]
end
end L2

namespace L2
open PySem PySem.Spec PyProof.Rows


noncomputable def jfP  (env:Env)(ifs:List Expr):Sem Bool:=forIn ifs true λc r=>ite (r=true) (isTrue c env (eval c env) >>= λb=>pure (.yield b)) (pure (.yield r))
noncomputable def jc5  (ip:Pos)(tg:Expr)(ifs:List Expr)(it:Value)(env:Env)(em:Sem Unit)(next:Code):Sem Fin:=
 standAt ip >>= λ_=>pyNext it >>= λr=>match r with
  |none=>pure (.done .next)
  |some v=>Yc5 tg it v >>= λ_=>assign tg env v >>= λ_=>jfP env ifs >>= λok=>ite (ok=true) (em >>= λ_=>again next) (again next)
def jk8  (M:Model)(A:Around)(tg:Expr)(ifs:List Expr)(it:Value)(env:Env)(em:Sem Unit)(fin:Shared->Prop)(less:Shared->Prop):Option Value->Shared->Prop
 |none,s=>fin s
 |some v,s=>wpAny M A (Yc5 tg it v) (λ_ s=>wpAny M A (assign tg env v) (λ_ s=>wpAny M A (jfP env ifs) (λok s=>if ok=true then wpAny M A em (λ_ s=>less s) (λ_ _=>False) s else less s) (λ_ _=>False) s) (λ_ _=>False) s) (λ_ _=>False) s
def jfn             (I : Nat -> Shared -> Prop)
    (hct : Ye3 (.ListComp elt gens scope pos) dp it acc env = jc5 ip target ifs it env em (.compLoop (.ListComp elt gens scope pos) dp it acc env))
    (turn : ∀ k t, I k t -> wpAny (model prog w) A (pyNext it) (jk8 (model prog w) A target ifs it env em (R (.ok .next)) λt => ∃ m, m < k /\ I m t) (λ_ _ => False) t)
     n (h : I n s) : codeAny (model prog w) A (.compLoop (.ListComp elt gens scope pos) dp it acc env) R s := by
  have no : ∀ {Z : Value -> Shared -> Prop} (e : Value) (t : Shared), False -> Z e t := λ_ _ f => f.elim
  refine codeAny_loop rfl I (λk t hk => wpAny_noted (m := Ye3 (.ListComp elt gens scope pos) dp it acc env) (hct ▸ ?_)) n h
  refine Yac (Yck (Yac (YaO (turn k t hk) (λr t1 p => ?_) no)))
  match r, p with
  | none, p => exact Yaj p
  | some v, p =>
    refine Yac (YaO p (λ_ t2 p => Yac (YaO p (λ_ t3 p => Yac (YaO p (λok t4 p => ?_) no)) no)) no)
    match ok, p with
    | false, p => exact Yaj ⟨rfl, p⟩
    | true, p => exact Yac (YaO p (λ_ t5 p => Yaj ⟨rfl, p⟩) no)

theorem jbE  (env:Env):∀(names:List (Str×YbB)) acc ,(∀y∈names,y.2=.free->∃c,env.cells.lookup y.1=some c)->
  ∃cl ,(forIn names acc (λ(y:Str×YbB) cs=>(if (y.2==YaB)=true then (do let c <- cellOf env y.1;pure (ForInStep.yield ((y.1,c)::cs))) else pure (ForInStep.yield cs):Sem (ForInStep (List (Str×Addr))))):Sem (List (Str×Addr)))=pure cl/\
   (∀x c,(x,c)∈cl->(x,c)∈acc\/(env.cells.lookup x=some c/\(x,YaB)∈names))/\(∀p∈acc,p∈cl)/\(∀y∈names,y.2=.free->∃c,(y.1,c)∈cl)
 |[],acc,_=>⟨acc,rfl,λ_ _ h=>.inl h,λ_ h=>h,λ_ h=>nomatch h⟩
 |(n,k)::r,acc,h=>by
  by_cases hk:k=.free
  ·subst hk;obtain⟨c,hc⟩:=h (n,.free) Yat rfl;obtain⟨cl,e,h1,h2,h3⟩:=jbE env r ((n,c)::acc) λy hy=>h y (Yah _ hy);refine⟨cl,?_,λx d hd=>?_,λp hp=>h2 p (Yah _ hp),λy hy hf=>?_⟩
   ·rw[Yez];have:(cellOf env n:Sem Addr)=pure c:=by unfold cellOf;rw[hc]
    simp_all
   ·grind
   grind
  ·obtain⟨cl,e,h1,h2,h3⟩:=jbE env r acc λy hy=>h y (Yah _ hy);have hb:(k==YaB)=false:=by simpa using hk
   refine⟨cl,?_,λx d hd=>?_,h2,λy hy hf=>?_⟩
   ·rw[Yez];simp only[hb,Ybk,if_false,pure_bind];exact e
   ·rcases h1 x d hd with z|⟨z,z'⟩
    ·exact .inl z
    ·exact .inr ⟨z,Yah _ z'⟩
   ·rcases YaG.mp hy with z|z
    ·subst z;exact absurd hf hk
    ·exact h3 y z hf
theorem jb5  {β:Type}:∀{l:List (Str×β)} {x } {c },(x,c)∈l->∃d,l.lookup x=some d/\(x,d)∈l
 |(n,k)::r,x,c,h=>by
  cases hx:x==n with
  |true=>
   simp_all
  |false=>
   rcases YaG.mp h with z|z
   ·lia
   ·obtain⟨d,e,m⟩:=jb5 z
    grind
def jd6    (h:∀y∈scope.names,y.2=.free->∃c,env.cells.lookup y.1=some c) :
  ∃cl ,YfB scope env=pure cl/\(∀x c,cl.lookup x=some c->env.cells.lookup x=some c)/\(∀y∈scope.names,y.2=.free->∃c,cl.lookup y.1=some c):=by
 obtain⟨cl,e,h1,_,h3⟩:=jbE env scope.names [] h;refine⟨cl,?_,λx c hx=>?_,λy hy hf=>?_⟩
 ·unfold YfB
  simp_all
 ·rcases h1 x c (Yaz hx)with z|⟨z,_⟩
  ·simp_all
  lia
 ·obtain⟨c,hc⟩:=h3 y hy hf;obtain⟨d,e,_⟩:=jb5 hc
  simp_all

noncomputable def jao  (X:Cx)(N:List Str)(scope:Scope)(cl:List (Str×Addr))(C:Addr)(s₀:Shared)(H₀:Hp)(fp:List Addr):Cx where
 prog:=X.prog
 w:=X.w
 K:=X.K
 mg:=X.mg
 base:=X.base
 A:=X.A
 N:=N
 s₀:=s₀
 H₀:=H₀
 env:=compEnvC scope cl C X.env
 outer:=X.stack
 stack:=X.stack
 ex:=fp
 fn:=λx=>scope.names.lookup x==some .cell
 calm:=X.calm
 pn:=[]
 xe:=λ_ _=>False

noncomputable def cOk  (oN:List Str)(on:List (Str×YbB))(N:List Str)(pick:List (Option Nat))(scope:Scope):Bool:=
 decide (scope.kind=.function)&&scope.names.all (λy=>y.2 != .cell||scope.names.lookup y.1==some .cell)&&scope.names.all (λy=>y.2 != .local||scope.names.lookup y.1==some .local)
  && scope.names.all (λy=>y.2 != .free||(scope.names.lookup y.1==some .free&&(on.lookup y.1==some .cell||on.lookup y.1==some .free)))
  && pick.length==N.length&&(N.zip pick).all (λp=>match p.2 with|none=>true|some j=>oN[j]?==some p.1&&scope.names.lookup p.1==some .free)

structure CScope (X:Cx)(N:List Str)(pick:List (Option Nat))(scope:Scope):Prop where
 kind:scope.kind=.function
 cells:∀y∈scope.names,y.2=.cell->scope.names.lookup y.1=some .cell
 names:∀y∈scope.names,y.2=.local->scope.names.lookup y.1=some .local
 fre:∀y∈scope.names,y.2=.free->scope.names.lookup y.1=some .free/\(X.env.kindOf y.1=some .cell\/X.env.kindOf y.1=some .free)
 len:pick.length=N.length
 caps:∀(i j:Nat) (x:Str),N[i]?=some x->pick[i]?=some (some j)->X.N[j]?=some x/\scope.names.lookup x=some .free
theorem jcB  (f:Str->YbB->YbB):∀(names:List (Str×YbB)) x ,(names.map λy=>(y.1,f y.1 y.2)).lookup x=(names.lookup x).map (f x)
 |[],_=>rfl
 |(n,k)::r,x=>by
  rw[Yas,YaX,YaX,jcB f r x];by_cases e:x=n
  ·subst e;rw[beq_self_eq_true];rfl
  ·rw[beq_false_of_ne e]
noncomputable def jkD  (env:Env)(n:Str)(k:YbB):YbB:=if (k==YaB&&env.scope.kind == .function&&env.kindOf n==some .cell) then .cell else k
def jbY (env:Env)(names:List (Str×YbB))(x:Str) :
  (names.map λ(n,k)=>if (k==YaB&&env.scope.kind == .function&&env.kindOf n==some .cell) then (n,YaK) else (n,k)).lookup x=(names.lookup x).map (jkD env x):=by
 rw[<- jcB (jkD env)];congr 2;funext y;show ite _ _ _=(y.1,ite _ _ _)
 lia
def jaY {env:Env}{names:List (Str×YbB)}{x:Str}(h:names.lookup x=some .free) :
  (names.map λ(n,k)=>if (k==YaB&&env.scope.kind == .function&&env.kindOf n==some .cell) then (n,YaK) else (n,k)).lookup x=some .cell\/
  (names.map λ(n,k)=>if (k==YaB&&env.scope.kind == .function&&env.kindOf n==some .cell) then (n,YaK) else (n,k)).lookup x=some .free:=by
 rw[jbY,h];show some (ite _ _ _)=_\/some (ite _ _ _)=_
 lia
def jaB {env:Env}{q:YbB}(hq:q≠.free){names:List (Str×YbB)}{x:Str}(h:names.lookup x=some q) :
  (names.map λ(n,k)=>if (k==YaB&&env.scope.kind == .function&&env.kindOf n==some .cell) then (n,YaK) else (n,k)).lookup x=some q:=by
 rw[jbY,h];show some (ite _ _ _)=_
 lia
theorem jbx {env:Env}:∀{names:List (Str×YbB)} {x:Str},
  ((names.map λ(n,k)=>if (k==YaB&&env.scope.kind == .function&&env.kindOf n==some .cell) then (n,YaK) else (n,k)).lookup x=some .cell\/
  (names.map λ(n,k)=>if (k==YaB&&env.scope.kind == .function&&env.kindOf n==some .cell) then (n,YaK) else (n,k)).lookup x=some .free)->(x,YaB)∈names\/(x,YaK)∈names
 |[],_,h=>by simp at h
 |(n,k)::r,x,h=>by
  have ih:_->_:=@jbx env r x;have h':YbF x ((if (k==YaB&&env.scope.kind == .function&&env.kindOf n==some .cell)=true then (n,YaK) else (n,k))::r.map λ(n,k)=>if (k==YaB&&env.scope.kind == .function&&env.kindOf n==some .cell) then (n,YaK) else (n,k))=some .cell\/YbF x ((if (k==YaB&&env.scope.kind == .function&&env.kindOf n==some .cell)=true then (n,YaK) else (n,k))::r.map λ(n,k)=>if (k==YaB&&env.scope.kind == .function&&env.kindOf n==some .cell) then (n,YaK) else (n,k))=some .free:=h
  by_cases hk:k=.free
  ·cases hx:x==n with
   |true=>simp_all
   |false=>
    refine(ih ?_).imp (Yah _) (Yah _);by_cases hcc:(k==YaB&&env.scope.kind == .function&&env.kindOf n==some .cell)=true
    ·rw[if_pos hcc]at h';simpa only[YaX,hx]using h'
    ·rw[if_neg hcc]at h';simpa only[YaX,hx]using h'
  ·have hb:(k==YaB)=false:=by simpa using hk
   rw[if_neg (by simp[hb])]at h'
   cases hx:x==n with
   |true=>
    simp only[YaX,hx]at h';rcases h' with z|z
    ·rw[eq_of_beq hx,Yan z];exact .inr Yat
    ·exact absurd (Yan z) hk
   |false=>exact(ih (by simpa only[YaX,hx]using h')).imp (Yah _) (Yah _)

theorem jaJ  : ∀names n acc ,Ybf n names acc=Ybf n names []++acc
 |[],_,_=>rfl
 |(x,k)::r,n,acc=>by
  unfold Ybf;split
  ·rw[jaJ r (n+1) ((x,n)::acc),jaJ r (n+1) [(x,n)],Ydc];rfl
  ·exact jaJ r n acc
theorem jaT  : ∀names n {x } {c },(x,c)∈Ybf n names []->(x,YaK)∈names
 |[],_,_,_,h=>nomatch h
 |(y,k)::r,n,x,c,h=>by
  unfold Ybf at h;split at h
  ·rename_i hk;rw[jaJ]at h;rcases List.mem_append.mp h with h|h
   ·exact Yah _ (jaT r _ h)
   simp_all
  ·exact Yah _ (jaT r _ h)
def jhi  {β:Type}:∀(l m:List (Str×β)) x ,(l++m).lookup x=(l.lookup x).or (m.lookup x)
 |[],_,_=>by simp
 |(n,k)::r,m,x=>by
  grind
structure BCells (scope:Scope)(cl cs:List (Str×Addr))(lo:Nat)(h:Heap):Prop where
 lk:∀x c,cs.lookup x=some c->((x,YaK)∈scope.names/\lo<c/\h.IsCell c none)\/((x,YaK)∉scope.names/\cl.lookup x=some c)
 own:∀x,scope.names.lookup x=some .cell->∃c,cs.lookup x=some c/\lo<c
 old:∀x c,(x,YaK)∉scope.names->cl.lookup x=some c->cs.lookup x=some c
 inj:∀x y c,cs.lookup x=some c->cs.lookup y=some c->lo<c->x=y
def ji9   {cl:List (Str×Addr)}{lo:Nat}(hl:h.objs.size=lo+1)(S:∀y∈scope.names,y.2=.cell->scope.names.lookup y.1=some .cell)(hcl:∀x c,cl.lookup x=some c->c<=lo):BCells scope cl (Ybf (lo+1) scope.names cl) lo (Yfc h scope.names):=by
 have ok:=cellsFrom_ok scope.names h (lo+1) [] ⟨λ_ _ hm=>(nomatch hm),YeH⟩ (by lia)
 rw[hl]at ok;have look:∀x,(Ybf (lo+1) scope.names cl).lookup x=((Ybf (lo+1) scope.names []).lookup x).or (cl.lookup x):=λx=>by rw[jaJ,jhi]
 have own:∀x,(x,YaK)∈scope.names->∃c,(Ybf (lo+1) scope.names []).lookup x=some c:=λx hx=>jeH (S _ hx rfl);refine⟨λx c e=>?_,λx hx=>?_,λx c hx hc=>?_,λx y c e1 e2 hc=>?_⟩
 ·rw[look]at e;by_cases hx:(x,YaK)∈scope.names
  ·obtain⟨c',e'⟩:=own x hx;rw[e',Option.some_or]at e;have e:c'=c:=Yan e;subst e;obtain⟨z1,z2⟩:=ok.empty x c' (Yaz e')
   lia
  ·cases q:(Ybf (lo+1) scope.names []).lookup x with
   |some c'=>exact absurd (jaT _ _ (Yaz q)) hx
   |none=>simp_all
 ·obtain⟨c,e⟩:=own x (Yaz hx);exact⟨c,by simp_all,(ok.empty x c (Yaz e)).2⟩
 ·rw[look];cases q:(Ybf (lo+1) scope.names []).lookup x with
  |some c'=>exact absurd (jaT _ _ (Yaz q)) hx
  |none=>simp_all
 ·rw[look]at e1 e2;have new:∀x,((Ybf (lo+1) scope.names []).lookup x).or (cl.lookup x)=some c->(Ybf (lo+1) scope.names []).lookup x=some c:=λx e=>by
   cases q:(Ybf (lo+1) scope.names []).lookup x with
   |some c'=>simp_all
   |none=>
    grind
  exact name_of_addr ok.apart (Yaz (new x e1)) (Yaz (new y e2))
def jbW           
  (hQ:Q (newEnv scope s.heap.objs.size globals (Ybf (s.heap.objs.size+1) scope.names cl) qual none .none (some env) YdW) { s with heap:=Yfc (s.heap.push { cls:=.type "dict",data:=.dict #[] }) scope.names }) :
  wpAny M A (Yfo scope globals cl [] qual none .none (some env)) Q E s:=by
 have sz:(s.heap.push { cls:=.type "dict",data:=.dict #[] }).objs.size=s.heap.objs.size+1:=YeT ..;unfold Yfo;rw[if_pos (by rfl)]
 refine Yac (wpAny_alloc (Yac (wpAny_layCells _ (λx k c=>by lia) _ _ _ _ ?_)))
 rw[show Heap.objs (Shared.heap _)=(s.heap.push { cls:=.type "dict",data:=.dict #[] }).objs from rfl,sz];exact Yac (Yaj (Yaj hQ))


def glc   (h:scope.names.lookup x=some .globalImplicit):Gl (jao X N scope cl C s₀ H₀ fp) x:=jaB (by decide) h

def PIfs  (X:Cx)(ifs:List Expr)(t:TT):Prop:=
 ∀(pins:List (Addr×Obj)) (s:Shared) (σ:St) (H:Hp) (Q:Bool->Hp->Prop),Inv X pins σ H s->t σ H Q->
  wpAny (model X.prog X.w) X.A (jfP X.env ifs) (TP X pins σ Q) X.xe s
def jpj  : TT:=λ_ H Q=>Q true H
def jlB   : PIfs X [] jpj:=λ_ _ _ H _ I h=>wpAny_tests_nil ⟨H,I,h⟩
def jlA     (h:PT X c t):PIfs X [c] t:=λpins s σ H Q I q=>wpAny_tests_one (h pins s σ H Q I q)

abbrev TEm:=St->List V->Hp->(St->List V->Hp->Prop)->Prop
def jjd  (J:It)(g:TG)(tt:TT)(tem:TEm)(QQ:St->List V->Hp->Prop)(τ0:St)(ys0:List V)(H1:Hp):Prop:=∃W:Nat->Nat->St->List V->Hp->Prop,
 (∃m,W 0 m τ0 ys0 H1)/\∀i m τ ys H,W i m τ ys H->
  (J.stop i H/\QQ τ ys H)\/(J.go i H/\∀x H',J.yld i H x H'->g x τ H' λτ2 H2=>tt τ2 H2 λb H3=>if b=true then tem τ2 ys H3 λτ3 ys' H4=>∃m',m'<m/\W (i+1) m' τ3 ys' H4
   else ∃m',m'<m/\W (i+1) m' τ2 ys H3)
def emA  (te:TE)(D:Addr):TEm:=λτ ys H Q=>te τ H λv H4=>H4 D=some (.lst ys)/\ys.length<Yaf/\Q τ (ys++[v]) (upd H4 D (.lst (ys++[v])))
def LcGG  (J:It)(g:TG)(tt:TT)(tem:Addr->TEm)(D:Addr)(τ0:St)(Q:VK)(H1:Hp):Prop:=jjd J g tt (tem D) (λ_ _ H=>Q (.ref D) H) τ0 [] (upd H1 D (.lst []))
def PEm  (Y:Cx)(em:Sem Unit)(tem:TEm):Prop:=∀(pins:List (Addr×Obj)) (s:Shared) (τ:St) (ys:List V) (H:Hp) (Q:St->List V->Hp->Prop),Inv Y pins τ H s->tem τ ys H Q->
 wpAny (model Y.prog Y.w) Y.A em (λ_ s'=>∃τ' ys' H',Inv Y pins τ' H' s'/\Q τ' ys' H') Y.xe s
def tLcG  (pick:List (Option Nat))(wi:TI)(g:TG)(tt:TT)(tem:Addr->TEm):TE:=λσ H Q=>wi σ H λJ H1=>∀D,H1 D=none->LcGG J g tt tem D (pick.map λo=>o.bind λj=>(σ[j]?).join) Q H1
abbrev tLc  (pick:List (Option Nat))(wi:TI)(g:TG)(tt:TT)(te:TE):TE:=tLcG pick wi g tt (emA te)
section
variable {X:Cx}{N:List Str}{pick:List (Option Nat)}{scope:Scope}{pins:List (Addr×Obj)}{σ:St}{s s3:Shared}{H H3:Hp}

def jhm  {cl cs:List (Str×Addr)}{fp:List Addr}(S:CScope X N pick scope)(I3:Inv X pins σ H3 s3)(hf:∀b∈fp,FpOk X pins H3 b)(hlt:∀b∈fp,b<s3.heap.objs.size)
  (c1:∀x c,cl.lookup x=some c->X.env.cells.lookup x=some c) (c2:∀y∈scope.names,y.2=.free->∃c,cl.lookup y.1=some c) (B:BCells scope cl cs s3.heap.objs.size h₁)
  (hns:h₁.Ns s3.heap.objs.size mB) (hk:∀b o,s3.heap.get? b=some o->h₁.get? b=some o) :
  Inv (jao X N scope cs s3.heap.objs.size s3 H3 fp) [] (pick.map λo=>o.bind λj=>(σ[j]?).join) H3 { s3 with heap:=h₁,toks:=tk }:=by
 have fsub:∀b∈frs X.stack,b∈X.env.locals::X.fs:=I3.stkSub;have oc:∀x c,cs.lookup x=some c->X.env.cells.lookup x=some c\/s3.heap.objs.size<c:=λx c e=>by
  rcases B.lk x c e with⟨_,z,_⟩|⟨_,z⟩
  ·lia
  simp_all
 have has:∀x,((x,YaB)∈scope.names\/(x,YaK)∈scope.names)->∃c,cs.lookup x=some c:=λx hx=>by
  by_cases hc:(x,YaK)∈scope.names
  ·obtain⟨c,e,_⟩:=B.own x (S.cells _ hc rfl)
   simp_all
  ·rcases hx with hx|hx
   ·obtain⟨c,e⟩:=c2 _ hx rfl;exact⟨c,B.old x c hc e⟩
   lia
 refine⟨⟨I3.ok.mod,S.kind,I3.ok.glob,I3.ok.blt,Yag _,λx y c e1 e2=>?_,λx hx=>has x (jbx hx),λx c z e=>?_,I3.ok.hd,I3.ok.frames,.inl rfl,λb hb=>⟨YaI (hlt b hb),λx c e=>?_⟩,
   I3.bs,Yai I3.ok.bsz I3.sz,λb o e hb=>?_,λb hb hm=>?_,I3.stack,I3.stkFree⟩,
  rfl,I3.bare,Un.kept hk,⟨_,hns,λi x v e1 e2 e3=>?_⟩,λx c e=>?_,I3.hok.fresh (Yag _),λx c e=>?_,λp hp=>absurd (show p∈([]:List (Addr×Obj))from hp) (by simp),I3.hok.kept hk,?_⟩
 ·by_cases hc:s3.heap.objs.size<c
  ·exact B.inj x y c e1 e2 hc
  ·exact I3.ok.inj x y c ((oc x c e1).resolve_right hc) ((oc y c e2).resolve_right hc)
 ·have z':scope.names.lookup x=some .cell:=eq_of_beq z;rcases B.lk x c e with⟨_,y,_⟩|⟨y,_⟩
  ·exact YbQ y
  ·exact absurd (Yaz z') y
 ·rcases oc x c e with z|z
  ·exact(hf b hb).2.2.2.2.1 x c z
  ·intro q;rw[q]at z;exact absurd (Ydw z (hlt b hb)) (Ybo _)
 ·rcases(hf b hb).2.2.2.1 with z|z
  ·exact I3.ok.noex b o e z
  ·exact absurd (Yap (Yak e) (Yai I3.ok.bsz z)) (Ybo _)
 ·rcases YaG.mp (fsub b hm)with z|z
  ·exact(hf b hb).2.1 z
  ·exact(hf b hb).2.2.1 z
 ·-- a captured name
  have e2':∃j,pick[i]?=some (some j)/\σ[j]?=some (some v):=by
   rw[Yay]at e2;cases q:pick[i]? with
   |none=>simp_all
   |some o=>
    rw[q]at e2;cases o with
    |none=>simp at e2
    |some j=>
     grind
  obtain⟨j,ej,ev⟩:=e2';obtain⟨hN,hfr⟩:=S.caps i j x e1 ej;have hmem:(x,YaB)∈scope.names:=Yaz hfr;have hnc:(x,YaK)∉scope.names:=λz=>by
   have:=S.cells _ z rfl
   lia
  obtain⟨_,hkind⟩:=S.fre _ hmem rfl;obtain⟨m,hn,hl⟩:=I3.loc;obtain⟨u,r,l⟩:=hl j x v hN ev (hkind.elim (λz=>.inr (.inl z)) λz=>.inr (.inr z));refine⟨u,r,.inr ⟨?_,?_⟩⟩
  ·exact jaY (env:=X.env) hfr
  ·obtain⟨c,hc⟩:=c2 _ hmem rfl;have hc':=c1 _ _ hc;rcases l with⟨z,_⟩|⟨_,c',e,o,ho,hd⟩
   ·lia
   ·have:c'=c:=by lia
    subst this;exact⟨c',B.old x c' hnc hc,o,hk _ _ ho,hd⟩
 ·rcases B.lk x c e with⟨_,_,z⟩|⟨_,z⟩
  ·grind
  ·obtain⟨v,o,ho,hd⟩:=I3.cell x c (c1 x c z);exact⟨v,o,hk _ _ ho,hd⟩
 ·rcases oc x c e with z|z
  ·exact I3.freeC x c z
  ·exact I3.hok.fresh (YbQ z)
 ·rw[Yae];exact S.len

def jj8     {τ:St}(I3:Inv X pins σ H3 s3)(hf:∀b∈fp,FpOk X pins H3 b)(J:Inv (jao X N scope cl C s3 H3 fp) pins' τ H' s') :
  Inv X pins σ H' s':=I3.call' J.os J.base J.hok J.bare λb hb=>⟨(hf b hb).2.2.2.1,(hf b hb).2.1,(hf b hb).2.2.2.2.1,(hf b hb).2.2.2.2.2⟩

def jl4                  {τ0:St} 
  (yc:Y.calm=true) (yxe:Y.xe=λ_ _=>False)
  (hct:Ye3 (.ListComp elt gens scope pos) dp (.ref it) acc Y.env=jc5 ip tg ifs (.ref it) Y.env em (.compLoop (.ListComp elt gens scope pos) dp (.ref it) acc Y.env))
  (yg:PG Y tg g) (yi:PIfs Y ifs tt) (ym:PEm Y em tem) (J0:Inv Y pins τ0 H s) (T:Turn Y.prog Y.w Y.K tg J fp it tn) (t0:tn 0 s.heap) (f0:∀b∈fp,FpOk Y pins H b) (hW:jjd J g tt tem QQ τ0 ys0 H) :
  codeAny (model Y.prog Y.w) Y.A (.compLoop (.ListComp elt gens scope pos) dp (.ref it) acc Y.env) (λr s'=>r=.ok .next/\∃τ' ys' H',Inv Y pins τ' H' s'/\QQ τ' ys' H') s:=by
 obtain⟨W,⟨m0,w0⟩,turn⟩:=hW;have stat:∀{H':Hp},(∀b∈fp,H' b=none)->∀b∈fp,FpOk Y pins H' b:=λhn b hb=>⟨hn b hb,(f0 b hb).2⟩;refine jfn (λn s'=>∃i τ ys H',Inv Y pins τ H' s'/\tn i s'.heap/\(∀b∈fp,H' b=none)/\W i n τ ys H') hct ?_ m0 ⟨0,_,ys0,_,J0,t0,λb hb=>(f0 b hb).1,w0⟩;rintro n s4 ⟨i,τ,ys,H4,J4,t4,fr4,w4⟩;rcases turn i n τ ys H4 w4 with⟨stop,q⟩|⟨go,step⟩
 ·refine YaO (T.done Y rfl rfl rfl yc i pins s4 τ H4 (λ_ _=>False) J4 (stat fr4) t4 stop) (λr s5 ⟨hr,J5⟩=>?_) λ_ _ f=>f;subst hr;exact⟨rfl,τ,ys,H4,J5,q⟩
 ·refine YaO (T.item Y rfl rfl rfl yc i pins s4 τ H4 (λ_ _=>False) J4 (stat fr4) t4 go) (λr s5 ⟨u,hr,h5⟩=>?_) λ_ _ f=>f;subst hr;refine YaO h5 (λ_ s6 ⟨x,H6,J6,r6,y6,t6,fr6⟩=>?_) λ_ _ f=>f;have J6':=J6.pinned (stat fr6) (T.obj _ _ t6);have ag:=yg _ s6 τ H6 x u _ J6' r6 (step x H6 y6);rw[yxe]at ag;refine YaO ag (λ_ s7 ⟨τ7,H7,J7,q7⟩=>?_) λ_ _ f=>f;have ai:=yi _ s7 τ7 H7 _ J7 q7;rw[yxe]at ai;refine YaO ai (λok s8 ⟨H8,J8,q8⟩=>?_) λ_ _ f=>f;have again:∀{τ9:St} {H9:Hp} {s9:Shared} {zs:List V},Inv Y (pins++jeV fp s6.heap) τ9 H9 s9->(∃m',m'<n/\W (i+1) m' τ9 zs H9)->∃m,m<n/\∃i τ ys H',Inv Y pins τ H' s9/\tn i s9.heap/\(∀b∈fp,H' b=none)/\W i m τ ys H':=λ{τ9 H9 s9 zs} J9 ⟨m',hm,w9⟩=>by
   refine⟨m',hm,i+1,τ9,zs,H9,J9.unpinned,T.keep _ _ _ t6 λb hb o e=>(J9.pin (b,o) (YaD _ (YaD _ (jbI hb e)))).1,λb hb=>?_,w9⟩;obtain⟨o,e,d⟩:=T.obj _ _ t6 b hb;exact(J9.pin (b,o) (YaD _ (YaD _ (jbI hb e)))).2.1
  cases ok with
  |false=>exact again J8 q8
  |true=>
   have am:=ym _ s8 τ7 ys H8 _ J8 q8;rw[yxe]at am;exact YaO am (λ_ s9 ⟨τ9,zs,H9,J9,q9⟩=>again J9 q9) λ_ _ f=>f
def jkO      (yxe:Y.xe=λ_ _=>False)(he:PE Y elt te):PEm Y (do let _ <- call (.builtin "list.append") [.ref D,<- eval elt Y.env]) (emA te D):=by
 intro pins s τ ys H Q J q;have ae:=he _ s τ H _ J q;refine Yac (YaO ae (λv s9 ⟨z,H9,J9,r9,hD9,hz9,q9⟩=>?_) λ_ _ f=>f);have aa:=je8 (X:=Y) _ s9 τ H9 (.ref D) [z] (.ref D) [v] (λx H'=>H'=upd H9 D (.lst (ys++[z]))) J9 rfl (.cons r9 .nil) ⟨_,ys,z,rfl,rfl,hD9,hz9,rfl⟩;refine Yac (YaO aa (λ_ s10 ⟨_,H10,J10,_,e10⟩=>?_) λ_ _ f=>f);subst e10;exact Yaj ⟨τ,_,_,J10,q9⟩
section
variable {tg iter elt:Expr}{ifs:List Expr}
def jgH {rest:List Yex}{pos:Pos}{g:TG}{tt:TT}{tem:Addr->TEm}{em:Addr->Env->Sem Unit}{J:It}{fp:List Addr}{it:Addr}{tn:Nat->Heap->Prop}{cl:List (Str×Addr)}{Q:VK}{E:Value->Shared->Prop}{RR:Value->Addr->Result->Shared->Prop}
  (hc:X.calm=true) (S:CScope X N pick scope) (c1:∀x c,cl.lookup x=some c->X.env.cells.lookup x=some c) (c2:∀y∈scope.names,y.2=.free->∃c,cl.lookup y.1=some c)
  (hg:∀cl C s₀ H₀ fp,PG (jao X N scope cl C s₀ H₀ fp) tg g) (hi:∀cl C s₀ H₀ fp,PIfs (jao X N scope cl C s₀ H₀ fp) ifs tt) (he:∀D cl C s₀ H₀ fp,PEm (jao X N scope cl C s₀ H₀ fp) (em D (jao X N scope cl C s₀ H₀ fp).env) (tem D))
  (hct:∀(it:Value) (D:Addr) (env:Env),Ye3 (.ListComp elt (⟨tg,iter,ifs,0⟩::rest) scope pos) 0 it (.ref D) env=jc5 iter.pos tg ifs it env (em D env) (.compLoop (.ListComp elt (⟨tg,iter,ifs,0⟩::rest) scope pos) 0 it (.ref D) env))
  (I2:Inv X pins σ H s) (T:Turn X.prog X.w X.K tg J fp it tn) (st:tn 0 s.heap) (hf:∀b∈fp,FpOk X pins H b)
  (hW:∀D,H D=none->LcGG J g tt tem D (pick.map λo=>o.bind λj=>(σ[j]?).join) Q H)
  (hRR:∀D C H' s',Inv X pins σ H' s'->(∃m,s'.heap.Ns C m)->FpOk X pins H' C->Q (.ref D) H'->RR (.ref D) C (.ok .next) s') :
  wpAny (model X.prog X.w) X.A (newList []) (λacc s₃=>wpAny (model X.prog X.w) X.A (Yfo scope X.env.globals cl [] X.env.qual none .none (some X.env)) (λcenv s₄=>
   codeAny (model X.prog X.w) X.A (.compStart (.ListComp elt (⟨tg,iter,ifs,0⟩::rest) scope pos) 0 (.ref it) acc { cenv with scope:=relabel scope X.env }) (RR acc cenv.locals) s₄) E s₃) E s:=by
 have hD:H s.heap.objs.size=none:=I2.hok.fresh (Yag _);have hlt:∀b∈fp,b<s.heap.objs.size:=λb hb=>let ⟨o,e,_⟩:=T.obj _ _ st b hb;Yak e
 refine Ybb (jbW ?_);have I3:Inv X pins σ (upd H s.heap.objs.size (.lst [])) { s with heap:=s.heap.push { cls:=.type "list",dict:=none,data:=.seq ([]:List Value).toArray } }:=
  I2.laid (t':=s.toks) (λb u e=>Yad _ e) (Yag _) ⟨Ybh _,[],0,.nil,Yaq _ rfl⟩
 generalize hs3:({ s with heap:=s.heap.push { cls:=.type "list",dict:=none,data:=.seq ([]:List Value).toArray } }:Shared)=s3 at I3 ⊢
 have hsz:s3.heap.objs.size=s.heap.objs.size+1:=by rw[<- hs3];simp_all
 have hf3:∀b∈fp,FpOk X pins (upd H s.heap.objs.size (.lst [])) b:=λb hb=>⟨by rw[jad (YaI (hlt b hb))];exact(hf b hb).1,(hf b hb).2⟩
 have hsz':(s3.heap.push { cls:=.type "dict",data:=.dict #[] }).objs.size=s3.heap.objs.size+1:=YeT ..;have hk:∀b o,s3.heap.get? b=some o->(Yfc (s3.heap.push { cls:=.type "dict",data:=.dict #[] }) scope.names).get? b=some o:=λb o e=>pushCells_keeps _ _ b o (Yad _ e);have hns₁:(Yfc (s3.heap.push { cls:=.type "dict",data:=.dict #[] }) scope.names).Ns s3.heap.objs.size λ_=>none:=(Heap.Ns.new s3.heap (.type "dict")).keeps (pushCells_keeps _ _);have B:=ji9 (cl:=cl) hsz' S.cells λx c e=>by
  obtain⟨v,z⟩:=I3.cell x c (c1 x c e);exact YbQ z.lt
 generalize Yfc (s3.heap.push { cls:=.type "dict",data:=.dict #[] }) scope.names=h₁ at hk hns₁ B ⊢;generalize Ybf (s3.heap.objs.size+1) scope.names cl=cs at B ⊢;have c1':∀x c,cs.lookup x=some c->X.env.cells.lookup x=some c\/s3.heap.objs.size<c:=λx c e=>by
  rcases B.lk x c e with⟨_,z,_⟩|⟨_,z⟩
  ·lia
  simp_all
 have st1:tn 0 h₁:=T.keep _ _ _ st λb _ o e=>hk b o (by rw[<- hs3];exact Yad _ e)
 have IY:Inv (jao X N scope cs s3.heap.objs.size s3 (upd H s.heap.objs.size (.lst [])) fp) [] (pick.map λo=>o.bind λj=>(σ[j]?).join) (upd H s.heap.objs.size (.lst [])) { s3 with heap:=h₁ }:=
  jhm (tk:=s3.toks) S I3 hf3 (λb hb=>Yap (hlt b hb) (by lia)) c1 c2 B hns₁ hk
 generalize hY:jao X N scope cs s3.heap.objs.size s3 (upd H s.heap.objs.size (.lst [])) fp=Y at IY;have yg:PG Y tg g:=hY ▸ hg _ _ _ _ _;have yi:PIfs Y ifs tt:=hY ▸ hi _ _ _ _ _;have ye:PEm Y (em s.heap.objs.size Y.env) (tem s.heap.objs.size):=hY ▸ he _ _ _ _ _ _;have yprog:Y.prog=X.prog:=by rw[<- hY];rfl
 have yw:Y.w=X.w:=by rw[<- hY];rfl
 have yK:Y.K=X.K:=by rw[<- hY];rfl
 have yA:Y.A=X.A:=by rw[<- hY];rfl
 have yc:Y.calm=true:=by rw[<- hY];exact hc
 have yenv:Y.env=compEnvC scope cs s3.heap.objs.size X.env:=by rw[<- hY];rfl
 have yex:∀b,b∈Y.ex↔b∈fp:=λb=>by rw[<- hY];rfl
 have yxe:Y.xe=λ_ _=>False:=by rw[<- hY];rfl
 have ypn:Y.pn=[]:=by rw[<- hY];rfl
 have yfs:∀b,b∈Y.fs->b∈X.env.locals::X.fs:=λb hb=>I3.stkSub b (by rw[<- hY]at hb;exact hb)
 have stat:∀{H':Hp},(∀b∈fp,H' b=none)->∀b∈fp,FpOk Y [] H' b:=λhn b hb=>by
  refine⟨hn b hb,?_,λhm=>?_,.inl ((yex b).mpr hb),λx c e=>?_,λp hp=>?_⟩
  ·rw[yenv];show b≠s3.heap.objs.size
   grind
  ·rcases YaG.mp (yfs b hm)with z|z
   ·exact(hf b hb).2.1 z
   ·exact(hf b hb).2.2.1 z
  ·rw[yenv]at e;rcases c1' x c e with z|z
   ·exact(hf b hb).2.2.2.2.1 x c z
   grind
  simp_all
 have fin:∀{τ:St} {H':Hp} {s':Shared},Inv Y [] τ H' s'->Q (.ref s.heap.objs.size) H'->RR (.ref s.heap.objs.size) s3.heap.objs.size (.ok .next) s':=λ{τ H' s'} J q=>by
  have fr:H' s3.heap.objs.size=none:=by have:=J.free;rw[yenv]at this;exact this
  obtain⟨m,hn,_⟩:=J.loc;rw[yenv]at hn;exact hRR _ _ H' s' (jj8 I3 hf3 (hY ▸ J)) ⟨m,hn⟩ (I3.fpOk (Yag _) fr) q
 have hn:∀b∈fp,upd H s.heap.objs.size (.lst []) b=none:=λb hb=>(hf3 b hb).1;have lp:=jl4 (pins:=[]) (s:={ s3 with heap:=h₁ }) (acc:=.ref s.heap.objs.size) (ifs:=ifs) (em:=em s.heap.objs.size Y.env) yc yxe (hct (.ref it) s.heap.objs.size Y.env) yg yi ye IY (by lia) st1 (stat hn) (hW _ hD)
 rw[yprog,yw,yA,yenv]at lp;have lp:=Ydg lp (R':=RR (.ref s.heap.objs.size) s3.heap.objs.size) λr s' ⟨hr,τ',ys',H',I',q'⟩=>by grind
 show codeAny (model X.prog X.w) X.A (.compStart (.ListComp elt (⟨tg,iter,ifs,0⟩::rest) scope pos) 0 (.ref it) (.ref s.heap.objs.size) (compEnvC scope cs s3.heap.objs.size X.env)) (RR (.ref s.heap.objs.size) s3.heap.objs.size) _;exact codeAny_compStart_list lp (T.self _ 0 _ _ _ st1 lp)

def jnx {pos:Pos}{wi:TI}{g:TG}{tt:TT}{rest:List Yex}{tem:Addr->TEm}{em:Addr->Env->Sem Unit}(hc:X.calm=true)(S:CScope X N pick scope)(hw:PI X tg iter wi)
  (hg:∀cl C s₀ H₀ fp,PG (jao X N scope cl C s₀ H₀ fp) tg g) (hi:∀cl C s₀ H₀ fp,PIfs (jao X N scope cl C s₀ H₀ fp) ifs tt) (he:∀D cl C s₀ H₀ fp,PEm (jao X N scope cl C s₀ H₀ fp) (em D (jao X N scope cl C s₀ H₀ fp).env) (tem D))
  (hct:∀(it:Value) (D:Addr) (env:Env),Ye3 (.ListComp elt (⟨tg,iter,ifs,0⟩::rest) scope pos) 0 it (.ref D) env=jc5 iter.pos tg ifs it env (em D env) (.compLoop (.ListComp elt (⟨tg,iter,ifs,0⟩::rest) scope pos) 0 it (.ref D) env))
  (hs:∀x,Ya4 iter X.env x=pure x:=by intro _;rfl):PE X (.ListComp elt (⟨tg,iter,ifs,0⟩::rest) scope pos) (tLcG pick wi g tt tem):=by
 intro pins s σ H Q I h;obtain⟨cl,hclos,c1,c2⟩:=jd6 (scope:=scope) (env:=X.env) λy hy hf=>I.ok.has _ (S.fre y hy hf).2;rw[eval_ListComp];refine Yfz (use:=none) rfl hs hclos S.kind S.names (thn (hw pins s σ H _ I h) λv s1 h1=>thn h1 λitv s2 h2=>?_);obtain⟨it,fp,tn,J,H2,e,I2,T,st2,f2,hW⟩:=h2;subst e;refine jgH (RR:=λacc C=>compPost (model X.prog X.w) X.A X.xe none (EP X pins σ Q) acc C) hc S c1 c2 hg hi he hct I2 T st2 f2 hW λD C H' s' J' ⟨m,hn⟩ fC q=>?_;refine⟨m,hn,λh' hs'=>⟨.ref D,H',?_,rfl,q⟩⟩;exact J'.turned (t':=s'.toks) (it:=C) (λb o hb e=>hs'.extBut b o hb e) fC.1 fC.2.1 fC.2.2.2.1 fC.2.2.2.2.1 fC.2.2.2.2.2

def jnm {pos py spos:Pos}{wi:TI}{g:TG}{tt:TT}{rest:List Yex}{tem:Addr->TEm}{em:Addr->Env->Sem Unit}{i:Nat}{y:Str}(hN:X.N.Nodup)(hi':X.N[i]?=some y)(hy:X.env.scope.names.lookup y=some .local)(hc:X.calm=true)(S:CScope X N pick scope)(hw:PI X tg iter wi)
  (hg:∀cl C s₀ H₀ fp,PG (jao X N scope cl C s₀ H₀ fp) tg g) (hi:∀cl C s₀ H₀ fp,PIfs (jao X N scope cl C s₀ H₀ fp) ifs tt) (he:∀D cl C s₀ H₀ fp,PEm (jao X N scope cl C s₀ H₀ fp) (em D (jao X N scope cl C s₀ H₀ fp).env) (tem D))
  (hct:∀(it:Value) (D:Addr) (env:Env),Ye3 (.ListComp elt (⟨tg,iter,ifs,0⟩::rest) scope pos) 0 it (.ref D) env=jc5 iter.pos tg ifs it env (em D env) (.compLoop (.ListComp elt (⟨tg,iter,ifs,0⟩::rest) scope pos) 0 it (.ref D) env))
  (hsw:Ycr (.ListComp elt (⟨tg,iter,ifs,0⟩::rest) scope pos) (some (.Name y py)) spos.line X.env=pure true) (hs:∀x,Ya4 iter X.env x=pure x:=by intro _;rfl) :
  PS X (.Assign [.Name y py] (.ListComp elt (⟨tg,iter,ifs,0⟩::rest) scope pos) spos) (tAsg (tLcG pick wi g tt tem) (jiG i)):=by
 intro pins s σ H D0 I h;obtain⟨cl,hclos,c1,c2⟩:=jd6 (scope:=scope) (env:=X.env) λy hy hf=>I.ok.has _ (S.fre y hy hf).2;rw[exec_Assign_Name_used _ _ _ _ hsw];refine Yac (Yck (Yac ?_));show wpAny _ _ (do let _ <- comprehension (.ListComp elt (⟨tg,iter,ifs,0⟩::rest) scope pos) scope X.env _ (newList []) false (eval iter X.env) (some (assign (.Name y py) X.env))) _ _ s
 refine Yac (thn (Yfz (use:=some (assign (.Name y py) X.env)) (Q:=λ_ s'=>SP X pins D0 .next s') rfl hs hclos S.kind S.names
  (thn (hw pins s σ H _ I h) λv s1 h1=>thn h1 λitv s2 h2=>?_)) λ_ s' hq=>Yaj (Yaj hq))
 obtain⟨it,fp,tn,J,H2,e,I2,T,st2,f2,hW⟩:=h2;subst e;refine jgH (Q:=λx H1=>jiG i x σ H1 D0.nx) (RR:=λacc C=>compPost (model X.prog X.w) X.A X.xe (some (assign (.Name y py) X.env)) (λ_ s'=>SP X pins D0 .next s') acc C) hc S c1 c2 hg hi he hct I2 T st2 f2 hW λD C H' s' J' ⟨m,hn⟩ fC q=>?_
 show wpAny _ _ (assign (.Name y py) X.env (.ref D)) _ _ _;refine wpAny_assign_Name (jeQ (v:=.ref D) J' hN hi' (.inl hy) rfl (λs'' J'' ⟨a,sb,ha⟩=>?_) (.inr hy));have hne:C≠a:=by
  rcases ha with z|z
  ·rw[z];exact fC.2.1
  ·exact λe=>fC.2.2.2.2.1 y a z e.symm
 refine⟨m,hn.sameBut sb hne,λh' hs'=>?_⟩;refine⟨_,H',J''.turned (t':=s''.toks) (it:=C) (λb o hb e=>hs'.extBut b o hb e) fC.1 fC.2.1 fC.2.2.2.1 fC.2.2.2.2.1 fC.2.2.2.2.2,q⟩
def jpL {pos:Pos}{wi:TI}{g:TG}{tt:TT}{te:TE}(hc:X.calm=true)(S:CScope X N pick scope)(hw:PI X tg iter wi)
  (hg:∀cl C s₀ H₀ fp,PG (jao X N scope cl C s₀ H₀ fp) tg g) (hi:∀cl C s₀ H₀ fp,PIfs (jao X N scope cl C s₀ H₀ fp) ifs tt) (he:∀cl C s₀ H₀ fp,PE (jao X N scope cl C s₀ H₀ fp) elt te)
  (hs:∀x,Ya4 iter X.env x=pure x:=by intro _;rfl):PE X (.ListComp elt [⟨tg,iter,ifs,0⟩] scope pos) (tLc pick wi g tt te):=
 jnx (em:=λD env=>do let _ <- call (.builtin "list.append") [.ref D,<- eval elt env]) (rest:=[]) hc S hw hg hi (λD cl C s₀ H₀ fp=>jkO rfl (he cl C s₀ H₀ fp)) (λ_ _ _=>rfl) hs
def jpH {pos:Pos}{wi:TI}{g:TG}{tt:TT}{te:TE}{py spos:Pos}{i:Nat}{y:Str}(hN:X.N.Nodup)(hi':X.N[i]?=some y)(hy:X.env.scope.names.lookup y=some .local)(hc:X.calm=true)(S:CScope X N pick scope)(hw:PI X tg iter wi)
  (hg:∀cl C s₀ H₀ fp,PG (jao X N scope cl C s₀ H₀ fp) tg g) (hi:∀cl C s₀ H₀ fp,PIfs (jao X N scope cl C s₀ H₀ fp) ifs tt) (he:∀cl C s₀ H₀ fp,PE (jao X N scope cl C s₀ H₀ fp) elt te)
  (hsw:Ycr (.ListComp elt [⟨tg,iter,ifs,0⟩] scope pos) (some (.Name y py)) spos.line X.env=pure true) (hs:∀x,Ya4 iter X.env x=pure x:=by intro _;rfl):PS X (.Assign [.Name y py] (.ListComp elt [⟨tg,iter,ifs,0⟩] scope pos) spos) (tAsg (tLc pick wi g tt te) (jiG i)):=
 jnm (em:=λD env=>do let _ <- call (.builtin "list.append") [.ref D,<- eval elt env]) (rest:=[]) hN hi' hy hc S hw hg hi (λD cl C s₀ H₀ fp=>jkO rfl (he cl C s₀ H₀ fp)) (λ_ _ _=>rfl) hsw hs
end
end

mutual
inductive DV (K:Yab)(H:Hp):V->PyData->Prop
 |non:DV K H .non .none
 |bl (b:Bool):DV K H (.bl b) (.bool b)
 |int (i:Int):DV K H (.int i) (.int i)
 |str (x:Str):DV K H (.str x) (.str x)
 |tup {a:Addr} {xs:List V} {ds:List PyData}:SqT K H a xs->DVs K H xs ds->DV K H (.ref a) (.tuple ds)
 |lst {a:Addr} {xs:List V} {ds:List PyData}:Rd H a (.lst xs)->DVs K H xs ds->DV K H (.ref a) (.list ds)
 |dic {a:Addr}:H a=some (.dK [])->DV K H (.ref a) (.dict [])
inductive DVs (K:Yab)(H:Hp):List V->List PyData->Prop
 |nil:DVs K H [] []
 |cons {x:V} {d:PyData} {xs:List V} {ds:List PyData}:DV K H x d->DVs K H xs ds->DVs K H (x::xs) (d::ds)
end

mutual
noncomputable def noL:PyData->Bool
 |.list _=>false
 |.tuple xs=>noLs xs
 |.dict _=>false
 |.none|.bool _|.int _|.str _=>true
noncomputable def noLs:List PyData->Bool
 |[]=>true
 |x::r=>noL x&&noLs r
end


def Inv.noSys    {σ:St}(I:Inv X pins σ H s)(h:s.heap.get? a=some o)(c:o.cls=.type "list"):Ya8≠a:=λe=>by
 obtain⟨o',l,c'⟩:=I.mod.sys;have:=I.kIn _ _ l
 lia
mutual
theorem DV.reads2 {X:Cx}{pins:List (Addr×Obj)}{σ:St}{H:Hp}{s:Shared}(I:Inv X pins σ H s):∀{x:V} {d:PyData} {u:Value},DV X.K H x d->RelV x u->∃as,Reads s.heap u d as/\Ya8∉as
 |_,_,_,.non,r=>by cases r;exact⟨_,.none,by simp⟩
 |_,_,_,.bl b,r=>by cases r;exact⟨_,.bool b,by simp⟩
 |_,_,_,.int i,r=>by obtain⟨t,rfl⟩:=r;exact⟨_,.int i t,by simp⟩
 |_,_,_,.str x,r=>by obtain⟨t,rfl⟩:=r;exact⟨_,.str x t,by simp⟩
 |_,_,_,.tup e h,r=>by
  cases r
  obtain⟨its,rv,⟨o,ho,hc,n,hd⟩,_⟩:=I.tuple e
  obtain⟨as,q,z⟩:=DVs.reads2 I h rv
  exact⟨_,.tuple ho hc hd q,z⟩
 |_,_,_,@DV.lst _ _ a _ _ e h,r=>by
  cases r
  obtain⟨its,rv,⟨o,n,ho,hc,_,hd⟩,_⟩:=I.list (.inl e)
  obtain⟨as,q,z⟩:=DVs.reads2 I h rv
  refine⟨_,.list ho hc hd q,λhm=>?_⟩
  rcases YaG.mp hm with hm|hm
  ·exact I.noSys ho hc hm
  lia
 |_,_,_,@DV.dic _ _ a e,r=>by
  cases r
  obtain⟨_,hS,vs,kv,o,es,ep,ho,hx,hd,_,hp,_⟩:([]:List (Key×V)).length<=Yaf/\(a==Ya8)=false/\∃vs,KV [] vs/\s.heap.DictOf (jam X.prog X.w) a vs:=I.hok a _ e
  have e0:es.toList=[]:=by
   cases kv
   revert hp
   cases es.toList with
   |nil=>lia
   |cons x r=>exact λhp=>(nomatch hp)
  refine⟨_,.dict (kvs:=[]) (as:=[]) (bs:=[]) ho hx.1 hd (by rw[e0];exact .nil) (by rw[e0];exact .nil),λhm=>?_⟩
  simp_all
theorem DVs.reads2 {X:Cx}{pins:List (Addr×Obj)}{σ:St}{H:Hp}{s:Shared}(I:Inv X pins σ H s):∀{xs:List V} {ds:List PyData} {us:List Value},DVs X.K H xs ds->Vals xs us->∃as,ReadsAll s.heap us ds as/\Ya8∉as
 |_,_,_,.nil,r=>by cases r;exact⟨_,.nil,by simp⟩
 |_,_,_,.cons a b,r=>by
  cases r with
  |cons r rr=>
   obtain⟨as,q,z⟩:=DV.reads2 I a r
   obtain⟨bs,q',z'⟩:=DVs.reads2 I b rr
   exact⟨_,.cons q q',by simp_all⟩
end
def DV.reads {X:Cx}{pins:List (Addr×Obj)}{σ:St}{H:Hp}{s:Shared}(I:Inv X pins σ H s){x:V}{d:PyData}{u:Value}(h:DV X.K H x d)(r:RelV x u):∃as,Reads s.heap u d as:=let ⟨as,q,_⟩:=DV.reads2 I h r;⟨as,q⟩
def DVs.reads    {σ:St}(I:Inv X pins σ H s)(h:DVs X.K H xs ds)(r:Vals xs us):∃as,ReadsAll s.heap us ds as:=let ⟨as,q,_⟩:=DVs.reads2 I h r;⟨as,q⟩

structure Fits (n k:Nat)(d:PyData):Prop where
 sh:d.showable=true
 ln:d.shown.length<=n
 dp:d.depth<=k
def Fits.mono    (h:Fits n k d)(h1:n<=n')(h2:k<=k'):Fits n' k' d:=⟨h.sh,Yai h.ln h1,Yai h.dp h2⟩
def Fits.int   (h:i.natAbs<2 ^ 1000):Fits 1921 0 (.int i):=by
 have hl:i.natAbs.log2<1920:=by
  by_cases z:i.natAbs=0
  ·simp_all
  ·exact Yap ((Nat.log2_lt z).mpr h) (by decide)
 refine⟨by simp[Ydl,hl],?_,Yag _⟩
 simp only[Ycl];exact int_text_len_1921 hl
def Fits.str    (h:x.length<=m)(hc:∀c∈x.cps.toList,c<16 ^ 8):Fits (10*m+2) 0 (.str x):=by
 refine⟨rfl,?_,Yag _⟩;simp only[Ycl];exact Yai (StrLaws.reprText_len x hc) (by lia)
def jgz    (h:∀t∈ts,t.length<=n):piled ts<=ts.length*(n+2):=by
 induction ts with
 |nil=>simp[piled]
 |cons t r ih=>
  have h1:=h t Yat;have h2:=ih λq hq=>h q (Yah _ hq);rw[piled_cons,Ybd,Nat.add_mul]
  lia
theorem jbw  : ∀{ds } {t },t∈YbY ds->∃d∈ds,t=d.shown
 |[],_,h=>by simp[YbY]at h
 |d::r,t,h=>by
  simp only[YbY,YaG]at h;rcases h with h|h
  ·simp_all
  ·obtain⟨e,he,q⟩:=jbw h
   grind
theorem jaX  : ∀ds ,(YbY ds).length=ds.length
 |[]=>rfl
 |_::r=>by simp[YbY,jaX r]
def jl8   ts:(YaU ", " ts).length<=piled ts:=by
 rcases Classical.em (ts=[])with rfl|hz
 ·exact Ybh _
 ·exact Nat.le_of_add_right_le (Yej (join_length_add ts hz))
def jeN    (h:∀t∈ts,t.length<=n):(tupleText ts).length<=ts.length*(n+2)+3:=by
 have hp:=Yai (jl8 ts) (jgz h);have two:∀b:Bool,((((if b=true then ",)" else ")"):String):Str)).length<=2:=by decide
 have z:=two (ts.length==1);have one:(("(" : String):Str).length=1:=rfl
 simp only[tupleText,YfR]at z ⊢
 lia
theorem jc0  : ∀ts k (acc:Str),(textFrom k acc ts).length<=acc.length+piled ts
 |[],_,_=>Yag _
 |t::r,k,acc=>by
  have two:(((if k>0 then ", " else "" : String):Str)).length<=2:=by split<;>decide
  have ih:=jc0 r (k+1) (acc++(if k>0 then ", " else "" : String)++t)
  simp only[YfR]at ih;rw[piled_cons];exact Yai ih (by lia)
def jfW    (h:∀t∈ts,t.length<=n):(listText ts).length<=ts.length*(n+2)+3:=by
 have hp:=Yai (jc0 ts 0 "[") (YcS (jgz h) _)
 have one:(("[" : String):Str).length=1/\(("]" : String):Str).length=1:=⟨rfl,rfl⟩;simp only[listText,YfR]
 lia
theorem ja5  : ∀{ds },(∀d∈ds,d.showable=true)->Yfu ds=true
 |[],_=>rfl
 |d::r,h=>by simp[Yfu,h d Yat,ja5 λq hq=>h q (Yah _ hq)]
theorem jbR  : ∀{ds } {k },(∀d∈ds,d.depth<=k)->YbZ ds<=k
 |[],_,_=>Ybh _
 |d::r,k,h=>by
  simp only[YbZ];exact Nat.max_le.mpr ⟨h d Yat,jbR λq hq=>h q (Yah _ hq)⟩
def Fits.tup    (h:∀d∈ds,Fits n k d):Fits (ds.length*(n+2)+3) (k+1) (.tuple ds):=by
 refine⟨?_,?_,?_⟩
 ·simp only[Ydl];exact ja5 λd hd=>(h d hd).sh
 ·simp only[Ycl];have:=jeN (ts:=YbY ds) (n:=n) λt ht=>by obtain⟨d,hd,e⟩:=jbw ht;rw[e];exact(h d hd).ln
  rw[jaX]at this
  lia
 ·simp only[PyData.depth];exact Yet (jbR λd hd=>(h d hd).dp)
def Fits.lst    (h:∀d∈ds,Fits n k d):Fits (ds.length*(n+2)+3) (k+1) (.list ds):=by
 refine⟨?_,?_,?_⟩
 ·simp only[Ydl];exact ja5 λd hd=>(h d hd).sh
 ·simp only[Ycl];have:=jfW (ts:=YbY ds) (n:=n) λt ht=>by obtain⟨d,hd,e⟩:=jbw ht;rw[e];exact(h d hd).ln
  rw[jaX]at this
  lia
 ·simp only[PyData.depth];exact Yet (jbR λd hd=>(h d hd).dp)
def Fits.tupLe    (hl:ds.length<=m)(h:∀d∈ds,Fits n k d)(hN:m*(n+2)+3<=N):Fits N (k+1) (.tuple ds):=
 (Fits.tup h).mono (Yai (YcM (YfI _ hl) _) hN) (Yag _)
def Fits.lstLe    (hl:ds.length<=m)(h:∀d∈ds,Fits n k d)(hN:m*(n+2)+3<=N):Fits N (k+1) (.list ds):=
 (Fits.lst h).mono (Yai (YcM (YfI _ hl) _) hN) (Yag _)

def jpB  (K:Yab):List V->Hp->VK->Prop:=λxs H Q=>∃x d,xs=[x]/\DV K H x d/\Fits 16000000 60 d/\Q (.str d.shown) H
def jhn    (hr:Room k X.A):jaU X (.builtin "repr") (jpB X.K):=by
 intro pins s σ H xs us Q I r h;obtain⟨x,d,rfl,dv,ft,q⟩:=h;obtain⟨u,rfl,ru⟩:=jcc r;have hu:=hr.un;have done:∀(h':Heap) (u':Tok) (tk:Nat),(∀b o,s.heap.get? b=some o->h'.get? b=some o)->EP X pins σ Q (.str d.shown u') { s with heap:=h',toks:=tk }:=λh' u' tk hk=>
  ⟨.str d.shown,H,I.kept (t':=tk) hk,⟨u',rfl⟩,q⟩
 have hz:d.shown.length<=Yaf:=Yai ft.ln (by decide)
 cases dv with
 |non=>cases ru;exact P.repr_of_none (done _ _ _ λ_ _ e=>e)
 |bl b=>cases ru;exact P.repr_of_bool (by have:=done s.heap s.toks (s.toks+1) λ_ _ e=>e;simp only[Ycl]at this;lia)
 |int i=>
  obtain⟨t,rfl⟩:=ru;refine P.repr_of_int (by simpa[Ydl]using ft.sh) ?_
  have:=done s.heap s.toks (s.toks+1) λ_ _ e=>e;simp only[Ycl]at this
  lia
 |str x=>
  obtain⟨t,rfl⟩:=ru;simp only[Ycl]at hz;refine P.repr_of_str ?_ hz;have:=done s.heap s.toks (s.toks+1) λ_ _ e=>e;simp only[Ycl]at this
  lia
 |@tup a xs ds e hd=>
  obtain⟨as,rd,hsy⟩:=DV.reads2 I (DV.tup e hd) ru;cases ru;exact Yfn rd ft.sh (λ_=>hsy) hr.gd (by have:=ft.dp;lia) (λ_ _ e=>e) (λh' u' tk hk=>done h' u' tk hk) hz
 |@lst a xs ds e hd=>
  obtain⟨as,rd,hsy⟩:=DV.reads2 I (DV.lst e hd) ru;cases ru;exact Yfn rd ft.sh (λ_=>hsy) hr.gd (by have:=ft.dp;lia) (λ_ _ e=>e) (λh' u' tk hk=>done h' u' tk hk) hz
 |@dic a e=>
  obtain⟨as,rd,hsy⟩:=DV.reads2 I (DV.dic e) ru;cases ru;exact Yfn rd ft.sh (λ_=>hsy) hr.gd (by have:=ft.dp;lia) (λ_ _ e=>e) (λh' u' tk hk=>done h' u' tk hk) hz

def Sm  (f:Addr)(H H':Hp):Prop:=∀b o,b≠f->H b=some o->H' b=some o






theorem fm_rev  (xs:List Value):∀n,n<=xs.length->(YaH n).filterMap (λk=>xs[xs.length-1-k]?)=(xs.drop (xs.length-n)).reverse
 |0,_=>by simp
 |n+1,h=>by
  rw[YbL,List.filterMap_append,fm_rev xs n (by lia)]
  have hk:xs.length-1-n<xs.length:=by lia
  have:xs.drop (xs.length-(n+1))=xs[xs.length-1-n]::xs.drop (xs.length-n):=by
   rw[show xs.length-(n+1)=xs.length-1-n by lia,Ybi hk,show xs.length-1-n+1=xs.length-n by lia]
  simp_all
def jjw  (xs:List Value):Yel xs.toArray none none (some (-1))=xs.reverse.toArray:=by
 have e:sliceRange ((xs.length:Int)-1) (-1) (-1)=(YaH xs.length).map λk=>xs.length-1-k:=by
  unfold sliceRange;have hc:(if (-1:Int)>0 then (if (xs.length:Int)-1 < -1 then (-1-((xs.length:Int)-1) + -1-1) / -1 else 0) else (if (xs.length:Int)-1 > -1 then ((xs.length:Int)-1 - -1 - -1-1)/(- -1) else 0)).toNat=xs.length:=by
   rw[if_neg (by lia),show(- -1:Int)=1 from rfl,Yfy]
   split<;>lia
  simp only[hc];refine List.map_congr_left λk hk=>?_;have:=List.mem_range.mp hk
  lia
 have b:Ycv none none (some (-1)) xs.toArray.size=((xs.length:Int)-1,-1,-1):=by
  simp[Ycv]
 unfold Yel;rw[b];simp only;rw[e,YfZ];have:=fm_rev xs xs.length (Yag _);rw[Nat.sub_self,YdE]at this;rw[<- this];congr 1;refine congrArg (λf=>YeS f (YaH xs.length)) (funext λk=>?_);simp
def jke  (xs:List Value):Yel xs.toArray none none (some 1)=xs.toArray:=by
 have:=slicePick_all xs.toArray;unfold Yel at this ⊢;exact this
def Vals.rev    (r:Vals xs us):Vals xs.reverse us.reverse:=by
 induction r with
 |nil=>exact .nil
 |cons h r ih=>rw[Ydb,Ydb];exact ih.append (.cons h .nil)

end L2
namespace HT
open PySem PySem.Spec PyProof.Rows

def getItem_tuple_all     {lo hi:Option Int}(ht:IsTup s.heap t items)(hs:s.heap.IsSliceOf sl vl vu .none)(pl:IsPart vl lo)(pu:IsPart vu hi)
  (hw:sIx items.size 0 lo=0/\sIx items.size items.size hi=items.size) (h:Q (.ref t) s):wpAny (model prog w) A (getItem (.ref t) (.ref sl)) Q E s:=by
 obtain⟨os,hos,hcs,hds⟩:=id hs;have hTs:s.TypeIs (.ref sl) "slice" := ⟨os,hos,hcs⟩;unfold getItem
 try with_reducible refine Ybe ?_
 first|refine Yac (Yaj ?_)|skip
 refine Yac (YeE ht.typeIs (by decide) ?_)
 refine Yac (Ydt (name:=Ycp "__getitem__") ht.typeIs YaW
  (YeV YaW ht.typeIs Yd9 ?_ (Yeo _ _)))
 show wpAny _ _ (YcF (.ref t) >>= _) _ _ s;refine Yac (YfP ht ?_);refine Yac (YdL hTs ?_);rw[if_pos (by decide)]
 refine Yac (jbm hs pl pu ?_);have hyes:((((sIx items.size 0 lo:Nat):Int)==0&&(1:Int)==1&&(sIx items.size items.size hi-sIx items.size 0 lo)==items.size)=true):=by
  simp_all
 show wpAny _ _ (if (((sIx items.size 0 lo:Nat):Int)==0&&(1:Int)==1&&(sIx items.size items.size hi-sIx items.size 0 lo)==items.size)=true then _ else _) _ _ s
 rw[if_pos hyes];refine Yac (m:=YdK (.ref t)) ?_;unfold YdK;refine Yac (YdL ht.typeIs (Yaj ?_));rw[if_pos (by decide)]
 exact Yac (wpAny_rule (Yaj ⟨_,rfl,Yaj h⟩))
end HT
namespace L2
open PySem PySem.Spec PyProof.Rows

def rSlW  (K:Yab):V->Option Int->Option Int->Hp->VK->Prop:=λx lo hi H Q=>∃a xs,x=.ref a/\SqT K H a xs/\
 (HT.sIx xs.length 0 lo=0/\HT.sIx xs.length xs.length hi=xs.length)/\Q (.ref a) H
def jlg  : SlR X (rSlW X.K):=by
 intro pins s σ H x v vl vu lo hi sl Q I rx hs pl pu h;obtain⟨a,xs,rfl,hx,hw,q⟩:=h;cases rx;obtain⟨its,r,ht,hz⟩:=I.tuple hx;have hlen:its.toArray.size=xs.length:=by rw[Yam];exact r.length.symm
 refine⟨"tuple",_,YaW.lookup,ht.typeIs,?_⟩;exact HT.getItem_tuple_all ht hs pl pu (by lia) ⟨.ref a,H,I,rfl,q⟩
def jlh  : SlR X (λx lo hi H Q=>rSlT X.K x lo hi H Q\/rSlW X.K x lo hi H Q):=SlR.or jmZ jlg

end L2
namespace HT
open PySem PySem.Spec PyProof.Rows

def jcG    {n:Nat}(hs:s.heap.IsSliceOf sl .none .none (.int (-1) t))(h:Q ((n:Int)-1,-1,n) s):wpAny (model prog w) A (YbS (.ref sl) (pure (n:Int))) Q E s:=by
 obtain⟨os,hos,hcs,hds⟩:=id hs;unfold YbS YdT;refine Yac (Yac (YbW hos hds (x:=.none) rfl (Yac (YbW hos hds (x:=.none) rfl (Yac (YbW hos hds (x:=.int (-1) t) rfl (Yaj ?_)))))));refine Yac (jbc (.int (-1) t) ?_);show wpAny _ _ (if ((-1:Int)==0)=true then _ else _) _ _ s
 rw[if_neg (by decide)]
 refine Yac (jbc .none (Yac (jbc .none (Yac (Yaj ?_)))));have e1:Ybq none none (-1) (n:Int)=((n:Int)-1,-1):=rfl;have e2:YaR ((n:Int)-1) (-1) (-1)=n:=by
  unfold YaR;rw[if_neg (by lia),show(- -1:Int)=1 from rfl,Yfy]
  split<;>lia
 show wpAny _ _ (match Ybq none none (-1) (n:Int)with|(lo,hi)=>pure (lo,(-1:Int),YaR lo hi (-1))) _ _ s
 rw[e1];show wpAny _ _ (pure ((n:Int)-1,(-1:Int),YaR ((n:Int)-1) (-1) (-1))) _ _ s;rw[e2];exact Yaj h
def jjF  (xs:List Value):((YaH xs.length).filterMap λ(k:Nat)=>xs.toArray[((xs.length:Int)-1+(k:Int)*(-1)).toNat]?).toArray=xs.reverse.toArray:=by
 have:=L2.fm_rev xs xs.length (Yag _);rw[Nat.sub_self,YdE]at this;rw[<- this];congr 1;refine congrArg (λf=>YeS f (YaH xs.length)) (funext λk=>?_);rw[show((xs.length:Int)-1+(k:Int)*(-1)).toNat=xs.length-1-k by lia]
 simp
def getItem_tuple_rev   {its:List Value}(ht:IsTup s.heap t its.toArray)(hs:s.heap.IsSliceOf sl .none .none (.int (-1) tk))
  (h:Q (.ref s.heap.objs.size) { s with heap:=s.heap.push { cls:=.type "tuple",data:=.seq its.reverse.toArray } }) (hsz:its.length<=Yaf):wpAny (model prog w) A (getItem (.ref t) (.ref sl)) Q E s:=by
 have htake:sizeOk (.seq its.reverse.toArray):=by
  show its.reverse.toArray.size<=Yaf
  simp_all
 obtain⟨os,hos,hcs,hds⟩:=id hs;have hTs:s.TypeIs (.ref sl) "slice" := ⟨os,hos,hcs⟩;unfold getItem
 try with_reducible refine Ybe ?_
 first|refine Yac (Yaj ?_)|skip
 refine Yac (YeE ht.typeIs (by decide) ?_)
 refine Yac (Ydt (name:=Ycp "__getitem__") ht.typeIs YaW
  (YeV YaW ht.typeIs Yd9 ?_ (Yeo _ _)))
 show wpAny _ _ (YcF (.ref t) >>= _) _ _ s;refine Yac (YfP ht ?_);refine Yac (YdL hTs ?_);rw[if_pos (by decide)]
 refine Yac (jcG (n:=its.length) hs ?_);have hno:¬((((its.length:Int)-1)==0&&(-1:Int)==1&&its.length==its.toArray.size)=true):=by simp
 show wpAny _ _ (if (((its.length:Int)-1)==0&&(-1:Int)==1&&its.length==its.toArray.size)=true then _ else _) _ _ s
 rw[if_neg hno,jjF]
 first
  |exact Yac (m:=YaT _) (Ybb (Yaj ⟨_,rfl,Yaj h⟩) htake)
  |exact Yac (m:=YaT _) (Ybb (Yac (Yaj (Yaj ⟨_,rfl,Yaj h⟩))) htake)
  |exact Yac (Yac (m:=YaT _) (Ybb (Yaj (Yaj ⟨_,rfl,Yaj h⟩)) htake))
  |exact Yac (Yac (m:=YaT _) (Ybb (Yaj ⟨_,rfl,Yaj h⟩) htake))
end HT
namespace L2
open PySem PySem.Spec PyProof.Rows


end L2

namespace L2
open PySem PySem.Spec PyProof.Rows

def jpG  (K:Yab):R2:=λx y H Q=>∃a b xs ys,x=.ref a/\y=.ref b/\SqT K H a xs/\SqT K H b ys/\xs.length+ys.length<=Yaf/\
 (xs=[]->Q (.ref b) H)/\(xs≠[]->ys=[]->Q (.ref a) H)/\(xs≠[]->ys≠[]->∀p,H p=none->Q (.ref p) (upd H p (.tup (xs++ys))))
def jlO  : OpR X (Ybg .Add) (jpG X.K):=by
 intro pins s σ H x y v u Q I rx ry h;obtain⟨a,b,xs,ys,rfl,rfl,ha,hb,hz,q0,q1,q2⟩:=h;by_cases hx:xs=[]
 ·cases rx;cases ry;obtain⟨its,r1,p1,_⟩:=I.tuple ha;obtain⟨its2,r2,p2,_⟩:=I.tuple hb;have hv:its=[]:=r1.nil_iff.mpr hx;subst hv;obtain⟨⟨cls,dd,data,sl⟩,ho,hc,n,hd⟩:=id p1;obtain⟨⟨cls2,dd2,data2,sl2⟩,ho2,hc2,n2,hd2⟩:=id p2;simp only at hc hd hc2 hd2;subst hc hd hc2 hd2;exact Ygk ⟨_,ho,rfl⟩ ⟨_,ho2,rfl⟩ YeW YfS Ydf Yda (YcW _ _)
   (tuple_addW0 a b _ its2.toArray n n2 dd dd2 sl sl2 rfl) ⟨ho,ho2,⟨.ref b,H,I,rfl,q0 hx⟩⟩
 ·exact jlN pins s σ H _ _ _ _ Q I rx ry ⟨a,b,xs,ys,rfl,rfl,ha,hb,hx,hz,q1 hx,q2 hx⟩
def jg9   (hr:Room k X.A):OpR X (YaN .Eq) (λx y H Q=>∃a b xs,x=.ref a/\y=.ref b/\SqT X.K H a xs/\SqT X.K H b []/\Q (.bl xs.isEmpty) H):=by
 intro pins s σ H x y v u Q I rx ry h;obtain⟨a,b,xs,rfl,rfl,ha,hb,q⟩:=h;cases rx;cases ry;obtain⟨its,rv,pa,_⟩:=I.tuple ha;obtain⟨its2,rv2,pb,_⟩:=I.tuple hb;cases rv2;have hu:X.A.units<cLine:=hr.units0;have e:((YaH (min its.toArray.size ([]:List Value).toArray.size)).all (λ_=>true)&&its.toArray.size==([]:List Value).toArray.size)=xs.isEmpty:=by
  cases rv<;>simp
 refine EqBoolInt.of_rc (SeqAt.RcAt.tuples (e:=λ_=>true) (show s.heap.IsTuple a its.toArray from pa) (show s.heap.IsTuple b ([]:List Value).toArray from pb) hu λj _ h2=>?_) ?_
 ·simp at h2
 ·rw[e];exact⟨.bl xs.isEmpty,H,I,rfl,q⟩

theorem jcX  : ∀{ys } {us },Vals (ys.map V.str) us->StrsAre us ys
 |[],_,.nil=>.nil
 |y::r,_,.cons ⟨t,e⟩ q=>by subst e;exact .cons y t (jcX q)

def jpE  (K:Yab):V->List V->Hp->VK->Prop:=λx vs H Q=>∃(z:Str) (p:Addr) (ys:List Str),x=.str z/\vs=[.ref p]/\(SqL K H p (ys.map V.str)\/SqT K H p (ys.map V.str))/\z.length<=16/\(ys.map (·.length)).sum+ys.length<=1048576/\Q (.str (YaU z ys)) H
def mt_join  : MtR X "str.join" (jpE X.K):=by
 intro pins s σ H x vs v us Q I rx rv h;obtain⟨z,p,ys,rfl,rfl,hq,h1,h2,q⟩:=h;obtain⟨t,rfl⟩:=rx;obtain⟨u,rfl,ru⟩:=Vals.one rv;cases ru;rcases hq with hq|hq
 ·obtain⟨its,r',pl,hz⟩:=I.list hq;exact join_listW pl.isList (by simpa using jcX r') h1 h2 λt' k=>⟨.str (YaU z ys),H,I.tok k,⟨t',by rw[<- YeY];rfl⟩,q⟩
 ·obtain⟨its,r',pl,hz⟩:=I.tuple hq;exact join_tupleW pl (by simpa using jcX r') h1 h2 λt' k=>⟨.str (YaU z ys),H,I.tok k,⟨t',by rw[<- YeY];rfl⟩,q⟩

def ja6  : ∀ts c ,c∈(YaU "" ts).cps.toList↔∃t∈ts,c∈t.cps.toList:=λts c=>by
 rw[mem_join];constructor
 ·rintro(h|⟨_,h⟩)
  ·exact h
  ·exact absurd h (by show ¬c∈(([]:List Nat));simp)
 ·exact .inl
theorem ja7  : ∀(ts:List Str),(∀t∈ts,t.length=1)->(YaU "" ts).length=ts.length
 |[],_=>rfl
 |[x],h=>h x (by simp)
 |x::y::r,h=>by
  have ih:=ja7 (y::r) λt ht=>h t (Yah _ ht);have h1:=h x (by simp)
  show(x ++ "" ++ YaU "" (y::r)).length=_;have e:(x ++ "" ++ YaU "" (y::r)).length=x.length+(YaU "" (y::r)).length:=by
   show(x.cps++("" : Str).cps++(YaU "" (y::r)).cps).size=_;rw[Yd3,Yd3];show x.cps.size+0+_=_;rfl
  grind

def jni  (K:Yab)(neg:Bool):R2:=λx y H Q=>∃d e,DV K H x d/\DV K H y e/\d.canLay0=true/\e.canLay0=true/\d.depth<=100/\Q (.bl (if neg then !PyData.eqv d e else YaJ d e)) H
def jnL   (hr:Room k X.A):OpR X (YaN .NotEq) (jni X.K true):=by
 intro pins s σ H x y v u Q I rx ry h;obtain⟨d,e,hd,he,c1,c2,hk,q⟩:=h;obtain⟨as,ra⟩:=hd.reads I rx;obtain⟨bs,rb⟩:=he.reads I ry;exact SeqAt.compareNe_reads ra rb c1 c2 (by have:=hr.un;lia) ⟨.bl _,H,I,rfl,q⟩
def jnQ   (hr:Room k X.A):OpR X (YaN .Eq) (jni X.K false):=by
 intro pins s σ H x y v u Q I rx ry h;obtain⟨d,e,hd,he,c1,c2,hk,q⟩:=h;obtain⟨as,ra⟩:=hd.reads I rx;obtain⟨bs,rb⟩:=he.reads I ry;exact SeqAt.compareEq_reads ra rb c1 c2 (by have:=hr.un;lia) ⟨.bl _,H,I,rfl,q⟩

mutual
noncomputable def noB:PyData->Bool
 |.none=>true
 |.bool _=>false
 |.int _=>true
 |.str _=>true
 |.list ds=>noBs ds
 |.tuple ds=>noBs ds
 |.dict _=>false
noncomputable def noBs:List PyData->Bool
 |[]=>true
 |d::r=>noB d&&noBs r
end
mutual
theorem jkL:∀{d e:PyData},noB d=true->noB e=true->YaJ d e=true->d=e
 |.none,.none,_,_,_=>rfl
 |.int i,.int j,_,_,h=>by rw[YaJ]at h;rw[eq_of_beq h]
 |.str i,.str j,_,_,h=>by rw[YaJ]at h;rw[eq_of_beq h]
 |.list xs,.list ys,h1,h2,h=>by rw[YaJ]at h;rw[noB]at h1 h2;rw[jf6 h1 h2 h]
 |.tuple xs,.tuple ys,h1,h2,h=>by rw[YaJ]at h;rw[noB]at h1 h2;rw[jf6 h1 h2 h]
 |.bool _,_,h,_,_=>by rw[noB]at h;cases h
 |.dict _,_,h,_,_=>by rw[noB]at h;cases h
 |.none,.bool _,_,h,_|.int _,.bool _,_,h,_|.str _,.bool _,_,h,_|.list _,.bool _,_,h,_|.tuple _,.bool _,_,h,_=>by rw[noB]at h;cases h
 |.none,.dict _,_,h,_|.int _,.dict _,_,h,_|.str _,.dict _,_,h,_|.list _,.dict _,_,h,_|.tuple _,.dict _,_,h,_=>by rw[noB]at h;cases h
 |.none,.int _,_,_,h|.none,.str _,_,_,h|.none,.list _,_,_,h|.none,.tuple _,_,_,h=>by rw[YaJ]at h;cases h
 |.int _,.none,_,_,h|.int _,.str _,_,_,h|.int _,.list _,_,_,h|.int _,.tuple _,_,_,h=>by rw[YaJ]at h;cases h
 |.str _,.none,_,_,h|.str _,.int _,_,_,h|.str _,.list _,_,_,h|.str _,.tuple _,_,_,h=>by rw[YaJ]at h;cases h
 |.list _,.none,_,_,h|.list _,.int _,_,_,h|.list _,.str _,_,_,h|.list _,.tuple _,_,_,h=>by rw[YaJ]at h;cases h
 |.tuple _,.none,_,_,h|.tuple _,.int _,_,_,h|.tuple _,.str _,_,_,h|.tuple _,.list _,_,_,h=>by rw[YaJ]at h;cases h
theorem jf6:∀{ds es:List PyData},noBs ds=true->noBs es=true->Ycq ds es=true->ds=es
 |[],[],_,_,_=>rfl
 |d::r,e::q,h1,h2,h=>by
  rw[noBs,Yao]at h1 h2
  rw[Ycq,Yao]at h
  rw[jkL h1.1 h2.1 h.1,jf6 h1.2 h2.2 h.2]
 |[],_::_,_,_,h=>by rw[Ycq]at h;cases h
 |_::_,[],_,_,h=>by rw[Ycq]at h;cases h
end
def jea   l (items:Array Value)(n:Nat) dd sl x (e:Value->Bool)(j:Nat) hj 
  (hit:e items[j]=true) (hno:∀m hm ,m<j->e items[m]=false) :
  Meets (Builtin.«tuple.index» ⟨[.ref l,x],[]⟩)
   (λA R s=>s.heap.get? l=some { cls:=.type "tuple",dict:=dd,data:=.seq items n,slots:=sl }/\(∀y,y∈items->YeP A.in1 s y x (e y))/\R (.ok (.ret (.int j s.toks))) { s with toks:=s.toks+1 }):=
 .of_wp λprog w A R s h=>by
  obtain⟨hp,g,d,tk,os⟩:=s;obtain⟨hl,he,h⟩:=h;unfold Builtin.«tuple.index»;simp only[Std.Legacy.Range.forIn_eq_forIn_range']
  wp_walk using wpAny_loadPart' hl,wpAny_forIn_list _ (λrest b s'=>b.1=none/\s'=⟨hp,g,d,tk,os⟩/\∃i,i<=j/\rest=(YfJ 0 items.size 1).drop i) _
  case turn=>
   rintro y rest b s' ⟨hb,rfl,i,hij,hz⟩;have hlt:i<(YfJ 0 items.size 1).length:=by simp;lia
   rw[Ybi hlt]at hz;injection hz with hy hrest
   have hy:y=i:=by simpa using hy
   subst hy;have hlt':y<items.size:=by lia
   have hi:items[y]?=some items[y]:=YeM hlt';rw[hi];refine Yac (he _ (Array.getElem_mem hlt') prog w _ _ ?_);by_cases hyj:y=j
   ·subst hyj;rw[hit]
    wp_walk
    exact⟨_,rfl,h⟩
   ·rw[hno y hlt' (by lia)]
    wp_walk
    exact⟨rfl,rfl,y+1,by lia,hrest⟩
  case fin=>
   rintro⟨b1,b2⟩ s' ⟨hb,rfl,i,hij,hz⟩;have hlt:i<(YfJ 0 items.size 1).length:=by simp;lia
   rw[Ybi hlt]at hz;cases hz
  case h=>
   refine⟨rfl,rfl,0,Ybh _,?_⟩;simp[Std.Legacy.Range.size]
def jcU  {α:Type}(l:List α) d h:l.getD i d=l[i]:=by simp[List.getD,YaF h]
theorem jaH  : ∀{ys:List Str} {us } {j } h ,Vals (ys.map V.str) us->∃t,us[j]=Yep (ys.getD j "") t
 |y::r,_,0,_,.cons ⟨t,e⟩ _=>⟨t,e⟩
 |y::r,_,j+1,h,.cons _ q=>by
  obtain⟨t,e⟩:=jaH (j:=j) (by simpa using h) q
  exact⟨t,by simpa using e⟩
 |[],_,j,h,.nil=>by simp at h

def jhO  (K:Yab)(T:Bool):V->List V->Hp->VK->Prop:=λx vs H Q=>∃(p:Addr) (ys:List Str) (n:Str),x=.ref p/\vs=[.str n]/\(if T then SqT K H p (ys.map V.str) else SqL K H p (ys.map V.str))/\n∈ys/\Q (.int (ys.idxOf n)) H
def jkH  {ys:List Str}(h:m<ys.idxOf n) hm:(ys[m]==n)=false:=by
 have:=List.not_of_lt_findIdx (p:=(·== n)) (xs:=ys) h;simpa using this
def jii  : MtR X "tuple.index" (jhO X.K true):=by
 intro pins s σ H x vs v us Q I rx rv h;obtain⟨p,ys,n,rfl,rfl,hq,hn,q⟩:=h;cases rx;obtain⟨u,rfl,t,rfl⟩:=Vals.one rv;obtain⟨its,r,pl,hz⟩:=I.tuple hq;have hl:=r.length;rw[Yae]at hl;obtain⟨⟨cls,dd,data,sl⟩,ho,hc,m,hd⟩:=id pl;simp only at hc hd;subst hc hd;have hj:ys.idxOf n<ys.length:=List.idxOf_lt_length_iff.mpr hn;have fs:(ys.map V.str).all L2.flatV=true:=by rw[Ydk];intro x hx;obtain⟨y,_,rfl⟩:=List.mem_map.mp hx;rfl
 refine Ybv F.slot_tuple_index ⟨_,ho,rfl⟩ F.entry_tuple_index (F.args_tuple_index_2 _ _)
  (jea p its.toArray m dd sl (.str n t) (eqU (.str n)) (ys.idxOf n) (by simpa using (by lia:ys.idxOf n<its.length)) ?_ ?_) ⟨ho,λy hy=>jbf (x:=.str n) ⟨t,rfl⟩ rfl r fs y (by simpa using hy),⟨.int _,H,I.tok _,⟨_,rfl⟩,q⟩⟩
 ·obtain⟨t',e⟩:=jaH (j:=ys.idxOf n) (by lia) r
  simp only[YcL,e];show(ys.getD (ys.idxOf n) "" == n)=true;rw[jcU _ _ hj,YdZ hj];exact beq_self_eq_true _
 ·intro m' hm hlt;have hm':m'<ys.length:=by lia
  obtain⟨t',e⟩:=jaH (j:=m') (by lia) r
  simp only[YcL,e];show(ys.getD m' "" == n)=false;rw[jcU _ _ hm'];exact jkH hlt hm'
def jij  : MtR X "list.index" (jhO X.K false):=by
 intro pins s σ H x vs v us Q I rx rv h;obtain⟨p,ys,n,rfl,rfl,hq,hn,q⟩:=h;cases rx;obtain⟨u,rfl,t,rfl⟩:=Vals.one rv;obtain⟨its,r,pl,hz⟩:=I.list hq;have hl:=r.length;rw[Yae]at hl hz;obtain⟨⟨cls,dd,data,sl⟩,m,ho,hc,hdd,hd⟩:=id pl;simp only at hc hd hdd;subst hc hd hdd;have hj:ys.idxOf n<ys.length:=List.idxOf_lt_length_iff.mpr hn;have fs:(ys.map V.str).all L2.flatV=true:=by rw[Ydk];intro x hx;obtain⟨y,_,rfl⟩:=List.mem_map.mp hx;rfl
 have h63:=jdl;refine Ybv F.slot_list_index ⟨_,ho,rfl⟩ F.entry_list_index (F.args_list_index_2 _ _)
  (SeqAt.list_indexAt p its.toArray m none sl (.str n t) (eqU (.str n)) (ys.idxOf n) (by simpa using (by lia:ys.idxOf n<its.length)) (by lia) ?_ ?_) ⟨ho,λy hy=>jbf (x:=.str n) ⟨t,rfl⟩ rfl r fs y (by simpa using hy),⟨.int _,H,I.tok _,⟨_,rfl⟩,q⟩⟩
 ·obtain⟨t',e⟩:=jaH (j:=ys.idxOf n) (by lia) r
  simp only[YcL,e];show(ys.getD (ys.idxOf n) "" == n)=true;rw[jcU _ _ hj,YdZ hj];exact beq_self_eq_true _
 ·intro m' hm hlt;have hm':m'<ys.length:=by lia
  obtain⟨t',e⟩:=jaH (j:=m') (by lia) r
  simp only[YcL,e];show(ys.getD m' "" == n)=false;rw[jcU _ _ hm'];exact jkH hlt hm'

def jhk  (ds:List PyData):Ycq ds []=ds.isEmpty:=by
 cases ds<;>rfl
def jcH  : fillsNumberSlot (.type "tuple") "mul" = pure false:=
 PySem.fillsNumberSlot_seq (id := "tuple.__mul__") (r:=some (.builtin "tuple.__rmul__")) YeJ.lookup (by decide +kernel) F.slot_tuple_rmul.lookup (by decide +kernel)
def jeT  : seqRepeat? (.type "tuple")=pure (some (.builtin "tuple.__mul__")):=by
 unfold seqRepeat?;rw[Yf5 (T := "tuple") (name := "__mul__") (id := "tuple.__mul__") YeJ.lookup (by decide +kernel),Yf5 (T := "tuple") (name := "__rmul__") (id := "tuple.__rmul__") F.slot_tuple_rmul.lookup (by decide +kernel)]
 rfl
def jdL   a (t:Tok) l items (n:Nat) dd sl :
  Meets (Builtin.«int.__rmul__» ⟨[.int a t,.ref l],[]⟩) (λ_ R s=>s.heap.get? l=some { cls:=.type "tuple",dict:=dd,data:=.seq items n,slots:=sl }/\R (.ok (.ret Value.notImplemented)) s):=
 .of_wp λprog w A R s h=>by obtain⟨hp,g,d,tk,os⟩:=s;obtain⟨hl,h⟩:=h;wp_walk;exact⟨_,rfl,h⟩
def jg4   l (items:Array Value)(n:Nat) dd sl (x:Int)(t:Tok)(hx:2<=x)(hx2:x<2 ^ 62)(h0:items.isEmpty=false)(hsz:items.size*x.toNat<=Yaf) :
  Meets (Builtin.«tuple.__mul__» ⟨[.ref l,.int x t],[]⟩)
   (λA R s=>s.heap.get? l=some { cls:=.type "tuple",dict:=dd,data:=.seq items n,slots:=sl }/\R (.ok (.ret (.ref s.heap.objs.size))) { s with heap:=s.heap.push { cls:=.type "tuple",data:=.seq ((Yaa x.toNat items).foldl (·++·) #[]) } }):=
 .of_wp λprog w A R s h=>by
  obtain⟨hp,g,d,tk,os⟩:=s;obtain⟨hl,h⟩:=h;have c1:(decide (x < -2 ^ 63)||decide (x ≥ 2 ^ 63))=false:=by simp;lia
  have c2:(items.isEmpty||x==1)=false:=by rw[h0];simp;lia
  have c3:(decide (x<=0)||items.isEmpty)=false:=by rw[h0];simp;lia
  have hz:(items.size:Int)*x=((items.size*x.toNat:Nat):Int):=by rw[Int.natCast_mul,YcT (by lia)]
  have h63:(Yaf:Nat)<=(2 ^ 63-1)/8:=by decide
  wp_walk using wpAny_loadPart' hl
  simp only[c1,Ybk,if_false]
  wp_walk using wpAny_loadPart' hl
  simp only[c2,c3,Ybk,if_false];rw[if_neg (by rw[hz];lia)]
  have c4:YdJ ((items.size:Int)*x)=false:=by
   rw[hz];unfold YdJ;exact decide_eq_false (by lia)
  simp only[c4,Ybk,if_false];have hs:(Yd7 (λx1 x2=>x1++x2) #[] (Yaa x.toNat items)).size<=Yaf:=by
   rw[AutoListH.size_joined];simp only[Yam,YcP,YcI];rw[Yei];exact hsz
  revert hs h;generalize Yd7 (λx1 x2=>x1++x2) #[] (Yaa x.toNat items)=G;intro h hs
  wp_walk
  exact⟨_,rfl,h⟩
def jg6   l (items:Array Value)(n:Nat) dd sl t (h0:items.isEmpty=false) :
  Meets (Builtin.«tuple.__mul__» ⟨[.ref l,.int 0 t],[]⟩)
   (λA R s=>s.heap.get? l=some { cls:=.type "tuple",dict:=dd,data:=.seq items n,slots:=sl }/\R (.ok (.ret (.ref s.heap.objs.size))) { s with heap:=s.heap.push { cls:=.type "tuple",data:=.seq #[] } }):=
 .of_wp λprog w A R s h=>by
  obtain⟨hp,g,d,tk,os⟩:=s;obtain⟨hl,h⟩:=h;have c2:(items.isEmpty||(0:Int)==1)=false:=by rw[h0];rfl
  wp_walk using wpAny_loadPart' hl
  exact⟨_,rfl,h⟩
def jg5   l items (n:Nat) dd sl t :
  Meets (Builtin.«tuple.__mul__» ⟨[.ref l,.int 1 t],[]⟩)
   (λA R s=>s.heap.get? l=some { cls:=.type "tuple",dict:=dd,data:=.seq items n,slots:=sl }/\R (.ok (.ret (.ref l))) s):=
 .of_wp λprog w A R s h=>by
  obtain⟨hp,g,d,tk,os⟩:=s;obtain⟨hl,h⟩:=h;have c1:(decide ((1:Int) < -2 ^ 63)||decide ((1:Int) ≥ 2 ^ 63))=false:=by decide
  have c2:(items.isEmpty||(1:Int)==1)=true:=by simp
  wp_walk using wpAny_loadPart' hl
  exact⟨_,rfl,h⟩

def jpC  (K:Yab):R2:=λx y H Q=>∃l k xs,x=.ref l/\y=.int k/\SqT K H l xs/\xs≠[]/\0<=k/\k<2 ^ 62/\xs.length*k.toNat<=Yaf/\(k=1->Q (.ref l) H)/\(k≠1->∀p,H p=none->Q (.ref p) (upd H p (.tup (Yaa k.toNat xs).flatten)))
def jlK  : OpR X (Ybg .Mult) (jpC X.K):=by
 intro pins s σ H x y v u Q I rx ry h;obtain⟨l,k,xs,rfl,rfl,hH,h0,h1,h2,hz,q1,q2⟩:=h;cases rx;obtain⟨t,rfl⟩:=ry;obtain⟨its,r,pl,_⟩:=I.tuple hH;have hl:=r.length;obtain⟨⟨cls,dd,data,sl⟩,e,hc,n,hd⟩:=id pl;simp only at hc hd;subst hc hd;have hne:its≠[]:=λz=>h0 (r.nil_iff.mp z);refine Yfm (T := "tuple") (U := "int") (by decide) ⟨_,e,rfl⟩ (λs'=>YeF s' k t) jcH F.fills_int_mul YdF jeT F.slot_int_index.lookup
  (Ybv YdF (YeF s k t) F.entry_int_rmul (F.args_int_rmul_2 _ _) (jdL k t l its.toArray n dd sl) ⟨e,rfl,⟨_,e,rfl⟩,?_⟩)
 by_cases hk:k=1
 ·subst hk;exact Ybv YeJ ⟨_,e,rfl⟩ Yeu (Yeg _ _) (jg5 l its.toArray n dd sl t) ⟨e,⟨.ref l,H,I,rfl,q1 rfl⟩⟩
 ·by_cases hk0:k=0
  ·subst hk0;refine Ybv YeJ ⟨_,e,rfl⟩ Yeu (Yeg _ _) (jg6 l its.toArray n dd sl t (by simpa using hne)) ⟨e,?_⟩
   refine⟨.ref s.heap.objs.size,_,I.laid (t':=s.toks) (o:=.tup []) (λb ob q=>Yad _ q) (Yag _) ?_,rfl,q2 hk _ (I.hok.fresh (Yag _))⟩;exact⟨Ybh _,[],.nil,TupD.new _ _⟩
  refine Ybv YeJ ⟨_,e,rfl⟩ Yeu (Yeg _ _) (jg4 l its.toArray n dd sl k t (by lia) h2 (by simpa using hne) (by rw[Yam,<- hl];exact hz)) ⟨e,?_⟩
  have f0:=jdp its k.toNat [];rw[Yb5]at f0;rw[f0];refine⟨.ref s.heap.objs.size,_,I.laid (t':=s.toks) (o:=.tup (Yaa k.toNat xs).flatten) (λb ob q=>Yad _ q) (Yag _) ?_,rfl,q2 hk _ (I.hok.fresh (Yag _))⟩;exact⟨by rw[jfY,Yei];exact hz,_,r.rep k.toNat,TupD.new _ _⟩
noncomputable def repS  (x:Str)(k:Nat):Str:=⟨(Yaa k x.cps.toList).flatten.toArray⟩
def jpD  : R2:=λx y H Q=>∃z k,x=.str z/\y=.int k/\0<=k/\k<1000/\z.length<=1000/\Q (.str (repS z k.toNat)) H
theorem jgQ  (x:Array Nat):∀k (a:List Nat),((Yaa k x).foldl (·++·) a.toArray)=(a++(Yaa k x.toList).flatten).toArray
 |0,a=>by simp
 |k+1,a=>by
  rw[YaS,YeA,show a.toArray++x=(a++x.toList).toArray by simp,jgQ x k]
  simp[YaS]
def jlL  : OpR X (Ybg .Mult) jpD:=by
 intro pins s σ H x y v u Q I rx ry h;obtain⟨z,k,rfl,rfl,h0,h1,hz,q⟩:=h;obtain⟨t,rfl⟩:=rx;obtain⟨t',rfl⟩:=ry;have hl:z.length*k.toNat<=1000000:=Yai (Nat.mul_le_mul hz (show k.toNat<=1000 by lia)) (by decide)
 refine P.mul_str (by simp;lia) (λh2 _=>?_) (λh2 _=>?_) ?_
 ·have:((2:Int) ^ 63-1)/k ≥ 1000:=by
   refine(Int.le_ediv_iff_mul_le (by lia)).mpr ?_
   lia
  lia
 ·exact decide_eq_false (by
   have:(1000000:Nat)<=Yaf:=by decide
   lia)
 ·split
  ·have e:repS z k.toNat=Str.empty:=by rw[show k.toNat=0 by lia];rfl
   rw[e]at q;exact⟨by decide,.str _,H,I.tok _,⟨_,rfl⟩,q⟩
  ·split
   ·rename_i h2 h3;have e:repS z k.toNat=z:=by
     rw[Yb8,beq_iff_eq,beq_iff_eq]at h3;unfold repS;rcases h3 with h3|h3
     ·subst h3;simp
     ·have:z.cps.toList=[]:=by
       have:z.cps.size=0:=h3;simpa using this
      obtain⟨c⟩:=z;simp only at this ⊢;have hc:c=#[]:=by simpa using this
      subst hc;simp
    rw[e]at q;exact⟨.str _,H,I,⟨_,rfl⟩,q⟩
   ·have e:(Yaa k.toNat z.cps).foldl (·++·) #[]=(Yaa k.toNat z.cps.toList).flatten.toArray:=by
     have:=jgQ z.cps k.toNat [];simpa using this
    refine⟨?_,.str _,H,I.tok _,⟨_,rfl⟩,?_⟩
    ·rw[e];show(Yaa k.toNat z.cps.toList).flatten.toArray.size<=Yaf;rw[Yam,jfY,Yei];exact Yai hl (by decide)
    ·rw[e];exact q
theorem jdP  : ∀{bs:List Bool} {us } {i:Nat} {v },Vals (bs.map V.bl) us->us[i]?=some v->∃b,bs[i]?=some b/\v=.bool b
 |b::r,_,0,v,.cons e q,h=>by
  cases e;exact⟨b,rfl,(Yan h).symm⟩
 |b::r,_,i+1,v,.cons e q,h=>jdP (bs:=r) (i:=i) q (by simpa using h)
 |[],_,i,v,.nil,h=>by simp at h
def jhp    {σ:St}{bs:List Bool}(hc:X.calm=true)(I:Inv X pins σ H s)(hq:SqL X.K H p (bs.map V.bl)) d :
  ∃its fp wr P S,s.heap.IsList p its/\Walks X.prog X.w X.A.in1 s.heap.objs.size fp wr bs.length P S/\S 0 (s.heap.push ⟨.type "list_iterator",none,.fields #[.ref p,.int 0 0],#[]⟩)/\TruthOf X.prog X.w X.A.in1 P (λi=>(bs[i]?).getD d)/\
   ∀h':Heap,(∀b o,b∉wr->(s.heap.push ⟨.type "list_iterator",none,.fields #[.ref p,.int 0 0],#[]⟩).get? b=some o->h'.get? b=some o)->∀b o,s.heap.get? b=some o->h'.get? b=some o:=by
 obtain⟨its,r',pl,-⟩:=I.list hq;have n:its.toArray.size=bs.length:=by simpa using r'.length.symm
 obtain⟨o,ho,-⟩:=id pl.isList;have W:=Walks.list (prog:=X.prog) (w:=X.w) (A:=X.A.in1) (I.ok.hd hc) s.heap.objs.size p (YaI (Yak ho)) its.toArray;rw[n]at W;refine⟨its.toArray,_,_,_,_,pl.isList,W,⟨⟨_,Yaq _ rfl,rfl,rfl⟩,pl.isList.push _⟩,λi v t Q E hP hQ=>?_,λh' hk b o e=>hk b o (λm=>?_) (Yad _ e)⟩
 ·obtain⟨b,e,rfl⟩:=jdP (i:=i) (v:=v) r' (by simpa using hP)
  exact Yba (by simpa only[e,Option.getD]using hQ)
 ·exact absurd (Yak e) (by rw[List.mem_singleton.mp m];exact Ybo _)

theorem jcv  : ∀{us } {ns },IntsAre us ns->Vals (ns.map V.int) us
 |_,_,.nil=>.nil
 |_,_,.cons n t r=>.cons ⟨t,rfl⟩ (jcv r)
theorem jio  : ∀{kvs:List (Key×V)} {vs },KV kvs vs->vs.map (·.1)=kvs.map (·.1)
 |_,_,.nil=>rfl
 |_,_,.cons a r=>by
  rw[Yas,Yas,jio r,a.1]
theorem jiz    : ∀{ns:List Int} {acc } {vs:List (Key×Value)},vs.map (·.1)=ns.map (λz=>(.inl z:Key))->acc.length=ns.length->(∀(j:Nat) v ,acc[j]?=some v->∃k x,vs[j]?=some (k,x)/\(jam P w).is k v=true)->IntsAre acc ns
 |[],[],_,_,_,_=>.nil
 |z::ns,v::acc,(k,x)::vs,e,hl,h=>by
  obtain⟨k',x',h1,h2⟩:=h 0 v rfl;have e1:(k,x)=(k',x'):=Yan h1;injection e1 with e1 e2
  subst e1;rw[Yas,Yas]at e;injection e with ek er
  have ek:k=.inl z:=ek;subst ek;obtain⟨t,rfl⟩:∃t,v=.int z t:=by
   have h2:jf0 (.inl z) v=true:=h2;rcases jat h2 with⟨i,t,e,rfl⟩|⟨y,t,e,_⟩
   ·simp_all
   lia
  exact .cons z t (jiz er (by simp_all) λj v hj=>h (j+1) v hj)
 |z::ns,v::acc,[],e,_,_=>by cases e
 |z::ns,[],_,_,hl,_=>by cases hl
 |[],v::acc,_,_,hl,_=>by cases hl
end L2

namespace L2
open PySem PySem.Spec PyProof.Rows
open Sem (wp)
open AutoSeq1 (wpAny_loadPart')

def jjy    {x:α}(h:∀y,Q y s):wpAny M A (pure x) Q E s:=Yaj (h x)
def jev   v ob :
  Meets (Builtin.«enumerate.__new__» ⟨[.type "enumerate",v],[]⟩) (λ_ R s=>(∀prog w A Q E ,Q (.ref s.heap.objs.size) { s with heap:=s.heap.push ob }->wpAny (model prog w) A (pyIter v) Q E s)/\
   R (.ok (.ret (.ref (s.heap.push ob).objs.size))) { s with heap:=(s.heap.push ob).push ⟨.type "enumerate",none,.fields #[.none,.bool false,.ref s.heap.objs.size,rawInt 0,.none,.none],#[]⟩ }):=
 .of_wp λprog w A R s h=>by
  rcases s with⟨hp,g,d,tk,os⟩;rcases h with⟨hi,h⟩;have hsub:=sub_enumerate
  wp_walk
  refine wpAny_stack_any λst=>jjy λb=>?_;cases b<;>(wp_walk using hi prog w;exact⟨_,rfl,h⟩)

def jk7  {σ: St}(I:Inv X pins σ H s)(k:∀b o,b≠e->b≠it->s.heap.get? b=some o->h'.get? b=some o)(fe:FpOk X pins H e)(fi:FpOk X pins H it):Inv X pins σ H { s with heap:=h',toks:=t' }:=by
 obtain⟨e0,e1,_,e3,e4,e5⟩:=fe;obtain⟨i0,i1,_,i3,i4,i5⟩:=fi;have ne:∀b u,H b=some u->b≠e:=λb u q z=>by rw[z,e0]at q;cases q
 have ni:∀b u,H b=some u->b≠it:=λb u q z=>by rw[z,i0]at q;cases q
 have kk:∀b o,b∉[e,it]->s.heap.get? b=some o->h'.get? b=some o:=λb o hc q=>k b o (λz=>hc (by simp[z])) (λz=>hc (by simp[z])) q
 refine I.step (g':=s.gens) (d':=s.drawn) (ch:=[e,it]) (λb hb=>?_) (λb o _ _ hc q _=>kk b o hc q) (λb o _ _ hc q _=>⟨o.slots,kk b o hc q⟩) (λ_ _ _ _ n=>n)
  (λb o hc q=>⟨o,kk b o hc q⟩) (λ_ _ q=>q) (λ_ _ _ q=>q) (λb ps q=>⟨#[],by rw[q];simp⟩) (λm hm=>?_) (λb u q=>?_) I.bare
 ·simp only[YaG,Yar,or_false]at hb;rcases hb with rfl|rfl
  ·exact⟨e3,e1,e4,e5⟩
  ·exact⟨i3,i1,i4,i5⟩
 ·obtain⟨o,es,ep,ho,r⟩:=hm;exact⟨o,es,ep,k _ o (Ne.symm e1) (Ne.symm i1) ho,r⟩
 ·refine(I.hok b u q).stay (λc v hc y=>k c v ?_ ?_ y) (λ_ y=>y) λ_ _ y=>y
  ·rcases hc with z|z
   ·rw[z];exact ne b u q
   ·exact ne c _ z
  ·rcases hc with z|z
   ·rw[z];exact ni b u q
   ·exact ni c _ z

end L2

namespace L2
open PySem PySem.Spec PyProof.Rows

def jgb  : jaU X (.builtin "isinstance") (λxs H Q=>∃(x:V) (c:String) (t:Value) (b:Bool),xs=[x,.ty c]/\TyOf X.K H x t/\Yds X.K t (.type c)=some b/\Q (.bl b) H):=by
 intro pins s σ H xs us Q I r h;obtain⟨x,c,t,b,rfl,ty,e,q⟩:=h;obtain⟨u,v,rfl,ru,rv⟩:=Vals.two r;cases rv;exact jiw I ru ty e λtk=>⟨.bl b,H,I.tok tk,rfl,q⟩




end L2

namespace L2
open PySem PySem.Spec PyProof.Rows PySem.W

end L2

namespace L2
open PySem PySem.Spec PyProof.Rows PySem.W
open PySem.AutoSeq1 (wpAny_loadPart')
open PySem.MeetsSeq PySem.MeetsSeq2 PySem.MeetsSeq3
end L2

namespace L2
open PySem PySem.Spec PyProof.Rows PySem.W



section
variable {X:Cx}
def jho  (hc:X.calm=true):jaU X (.type "list") (λxs H Q=>∃(a:Addr) (kvs:List (Key×V)) (ns:List Int),xs=[.ref a]/\H a=some (.dK kvs)/\kvs.map (·.1)=ns.map (λz=>(.inl z:Key))/\∀l,H l=none->Q (.ref l) (upd H l (.lst (ns.map V.int)))):=by
 intro pins s σ H xs us Q I r h;obtain⟨a,kvs,ns,rfl,ha,hk,q⟩:=h;obtain⟨u,rfl,rx⟩:=jcc r;cases rx;obtain⟨hz,hS,vs,rv,m⟩:kvs.length<=Yaf/\(a==Ya8)=false/\∃vs,KV kvs vs/\s.heap.DictOf (jam X.prog X.w) a vs:=I.hok a _ ha;obtain⟨ep,hat⟩:=m.dictAt;have hkv:vs.map (·.1)=kvs.map (·.1):=jio rv;have hvl:vs.length=ns.length:=by simpa using congrArg YfL (hkv.trans hk)
 have hkl:kvs.length=ns.length:=by simpa using congrArg YfL hk
 refine kdl_call (A:=X.A) (kdl_dict (knd:=jam X.prog X.w) (kvs:=vs) (ep:=ep) hS) (I.ok.hd hc) hat (by lia) λh' tk acc c' hk' hS' hacc=>?_
 have hl:acc.toList.length=ns.length:=by rw[Ycn,hacc.1,hvl]
 have hI:IntsAre acc.toList ns:=jiz (hkv.trans hk) hl λj v e=>hacc.2 j v (by simp_all)
 refine⟨.ref s.heap.objs.size,_,I.laid (t':=tk) (o:=.lst (ns.map V.int)) (λb o e=>hk' b o e) (Yag _) ⟨by simp_all,acc.toList,c',jcv hI,by simp_all⟩,rfl,q _ (I.hok.fresh (Yag _))⟩
def rInD  (X:Cx)(neg:Bool):R2:=λx y H Q=>∃(p:Addr) (vs:List V) (d:PyData) (ds:List PyData),y=.ref p/\(SqL X.K H p vs\/SqT X.K H p vs)/\DV X.K H x d/\DVs X.K H vs ds/\d.canLay0=true/\d.depth<=100/\(∀e∈ds,e.canLay0=true)/\Q (.bl (if neg then !(ds.any λe=>YaJ e d) else ds.any λe=>YaJ e d)) H
open Classical in
noncomputable def eD (h:Heap)(d:PyData)(w:Value):Bool:=decide (∃e as,e.canLay0=true/\Reads h w e as/\YaJ e d=true)
open Classical in
def joB {h:Heap}{d e:PyData}{w:Value}{as:List Addr}(r:Reads h w e as)(c:e.canLay0=true):eD h d w=YaJ e d:=by
 unfold eD;cases q:YaJ e d with
 |true=>grind
 |false=>
  refine decide_eq_false λ⟨e',as',c',r',q'⟩=>?_;rw[SeqAt.Reads.unique e' e w as' as c' r' r,q]at q';cases q'
theorem jiB {h:Heap}{d:PyData}:∀{us:List Value} {ds:List PyData} {as:List Addr},ReadsAll h us ds as->(∀e∈ds,e.canLay0=true)->us.any (eD h d)=(ds.any λe=>YaJ e d)/\∀w∈us,∃e as,e.canLay0=true/\Reads h w e as
 |_,_,_,.nil,_=>⟨rfl,λw hw=>by simp at hw⟩
 |_,_,_,.cons r rs,c=>by
  obtain⟨h1,h2⟩:=jiB (d:=d) rs λe he=>c e (Yah _ he);refine⟨by rw[Ybn,Ybn,h1,joB r (c _ Yat)],λw hw=>?_⟩
  rcases YaG.mp hw with rfl|hw
  ·exact⟨_,_,c _ Yat,r⟩
  ·exact h2 w hw
def jgO   {σ:St}(hu:A.units+100<cLine)(I:Inv X pins σ H s)(rx:RelV x u)(hd:DV X.K H x d)(c:d.canLay0=true)(hp:d.depth<=100)(r:Vals vs its)(hv:DVs X.K H vs ds)(cs:∀e∈ds,e.canLay0=true) :
  (∀w,w∈its->YeP A s w u (eD s.heap d w))/\its.any (eD s.heap d)=ds.any λe=>YaJ e d:=by
 obtain⟨as,ra⟩:=DVs.reads I hv r;obtain⟨bs,rb⟩:=DV.reads I hd rx;obtain⟨h1,h2⟩:=jiB (d:=d) ra cs;refine⟨λw hw=>?_,h1⟩;obtain⟨e,as',ce,re⟩:=h2 w hw;rw[joB re ce];exact SeqAt.eqAt_reads _ _ A s _ _ _ _ re rb ce c (YaV (YcS (Yai (Nat.min_le_right _ _) hp) _) hu)
def jnP   (hr:Room k X.A):OpR X (YaN .In) (rInD X false):=by
 intro pins s σ H x y v u Q I rx ry h;obtain⟨p,vs,d,ds,rfl,hq,hd,hv,c,hp,cs,q⟩:=h;cases ry;rcases hq with hq|hq
 ·obtain⟨its,r,pl,hz⟩:=I.list hq;obtain⟨h1,h2⟩:=jgO (A:=X.A.in1) (by have:=hr.un;lia) I rx hd c hp r hv cs
  refine Ygm (eD s.heap d) pl.isList (λw hw=>h1 w (by simp_all)) ⟨.bl _,H,I,rfl,?_⟩
  rw[show its.toArray.any (eD s.heap d)=its.any (eD s.heap d) by simp,h2]
  exact q
 ·obtain⟨its,r,pl,hz⟩:=I.tuple hq;obtain⟨h1,h2⟩:=jgO (A:=X.A.in1) (by have:=hr.un;lia) I rx hd c hp r hv cs
  refine Yf4 (eD s.heap d) pl (λw hw=>h1 w (by simp_all)) ⟨.bl _,H,I,rfl,?_⟩
  rw[show its.toArray.any (eD s.heap d)=its.any (eD s.heap d) by simp,h2]
  exact q
def jh0   (hr:Room k X.A):OpR X (YaN .NotIn) (rInD X true):=by
 intro pins s σ H x y v u Q I rx ry h;obtain⟨p,vs,d,ds,rfl,hq,hd,hv,c,hp,cs,q⟩:=h;cases ry;rcases hq with hq|hq
 ·obtain⟨its,r,pl,hz⟩:=I.list hq;obtain⟨h1,h2⟩:=jgO (A:=X.A.in1) (by have:=hr.un;lia) I rx hd c hp r hv cs
  refine YfC (eD s.heap d) pl.isList (λw hw=>h1 w (by simp_all)) ⟨.bl _,H,I,rfl,?_⟩
  rw[show its.toArray.any (eD s.heap d)=its.any (eD s.heap d) by simp,h2]
  exact q
 ·obtain⟨its,r,pl,hz⟩:=I.tuple hq;obtain⟨h1,h2⟩:=jgO (A:=X.A.in1) (by have:=hr.un;lia) I rx hd c hp r hv cs
  refine Yfq (eD s.heap d) pl (λw hw=>h1 w (by simp_all)) ⟨.bl _,H,I,rfl,?_⟩
  rw[show its.toArray.any (eD s.heap d)=its.any (eD s.heap d) by simp,h2]
  exact q
end

end L2

namespace L2
open PySem PySem.Spec PyProof.Rows




end L2

namespace L2
open PySem PySem.Spec PyProof.Rows PySem.SeqAt PySem.MeetsSeq
def jbK   l es (n:Nat) dd sl b u :
  Meets (Builtin.«dict.__eq__» ⟨[.ref l,.str b u],[]⟩) (λ_ R s=>s.heap.get? l=some { cls:=.type "dict",dict:=dd,data:=.dict es n,slots:=sl }/\R (.ok (.ret .notImplemented)) s):=
 .of_wp λprog w A R s h=>by obtain⟨hp,g,d,tk,os⟩:=s;obtain⟨hl,h⟩:=h;have f1:=F.sub_str_dict;wp_walk using wpAny_loadPart' hl;exact⟨_,rfl,h⟩
def jbJ   b u l es (n:Nat) dd sl :
  Meets (Builtin.«str.__eq__» ⟨[.str b u,.ref l],[]⟩) (λ_ R s=>s.heap.get? l=some { cls:=.type "dict",dict:=dd,data:=.dict es n,slots:=sl }/\R (.ok (.ret .notImplemented)) s):=
 .of_wp λprog w A R s h=>by obtain⟨hp,g,d,tk,os⟩:=s;obtain⟨hl,h⟩:=h;wp_walk using wpAny_loadPart' hl,wpAny_load hl;exact⟨_,rfl,h⟩

def jfL         b u (ho:s.heap.get? l=some o)(hc:o.cls=.type "dict")(hd:o.data=.dict es n)(hu:A.units<cLine):RcAt A s (.ref l) (.str b u) false:=λprog w E Q h=>by
 obtain⟨cls,dd,data,sl⟩:=o;simp only at hc hd;subst hc hd;exact rc_eq_decline_or (k:=false) ⟨_,ho,rfl⟩ (Ycy s b u) (by decide) F.sub_str_dict F.slot_dict_eq F.slot_str_eq_refl
  (λ_ hq=>Ybv F.slot_dict_eq ⟨_,ho,rfl⟩ F.entry_dict_eq (F.args_dict_eq_2 _ _) (jbK l es n dd sl b u) ⟨ho,hq⟩)
  (λ_ hq=>Ybv F.slot_str_eq_refl (Ycy s b u) F.entry_str_eq (F.args_str_eq_2 _ _) (jbJ b u l es n dd sl) ⟨ho,hq⟩)
  (λ_ hq=>wpAny_of_eq (rfl:isSame (.ref l) (.str b u)=pure false) hq) (.inr hu) h
def jjx  : R2:=λx y H Q=>∃a z kvs,x=.ref a/\y=.str z/\H a=some (.dK kvs)/\Q (.bl false) H
def jel   (hr:Room k X.A):OpR X (YaN .Eq) jjx:=by
 intro pins s σ H x y v u Q I rx ry h;obtain⟨a,z,kvs,rfl,rfl,ha,q⟩:=h;cases rx;obtain⟨t,rfl⟩:=ry;obtain⟨_,_,vs,_,o,es,ep,ho,hx,hd,_⟩:kvs.length<=Yaf/\(a==Ya8)=false/\∃vs,KV kvs vs/\s.heap.DictOf (jam X.prog X.w) a vs:=I.hok a _ ha;exact jfL z t ho hx.1 hd (by have:=hr.un;lia) X.prog X.w X.xe _ ⟨.bl false,H,I,rfl,q⟩
def rSlS  : V->Option Int->Option Int->Hp->VK->Prop:=λx lo hi H Q=>∃z,x=.str z/\z.length<=Yaf/\Q (.str (YcR z lo hi)) H

def jm0  : SlR X rSlS:=by
 intro pins s σ H x v vl vu lo hi sl Q I rx hs pl pu h;obtain⟨z,rfl,hz,q⟩:=h;obtain⟨t,rfl⟩:=rx;refine⟨"str",_,F.slot_str_getitem.lookup,Ycy _ _ _,?_⟩;obtain⟨o,ho,hc,hd⟩:=hs;have fin:∀t' k,EP X pins σ Q (.str (YcR z lo hi) t') { s with toks:=k }:=λt' k=>⟨.str _,H,I.tok _,⟨_,rfl⟩,q⟩
 cases pl with
 |none=>
  cases pu with
  |none=>exact YbV (l:=none) (u:=none) (st:=none) ⟨o,ho,hc,hd⟩ rfl (Yc4 ⟨Yai (Yc1 z _ _) hz,fin⟩)
  |int j uj=>exact YbV (l:=none) (u:=some (j,uj)) (st:=none) ⟨o,ho,hc,hd⟩ rfl (Yc4 ⟨Yai (Yc1 z _ _) hz,fin⟩)
 |int i ui=>
  cases pu with
  |none=>exact YbV (l:=some (i,ui)) (u:=none) (st:=none) ⟨o,ho,hc,hd⟩ rfl (Yc4 ⟨Yai (Yc1 z _ _) hz,fin⟩)
  |int j uj=>exact YbV (l:=some (i,ui)) (u:=some (j,uj)) (st:=none) ⟨o,ho,hc,hd⟩ rfl (Yc4 ⟨Yai (Yc1 z _ _) hz,fin⟩)
def jlP  : OpR X (Ybg .Add) (λx y H Q=>∃b j,x=.bl b/\y=.int j/\Q (.int ((if b=true then (1:Int) else 0)+j)) H):=by
 intro pins s σ H x y v u Q I rx ry h;obtain⟨b,j,rfl,rfl,q⟩:=h;cases rx;obtain⟨t,rfl⟩:=ry;exact PySem.IntBool.add_bool_int ⟨.int _,H,I.tok _,⟨_,rfl⟩,q⟩
def jlJ  : OpR X (Ybg .Sub) (λx y H Q=>(∃b j,x=.bl b/\y=.int j/\Q (.int ((if b=true then (1:Int) else 0)-j)) H)\/∃i b,x=.int i/\y=.bl b/\Q (.int (i-if b=true then (1:Int) else 0)) H):=by
 intro pins s σ H x y v u Q I rx ry h;rcases h with⟨b,j,rfl,rfl,q⟩|⟨i,b,rfl,rfl,q⟩
 ·cases rx;obtain⟨t,rfl⟩:=ry;exact PySem.IntBool.sub_bool_int ⟨.int _,H,I.tok _,⟨_,rfl⟩,q⟩
 ·cases ry;obtain⟨t,rfl⟩:=rx;exact PySem.IntBool.sub_int_bool ⟨.int _,H,I.tok _,⟨_,rfl⟩,q⟩
def jfG         (h:Q (.str (if b then "True" else "False") s.toks) { s with toks:=s.toks+1 }):wpAny (model prog w) A (call (.type "str") [.bool b]) Q E s:=
 callType_new F.called_str (by decide) (F.typeCall_str_1 _) (F.newCall_str_1 _) (λobj=>Yge obj _) F.entry_str_new
  (meets_str_new (S:=λ_ R s=>R (.ok (.ret (.str (if b then "True" else "False") s.toks))) { s with toks:=s.toks+1 }) λ_ _ _ _ s hq=>
   wpAny_strOf_gives rfl (PySem.typeIs_bool s b) F.slot_bool_str F.slot_bool_repr F.entry_bool_repr (F.args_bool_repr_1 _) (gives_bool_repr b) hq (hsz:=by cases b<;>decide)) ⟨Ycy _ _ _,h⟩
def ji2  : jaU X (.type "str") (λxs H Q=>∃b,xs=[.bl b]/\Q (.str (if b=true then "True" else "False")) H):=by
 intro pins s σ H xs us Q I r h;obtain⟨b,rfl,q⟩:=h;obtain⟨u,rfl,r1⟩:=jcc r;cases r1;exact jfG ⟨.str _,H,I.tok _,⟨_,rfl⟩,q⟩
def jlp  (K:Yab):R2:=λx y H Q=>∃a z xs,x=.ref a/\y=.str z/\(SqT K H a xs\/SqL K H a xs)/\Q (.bl false) H
def jeY   (hr:Room k X.A):OpR X (YaN .Eq) (jlp X.K):=by
 intro pins s σ H x y v u Q I rx ry h;obtain⟨a,z,xs,rfl,rfl,ha,q⟩:=h;cases rx;obtain⟨t,rfl⟩:=ry;have hu:X.A.units<cLine:=hr.units0;rcases ha with ha|ha
 ·obtain⟨its,rv,pa,_⟩:=I.tuple ha;exact SeqAt.RcAt.tuple_str z t (show s.heap.IsTuple a its.toArray from pa) hu X.prog X.w X.xe _ ⟨.bl false,H,I,rfl,q⟩
 ·obtain⟨its,rv,pa,_⟩:=I.list ha;exact SeqAt.RcAt.list_str z t pa.isList hu X.prog X.w X.xe _ ⟨.bl false,H,I,rfl,q⟩
end L2

namespace L2
open PySem PySem.Spec PyProof.Rows
open AutoSeq1 (wpAny_loadPart')


end L2

namespace L2
open PySem PySem.Spec PyProof.Rows PySem.W
structure Lies (lo:Nat)(pn:List (Addr×Obj))(H:Hp)(h:Heap)(e:Addr)(cls:Value)(dx:Option Addr):Prop where
 ob:∃oe vs,h.get? e=some oe/\oe.cls=cls/\oe.dict=dx/\oe.data=.fields vs/\
  (vs[1]?=some .none\/∃T oT ts,vs[1]?=some (.ref T)/\T≠e/\h.get? T=some oT/\oT.data=.fields ts/\ts[3]?=some .none/\H T=none/\lo<=T/\∀p∈pn,p.1≠T)
 hn:H e=none
 le:lo<=e
 pn:∀p∈pn,p.1≠e

def jbZ  {h:Heap} i x (ho:h.get? a=some o)(hd:o.data=.fields vs) :
  (∃o',(h.update a (Ycx (·.setIfInBounds i x))).get? a=some o'/\o'.cls=o.cls/\o'.dict=o.dict/\o'.data=.fields (vs.setIfInBounds i x))/\∀b,b≠a->(h.update a (Ycx (·.setIfInBounds i x))).get? b=h.get? b:=by
 have z:=Yf9 hd (·.setIfInBounds i x);refine⟨⟨_,Yb7 _ ho (Ydv z),Obj.cls_mapFields _ _,?_,z⟩,λb hb=>Ydn _ _ (Ne.symm hb)⟩;unfold Ycx
 lia
def jgS  {s: Shared} 
  (hfr:A.frames=some (env::outer)) (hl:s.heap.FunFrames base (env::outer)) (hf:env.frame=some L) (he:s.heap.get? e=some oe) (hd:oe.data=.fields vs) (hsz:1<vs.size)
  (h:∀(h':Heap) (T:Addr) (oe' oT:Obj) vs' ts ,(∀b o,b∉frs (env::outer)->b≠e->s.heap.get? b=some o->h'.get? b=some o)->(∀b o,b∈frs (env::outer)->b≠e->s.heap.get? b=some o->∃sl,h'.get? b=some { o with slots:=sl })->
   s.heap.objs.size<=T->h'.get? e=some oe'->oe'.cls=oe.cls->oe'.dict=oe.dict->oe'.data=.fields vs'->vs'[1]?=some (.ref T)->h'.get? T=some oT->oT.data=.fields ts->ts[3]?=some .none->Q () { s with heap:=h' }) :
  wpAny M A (do let a <- frameOf env;let pl <- entryPlaceOf L had;let b <- EntryCells.newEntry head a .none (rawInt L) .none pl;setField (.ref e) 1 b) (λ_ s'=>wpAny M A (Yem (.ref e) none) Q E s') E s:=by
 have out:e∉frs (env::outer):=λm=>by
  rcases hl.mem m with⟨-,o,ho,no⟩
  simp_all
 refine Yac (wpAny_frameOf_fun hfr hl hf λh1 fs=>Yac (wpAny_entryPlaceOf λpl hpl=>Yac (Ybb ?_ (hpl.sizeOk5 _ _ _ _ _))));have n3:3<([head,.ref L,.none,rawInt L,.none]++(if pl.isEmpty then Yaa 6 Ybx else pl)).toArray.size:=by
  simp_all
 generalize eot:(⟨.type "traceback",none,.fields ([head,.ref L,.none,rawInt L,.none]++(if pl.isEmpty then Yaa 6 Ybx else pl)).toArray,#[]⟩:Obj)=ot
 have dt:ot.data=.fields ([head,.ref L,.none,rawInt L,.none]++(if pl.isEmpty then Yaa 6 Ybx else pl)).toArray:=by lia
 have g1:h1.get? e=some oe:=by rw[fs.2.1 e out,he]
 have new:=Yaq h1 (Ydv dt);have ne:h1.objs.size≠e:=λz=>Ybo _ (z ▸ Yak g1);obtain⟨⟨o2,g2,c2,d2,v2⟩,r2⟩:=jbZ 1 (.ref h1.objs.size) (Yad ot g1) hd;have g2':=(r2 _ ne).trans new;obtain⟨⟨o3,g3,c3,d3,v3⟩,r3⟩:=jbZ 3 .none g2' dt;refine Yfl (Yad ot g1) hd hsz (Yac (YbW g2 v2 (Yb3 hsz) ?_));rw[if_pos (by rfl)]
 refine Yfl g2' dt n3 ?_;have keep:∀b o,b≠e->h1.get? b=some o->_:=λb o hb g=>(r3 b (YaI (Yak g))).trans ((r2 b hb).trans (Yad ot g));refine h _ h1.objs.size o2 o3 _ _ (λb o hb hbe g=>keep b o hbe (by rw[fs.2.1 b hb,g])) (λb o _ hbe g=>?_) (Yej fs.1.symm) ((r3 e (Ne.symm ne)).trans g2) c2 d2 v2 (Yb3 hsz) g3 v3 (Yb3 n3)
 rcases fs.2.2 b o g with⟨sl,q⟩
 simp_all

def Inv.left  {σ: St}{ch:List Addr}(I:Inv X pins σ H s)(hH:∀b∈ch,H b=none)(hlo:∀b∈ch,X.s₀.heap.objs.size<=b)(hd:∀b∈ch,∃o vs,s.heap.get? b=some o/\o.data=.fields vs)(hp:∀b∈ch,∀p∈X.pn++pins,p.1≠b)
  (k:∀b o,b∉frs X.stack->b∉ch->s.heap.get? b=some o->h'.get? b=some o) (sl:∀b o,b∈frs X.stack->b∉ch->s.heap.get? b=some o->∃t,h'.get? b=some { o with slots:=t }):Inv X pins σ H { s with heap:=h' }:=by
 have u:Un (frs X.stack) ch H H s.heap h':=by
  refine⟨λb o e _ hb hc=>k b o hb hc e,λb o e _ hb hc=>sl b o hb hc e,λ_ _ _ n _=>n,λb o e hc=>?_,λ_ _ e=>e,λ_ _ _ e=>e,λb ps e=>⟨#[],by rw[e];simp⟩⟩
  grind
 have tr:∀b u,H b=some u->b∉frs X.stack/\b∉ch:=λb u e=>⟨λz=>(by rw[I.stkFree b z]at e;cases e),λz=>(by simp_all)⟩
 have hok:HOk X.prog X.w H h':=λa o e=>(I.hok a o e).stay (λb v hb q=>by
  grind) (λ_ q=>q) λ_ _ q=>q
 refine I.call (g':=s.gens) (d':=s.drawn) (t':=s.toks) u hok I.bare λb hb=>⟨.inr (hlo b hb),λz=>?_,λx c e z=>?_,hp b hb⟩
 ·obtain⟨o,vs,g,d⟩:=hd b hb;obtain⟨m,⟨o',_,_,ho,r⟩,_⟩:=I.loc
  lia
 ·obtain⟨o,vs,g,d⟩:=hd b hb;obtain⟨v,o',ho,hc⟩:=I.cell x c e
  lia
def jim  {σ: St}(I:Inv X [] σ H s)(hst:X.stack=X.env::X.outer)(hf:X.env.frame=some X.env.locals)
  (l:Lies X.s₀.heap.objs.size X.pn H s.heap ea cls dx) (q:∀h',Inv X [] σ H { s with heap:=h' }->Lies X.s₀.heap.objs.size X.pn H h' ea cls dx->Q () { s with heap:=h' }):wpAny M X.A (Ygi (.ref ea) X.env) (λ_ s'=>wpAny M X.A (Yem (.ref ea) none) Q E s') E s:=by
 obtain⟨oe,vs,he,hc,hdx,hd,ht⟩:=l.ob;have hfr:X.A.frames=some (X.env::X.outer):=by rw[<- hst];exact I.ok.frames
 have hl:s.heap.FunFrames X.base (X.env::X.outer):=by rw[<- hst];exact I.stack
 have pe:∀p∈X.pn++[],p.1≠ea:=λp hp=>l.pn p (by simp_all)
 unfold Ygi;simp only[hf];rcases ht with h1|⟨T,oT,ts,h1,hTe,hT,hdT,h3,nT,lT,pT⟩
 ·refine Yac (YbW he hd h1 ?_);rw[if_neg (by decide)]
  refine jgS hfr hl hf he hd (Array.getElem?_eq_some_iff.mp h1).1 λh' T' oe' oT' vs' ts' k sl zT g1 c1 c2 c3 c4 g2 c5 c6=>?_;rw[<- hst]at k sl;have J:Inv X [] σ H { s with heap:=h' }:=I.left (ch:=[ea]) (λb hb=>by rw[List.mem_singleton.mp hb];exact l.hn) (λb hb=>by rw[List.mem_singleton.mp hb];exact l.le) (λb hb=>by simp_all) (λb hb=>by grind)
   (λb o hb hc e=>k b o hb (λz=>hc (by simp[z])) e) λb o hb hc e=>sl b o hb (λz=>hc (by simp[z])) e
  refine q h' J ⟨⟨oe',vs',g1,c1.trans hc,c2.trans hdx,c3,.inr ⟨T',oT',ts',c4,?_,g2,c5,c6,I.hok.fresh zT,Yai I.sz zT,λp hp z=>?_⟩⟩,l.hn,l.le,l.pn⟩
  ·exact λz=>absurd (Yak he) (Nat.not_lt.mpr (z ▸ zT))
  ·exact absurd (Yak (I.pin p (by simp_all)).1) (Nat.not_lt.mpr (z ▸ zT))
 ·have old:(Ybx==rawInt X.env.locals)=false:=rfl;refine Yac (YbW he hd h1 ?_);rw[if_pos (by rfl)]
  refine Yac (YbW hT hdT h3 ?_);rw[old,if_neg Yal];refine Yac (Yfl hT hdT (Array.getElem?_eq_some_iff.mp h3).1 ?_);have other:=(jbZ 3 .none hT hdT).2;have I1:Inv X [] σ H { s with heap:=s.heap.update T (Ycx (·.setIfInBounds 3 Ybx)) }:=I.left (ch:=[T]) (λb hb=>by simp_all) (λb hb=>by simp_all) (λb hb=>by simp_all) (λb hb p hp=>by grind)
   (λb o _ hc e=>(other b (by simp_all)).trans e) λb o _ hc e=>⟨o.slots,(other b (by simp_all)).trans e⟩
  have he1:=(other ea (Ne.symm hTe)).trans he;have hl1:(s.heap.update T (Ycx (·.setIfInBounds 3 Ybx))).FunFrames X.base (X.env::X.outer):=by rw[<- hst];exact I1.stack
  refine jgS (s:={ s with heap:=s.heap.update T (Ycx (·.setIfInBounds 3 Ybx)) }) hfr hl1 hf he1 hd (Array.getElem?_eq_some_iff.mp h1).1 λh' T' oe' oT' vs' ts' k sl zT g1 c1 c2 c3 c4 g2 c5 c6=>?_
  rw[<- hst]at k sl;have J:Inv X [] σ H { s with heap:=h' }:=Inv.left (s:={ s with heap:=s.heap.update T (Ycx (·.setIfInBounds 3 Ybx)) }) (ch:=[ea]) I1 (λb hb=>by rw[List.mem_singleton.mp hb];exact l.hn) (λb hb=>by rw[List.mem_singleton.mp hb];exact l.le) (λb hb=>by simp_all) (λb hb=>by grind)
   (λb o hb hc e=>k b o hb (λz=>hc (by simp[z])) e) λb o hb hc e=>sl b o hb (λz=>hc (by simp[z])) e
  refine q h' J ⟨⟨oe',vs',g1,c1.trans hc,c2.trans hdx,c3,.inr ⟨T',oT',ts',c4,?_,g2,c5,c6,I1.hok.fresh zT,Yai I1.sz zT,λp hp z=>?_⟩⟩,l.hn,l.le,l.pn⟩
  ·exact λz=>absurd (Yak he1) (Nat.not_lt.mpr (z ▸ zT))
  ·exact absurd (Yak (I1.pin p (by simp_all)).1) (Nat.not_lt.mpr (z ▸ zT))
def CX1  (P:Program)(w:World):CXT:=λouter H s E e s'=>∃(ea:Addr) (H':Hp) (cls:Value) (dx:Option Addr),e=.ref ea/\s'.os=s.os/\AllBare s'.gens/\Un (frs outer) [] H H' s.heap s'.heap/\HOk P w H' s'.heap/\Lies s.heap.objs.size [] H' s'.heap ea cls dx/\E cls dx H'

def CX1.back  {σ: St}(I:Inv X pins σ H s)(h:CX1 X.prog X.w X.stack H s E e s'):∃(ea:Addr) (H':Hp) (cls:Value) (dx:Option Addr),e=.ref ea/\Inv X pins σ H' s'/\Lies X.s₀.heap.objs.size X.pn H' s'.heap ea cls dx/\E cls dx H':=by
 obtain⟨ea,H',cls,dx,rfl,os,bare,un,hok,l,q⟩:=h;have pn:∀b,s.heap.objs.size<=b->∀p∈X.pn,p.1≠b:=λb hb p hp z=>absurd (Yak (I.pin p (Ybm _ hp)).1) (Nat.not_lt.mpr (z ▸ hb));refine⟨ea,H',cls,dx,rfl,I.call' (ch:=[]) os un hok bare (λb z=>absurd z (by simp)),⟨?_,l.hn,Yai I.sz l.le,pn ea l.le⟩,q⟩
 obtain⟨oe,vs,he,hc,hdx,hd,ht⟩:=l.ob;refine⟨oe,vs,he,hc,hdx,hd,ht.imp id ?_⟩;rintro⟨T,oT,ts,h1,h2,h3,h4,h5,h6,h7,_⟩;exact⟨T,oT,ts,h1,h2,h3,h4,h5,h6,Yai I.sz h7,pn T h7⟩
end L2

namespace L2
open PySem PySem.Spec PyProof.Rows PySem.W
open Builtin Builtin.ObjectAttr
section
variable {M:Model}{A:Around}{E:Value->Shared->Prop}{h:Heap}{g:Array GenState}{d:Drawn}{t:Nat}{os:OsState}
variable {nm q:Str}{C N D:Addr}{bs bmB:List Value}{hdct:Bool}{sn:List Str}{sub:List Value}{ab:Bool}{col:Option Bool}{dd:Option Addr}{k0 k1 k2 k3 k5:Option Value}{B newId:String}{mN mD:Str->Option Value}{name:Str}
structure Two (h:Heap)(C N D:Addr)(mN mD:Str->Option Value)(bmB:List Value)(newId:String):Prop where
 cls:∃nm q bs sn sub ab col dd k0 k1 k2 k3 k5,h.get? C=some (Yc6 nm q C N bs (.ref D::bmB) true sn sub ab col dd k0 k1 k2 k3 k5 newId)
 ns:h.Ns N mN
 low:∃c0 dd cd sl,h.get? D=some { cls:=c0,dict:=dd,data:=.cls cd,slots:=sl }/\h.Ns cd.ns mD
def Two.keeps  {h':Heap}(T:Two h C N D mN mD bmB newId)(k:∀b o,h.get? b=some o->h'.get? b=some o):Two h' C N D mN mD bmB newId:=by
 obtain⟨⟨nm,q,bs,sn,sub,ab,col,dd,k0,k1,k2,k3,k5,e⟩,n,c0,dd',cd,sl,e2,n2⟩:=T;exact⟨⟨nm,q,bs,sn,sub,ab,col,dd,k0,k1,k2,k3,k5,k _ _ e⟩,n.keeps k,c0,dd',cd,sl,k _ _ e2,n2.keeps k⟩
def Two.look    (T:Two h C N D mN mD bmB newId)(hB:YaY (.type B) name=pure y)(hm:mroOf (.type B)=pure bmB)(hN:mN name=none)(hD:mD name=none)(hq:Q y ⟨h,g,d,t,os⟩) :
  wpAny M A (YaY (.ref C) name) Q E ⟨h,g,d,t,os⟩:=by
 obtain⟨⟨nm,q,bs,sn,sub,ab,col,dd,k0,k1,k2,k3,k5,e⟩,n,c0,dd',cd,sl,e2,n2⟩:=T;have hr:lookupAlong bmB name=pure y:=by rw[YfO,hm]at hB;exact hB
 rw[YfO];refine Yac (Yfb e ?_);rw[YeX];refine Yac (wpAny_classOwn_exc e n ?_);rw[hN];show wpAny M A (lookupAlong (.ref D::bmB) name) Q E _;rw[YeX];refine Yac (wpAny_classOwn_cls e2 n2 ?_);rw[hD];show wpAny M A (lookupAlong bmB name) Q E _;rw[hr];exact Yaj hq
def Two.own    (T:Two h C N D mN mD bmB newId)(hN:mN name=some v)(hq:Q (some v) ⟨h,g,d,t,os⟩):wpAny M A (YaY (.ref C) name) Q E ⟨h,g,d,t,os⟩:=by
 obtain⟨⟨nm,q,bs,sn,sub,ab,col,dd,k0,k1,k2,k3,k5,e⟩,n,_⟩:=T;rw[YfO];refine Yac (Yfb e ?_);rw[YeX];refine Yac (wpAny_classOwn_exc e n ?_);rw[hN];exact Yaj hq
end
section
variable {prog:Program}{w:World}{A:Around}{E:Value->Shared->Prop}{h:Heap}{g:Array GenState}{d:Drawn}{t:Nat}{os:OsState}
variable {C N D x:Addr}{bmB:List Value}{B newId sa owner:String}{mN mD mA:Str->Option Value}{name:Str}{v:Value}
def Two.check      (T:Two h C N D mN mD bmB newId)(SF:Ydr B bmB sa owner)(hx:h.get? x=some o)(hc:o.cls=.ref C)(hq:Q () ⟨h,g,d,t,os⟩) :
  wpAny M A (Ydx sa ⟨[.ref x,nameV,v],[]⟩) Q E ⟨h,g,d,t,os⟩:=by
 obtain⟨⟨nm,q,bs,sn,sub,ab,col,dd,k0,k1,k2,k3,k5,e⟩,_⟩:=T;have hb:(YaQ C::.ref D::bmB).contains (.type owner)=true:=by rw[YbD,YbD,SF.hasOwner,YcH,YcH]
 have fin:wpAny M A (match Ye5 sa with|some sig=>Bind.checkArgs sa sig ⟨[.ref x,nameV,v],[]⟩|_=>pure ()) Q E ⟨h,g,d,t,os⟩:=by
  have ok:=SF.args (.ref x) nameV v;unfold argsOk at ok;generalize Ye5 sa=z at ok ⊢;cases z with
  |some sig=>exact wpAny_of_eq ok hq
  |none=>exact Yaj hq
 unfold Ydx;rw[SF.kind,SF.split];refine Yac (m:=YfA _ _) ?_;unfold YfA
 repeat (first|(with_reducible refine Yau hx ?_;rw[hc])|(with_reducible refine YbU e ?_;rw[hb])|wp_step)
 exact fin
def Two.tail  (T:Two h C N D mN mD bmB newId)(hD:mD "__init__" = none):OwnTail h bmB (.ref D::bmB):=by
 obtain⟨_,_,c0,dd',cd,sl,e2,n2⟩:=T;exact .own e2 n2 hD .base
def Two.made   {rest:List Value}{Q:Fin->Shared->Prop}(T:Two h C N D mN mD bmB newId)(F:YeU B newId initId bmB)(hD:mD "__init__" = none)(hi:mN "__init__" = some (.ref fI))(hfI:h.get? fI=some oI)(hfc:oI.cls=.type "function")(hr:rest.length<=Yaf)
  (hq:∀h' e,Heap.MadeExcOf h h' e (.ref C) rest->h.objs.size<=e->wpAny (model prog w) A (call (.ref fI) (.ref e::rest)) (λr s'=>r=.none/\Q (.done (.ret (.ref e))) s') E ⟨h',g,d,t,os⟩) :
  wpAny (model prog w) A (Builtin.«type.__call__» ⟨.ref C::rest,[]⟩) Q E ⟨h,g,d,t,os⟩:=by
 have tl:=T.tail hD;obtain⟨nm,q,bs,sn,sub,ab,col,dd,k0,k1,k2,k3,k5,e⟩:=T.cls
 repeat (first|with_reducible refine Yau e ?_|with_reducible refine wpAny_madeBy_exc e ?_|wp_step)
 refine codeAny_call_builtin_code (Yf1 _ F.quiet) (wpAny_check_new_subT F tl e (codeAny_exc_new_subT F tl e ?_ hr));show wpAny _ _ _ _ _ _;generalize hh:(h.push { cls:=.type "tuple",data:=.seq rest.toArray }).push { cls:=.ref C,data:=.fields #[.ref h.objs.size,.none,.none,.none,.bool false,.none] }=h1;have k:∀b o,h.get? b=some o->h1.get? b=some o:=λb o z=>by rw[<- hh];exact Yad _ (Yad _ z)
 have T1:=T.keeps k;have g1:h1.get? (h.objs.size+1)=some { cls:=.ref C,data:=.fields #[.ref h.objs.size,.none,.none,.none,.bool false,.none] }:=by rw[<- hh];heap_get
 have g2:h1.get? h.objs.size=some { cls:=.type "tuple",data:=.seq rest.toArray }:=by rw[<- hh];exact Yad _ (Ygd rfl rfl)
 have hc:(YaQ C::.ref D::bmB).contains (.ref C)=true:=by simp
 have e1:=k _ _ e;unfold YfA
 repeat (first|with_reducible refine Yau g1 ?_|(with_reducible refine YbU e1 ?_;rw[hc])|wp_step)
 show wpAny _ _ (YaY (.ref C) _) _ _ _;refine T1.own hi ?_;refine Ybe (Yac ?_);unfold bindSpecial;refine Yac (YdL (T := "function") ⟨_,k _ _ hfI,hfc⟩ ?_);rw[if_pos (by decide)]
 refine Yaj (Yac (YaO (hq _ (h.objs.size+1) ⟨k,YdA (YdS _),h.objs.size,g1,YdA (Yag _),g2⟩ (YdS _)) (λr s' z=>?_) λ_ _ z=>z));obtain⟨rfl,z⟩:=z
 wp_walk
 exact z
def Two.make   {rest:List Value}{Q:Value->Shared->Prop}(T:Two h C N D mN mD bmB newId)(F:YeU B newId initId bmB)(hD:mD "__init__" = none)(hi:mN "__init__" = some (.ref fI))(hfI:h.get? fI=some oI)(hfc:oI.cls=.type "function")(hr:rest.length<=Yaf)
  (hq:∀h' e,Heap.MadeExcOf h h' e (.ref C) rest->h.objs.size<=e->wpAny (model prog w) (A.under (.builtin "type.__call__" ⟨.ref C::rest,[]⟩)) (call (.ref fI) (.ref e::rest)) (λr s'=>r=.none/\Q (.ref e) s') E ⟨h',g,d,t,os⟩) :
  wpAny (model prog w) A (call (.ref C) rest) Q E ⟨h,g,d,t,os⟩:=by
 obtain⟨nm,q,bs,sn,sub,ab,col,dd,k0,k1,k2,k3,k5,e⟩:=T.cls;have f1:=tc_lookup;have f2:=tc_bind (.ref C);have ty:(⟨h,g,d,t,os⟩:Shared).TypeIs (.ref C) "type" := ⟨_,e,rfl⟩;refine YdV (codeAny_of_tree ?_);show wpAny _ _ (callAny (.ref C) _) _ _ _
 repeat (any_goals (first|assumption|with_reducible refine Yau e ?_|wp_step))
 refine⟨rfl,codeAny_call_builtin_at (Yf1 _ (by decide +kernel)) entry_typeCall (wpAny_check_type_call_sub e (T.made (hr:=hr) F hD hi hfI hfc λh' e' hm hz=>?_))⟩
 exact hq h' e' hm hz
structure Reads (B:String)(bmB:List Value):Prop where
 ga:Slot B "__getattribute__" "BaseException.__getattribute__"
 mro:mroOf (.type B)=pure bmB
 no:YaY (.type B) "__getattr__" = pure none
 has:bmB.contains (.type "BaseException")=true
def Two.gaCheck      (T:Two h C N D mN mD bmB newId)(R:Reads B bmB)(hx:h.get? x=some o)(hc:o.cls=.ref C)(hq:Q () ⟨h,g,d,t,os⟩) :
  wpAny M A (Ydx "BaseException.__getattribute__" ⟨[.ref x,nameV],[]⟩) Q E ⟨h,g,d,t,os⟩:=by
 obtain⟨nm,q,bs,sn,sub,ab,col,dd,k0,k1,k2,k3,k5,e⟩:=T.cls;have c1:builtinKind "BaseException.__getattribute__" = some .slot:=by decide +kernel
 have c2:splitId "BaseException.__getattribute__" = some ("BaseException", "__getattribute__"):=by decide +kernel
 have hb:(YaQ C::.ref D::bmB).contains (.type "BaseException")=true:=by rw[YbD,YbD,R.has,YcH,YcH]
 have ha:=F.args_bexc_ga (.ref x) nameV;simp only[Ydx,c1,c2];refine Yac ?_;unfold YfA
 repeat (first|(with_reducible refine Yau hx ?_;rw[hc])|(with_reducible refine YbU e ?_;rw[hb])|wp_step)
 exact hq
def Two.gaEntry      (T:Two h C N D mN mD bmB newId)(R:Reads B bmB)(hx:h.get? x=some o)(hc:o.cls=.ref C)(hnc:∀c,o.data≠.cls c)(hd:o.dict=some dx)(hns:h.Ns dx mA)(hv:mA name=some v)
  (hB:YaY (.type B) name=pure none) (n1:mN name=none) (n2:mD name=none) (hq:Q (.done (.ret v)) ⟨h,g,d,t,os⟩) :
  wpAny (model prog w) A (Builtin.«object.__getattribute__» ⟨[.ref x,.str name tk],[]⟩) Q E ⟨h,g,d,t,os⟩:=by
 obtain⟨nm,q,bs,sn,sub,ab,col,dd,k0,k1,k2,k3,k5,e⟩:=T.cls;unfold Builtin.«object.__getattribute__»
 repeat (first|(with_reducible refine Yau hx ?_;rw[hc])|(with_reducible refine T.look hB R.mro n1 n2 ?_)|wp_step)
 split
 ·rename_i c z;exact absurd z (hnc c)
 unfold instanceDict
 repeat (first|(with_reducible refine Yau hx ?_;rw[hc])|with_reducible refine Yau e ?_|wp_step)
 rw[hd]
 repeat (first|(with_reducible refine wpAny_nsGet hns ?_;rw[hv])|wp_step)
 exact hq
def Two.get      (T:Two h C N D mN mD bmB newId)(R:Reads B bmB)(hx:h.get? x=some o)(hc:o.cls=.ref C)(hnc:∀c,o.data≠.cls c)(hd:o.dict=some dx)(hns:h.Ns dx mA)(hv:mA name=some v)(hh:handedOut v=pure v)
  (hB:YaY (.type B) name=pure none) (g1:mN "__getattribute__" = none) (g2:mD "__getattribute__" = none) (a1:mN "__getattr__" = none) (a2:mD "__getattr__" = none) (n1:mN name=none) (n2:mD name=none) (hq:Q v ⟨h,g,d,t+1,os⟩) :
  wpAny (model prog w) A (getAttr (.ref x) name expr) Q E ⟨h,g,d,t,os⟩:=by
 have f3:=R.ga.bind (.ref x);have c0:(expr&&onTheHeap (Yde "BaseException.__getattribute__"))=false:=by cases expr<;>rfl
 have c2:(Yde "BaseException.__getattribute__" == Yde "object.__getattribute__")=false:=by decide +kernel
 have c1:(onTheHeap (YaQ C)&&Yde "BaseException.__getattribute__" == Yde "object.__getattribute__")=false:=by rw[c2];rfl
 unfold getAttr
 repeat (any_goals (first|assumption|(with_reducible refine Yau hx ?_;rw[hc])|(with_reducible refine T.look R.ga.lookup R.mro g1 g2 ?_)|(with_reducible refine T.look R.no R.mro a1 a2 ?_)|wp_step))
 refine YcU R.ga.plain F.entry_bexc_ga (T.gaCheck R hx hc (T.gaEntry R hx hc hnc hd hns hv hB n1 n2 ?_))
 repeat (any_goals (first|assumption|wp_step))
 all_goals first|exact hq|(rw[hh];exact Yaj hq)|skip
def jfg {M:Model}{s:Shared}{dx:Addr}{tk:Tok}{mB:Str->Option Value}{ns:List Str}{Q:Fin->Shared->Prop}(n1:s.heap.Ns1 dx mB)(hw:Within mB ns)(hl:ns.length<Yaf)
  (hq:∀h' tk',h'.Ns1 dx (λy=>if y=name then some v else mB y)->YcZ dx s.heap h'->Q (.done (.ret .none)) { s with heap:=h',toks:=tk' }) :
  wpAny M A (storeInDict dx (.str name tk) name v) Q E s:=by
 refine Yac (m:=newKeyGuard _ _ _) (Yaj (Yac (wpAny_nsSet1 n1 λh' n2 sb=>?_)));rcases n2.count (Within.cons name v hw)with⟨o,es,ep,ho,hd,le⟩;have room:es.size<=Yaf:=Yai le (by rw[Ybd];exact hl)
 refine Yac (wpAny_lookBehind ho (hd ▸ pastItsLine_dict (Nat.le_succ_of_le room)) ?_);exact Yaj (hq h' _ n2 sb)
def Two.put     {ns:List Str}(T:Two h C N D mN mD bmB newId)(SF:Ydr B bmB sa owner)(n1:mN name=none)(n2:mD name=none)(hB:YaY (.type B) name=pure none)(hx:h.get? x=some o)(hc:o.cls=.ref C)(hnc:∀c,o.data≠.cls c)
  (hd:(o.dict=none/\∀n,mA n=none)\/∃dx,o.dict=some dx/\dx≠x/\h.Ns1 dx mA) (hw:Within mA ns) (hl:ns.length<Yaf)
  (hq:∀h' tk' dx,(o.dict=some dx\/(o.dict=none/\dx=h.objs.size))->dx≠x->h'.get? x=some { o with dict:=some dx }->h'.Ns1 dx (λy=>if y=name then some v else mA y)->(∀b u,b≠x->b≠dx->h.get? b=some u->h'.get? b=some u)->Q (.done (.ret .none)) ⟨h',g,d,tk',os⟩) :
  wpAny (model prog w) A (Builtin.«object.__setattr__» ⟨[.ref x,.str name tk,v],[]⟩) Q E ⟨h,g,d,t,os⟩:=by
 obtain⟨nm,q,bs,sn,sub,ab,col,dd,k0,k1,k2,k3,k5,e⟩:=T.cls;have ps:=SF.passes (.ref x);unfold Builtin.«object.__setattr__»
 repeat (first|rw[refuse_eq]|(rw[refuseLoop_ref,refuseLoop_ref,ps])|(with_reducible refine Yau hx ?_;rw[hc])|with_reducible refine Yfb e ?_|(with_reducible refine T.look hB SF.mro n1 n2 ?_)|with_reducible refine Yau e ?_|wp_step)
 rcases hd with⟨dn,ma⟩|⟨dx,de,dne,dns⟩
 ·rw[dn,if_neg (by simp[typeHasDict])]
  split
  ·rename_i z;cases z
  split
  ·rename_i c z;exact absurd z (hnc c)
  ·have xs:x≠h.objs.size:=YaI (Yak hx);have x1:=Yad { cls:=.type "dict",data:=.dict #[] } hx;refine Yac (wpAny_alloc' (Yac (wpAny_update' x1 (Yaj ?_))));have fr:({ cls:=o.cls,dict:=some h.objs.size,data:=o.data,slots:=o.slots }:Obj).isFreed=false:=by
    have:=(Heap.get?_some_iff.mp hx).2;obtain⟨c1,c2,c3,c4⟩:=o;cases c3<;>first|rfl|exact this
   have x2:=Yb7 (λo=>({ cls:=o.cls,dict:=some h.objs.size,data:=o.data,slots:=o.slots }:Obj)) x1 fr;have d2:((h.push { cls:=.type "dict",data:=.dict #[] }).update x λo=>{ cls:=o.cls,dict:=some h.objs.size,data:=o.data,slots:=o.slots }).get? h.objs.size=some { cls:=.type "dict",data:=.dict #[] }:=(YfM _ _ _ _ xs.symm).trans (Ygd rfl rfl);have k2:∀b u,b≠x->h.get? b=some u->((h.push { cls:=.type "dict",data:=.dict #[] }).update x λo=>{ cls:=o.cls,dict:=some h.objs.size,data:=o.data,slots:=o.slots }).get? b=some u:=λb u z e=>(YfM _ _ _ _ z).trans (Yad _ e);generalize ((h.push { cls:=.type "dict",data:=.dict #[] }).update x λo=>{ cls:=o.cls,dict:=some h.objs.size,data:=o.data,slots:=o.slots })=h2 at x2 d2 k2 ⊢;have nd:h2.Ns h.objs.size (λ_=>none):=⟨_,#[],_,d2,rfl,λe he=>absurd he (by simp),λ_=>rfl⟩
   refine jfg (Heap.Ns1.of_empty nd) Within.nil (Nat.zero_lt_of_lt hl) λh' tk' hn' hs=>?_;refine hq h' tk' h.objs.size (.inr ⟨dn,rfl⟩) xs.symm ((hs.2 x xs).trans x2) ?_ λb u z1 z2 z=>(hs.2 b z2).trans (k2 b u z1 z);obtain⟨o',es,ep,e1,e2,e3,eu,e4⟩:=hn';exact⟨o',es,ep,e1,e2,e3,eu,λy=>by rw[e4 y];by_cases hy:y=name<;>simp[hy,ma]⟩
 ·rw[de];refine Yaj (jfg dns hw hl λh' tk' hn' hs=>?_);refine hq h' tk' dx (.inl de) dne ?_ hn' λb u z1 z2 z=>(hs.2 b z2).trans z;rw[hs.2 x dne.symm,hx,<- de]
def Two.set    {ns:List Str}(T:Two h C N D mN mD bmB newId)(SF:Ydr B bmB sa owner)(s1:mN "__setattr__" = none)(s2:mD "__setattr__" = none)(n1:mN name=none)(n2:mD name=none)(hB:YaY (.type B) name=pure none)(hx:h.get? x=some o)(hc:o.cls=.ref C)(hnc:∀c,o.data≠.cls c)
  (hd:(o.dict=none/\∀n,mA n=none)\/∃dx,o.dict=some dx/\dx≠x/\h.Ns1 dx mA) (hw:Within mA ns) (hl:ns.length<Yaf)
  (hq:∀h' tk' dx,(o.dict=some dx\/(o.dict=none/\dx=h.objs.size))->dx≠x->h'.get? x=some { o with dict:=some dx }->h'.Ns1 dx (λy=>if y=name then some v else mA y)->(∀b u,b≠x->b≠dx->h.get? b=some u->h'.get? b=some u)->Q () ⟨h',g,d,tk',os⟩) :
  wpAny (model prog w) A (setAttr (.ref x) name v) Q E ⟨h,g,d,t,os⟩:=by
 have f3:=SF.slot.bind (.ref x);unfold setAttr callSpecial? specialOf
 repeat (any_goals (first|assumption|(with_reducible refine Yau hx ?_;rw[hc])|(with_reducible refine T.look SF.slot.lookup SF.mro s1 s2 ?_)|wp_step))
 refine YcU SF.slot.plain SF.entry (T.check SF hx hc (T.put SF n1 n2 hB hx hc hnc hd hw hl λh' tk' dx z1 z2 z3 z4 z5=>?_))
 repeat (any_goals (first|assumption|wp_step))
 exact hq h' tk' dx z1 z2 z3 z4 z5
end
def jbn  : Reads "ValueError" [.type "ValueError",.type "Exception",.type "BaseException",.type "object"] where
 ga:=.of (owner := "BaseException") (n := "__getattribute__") (by rw[YcD,YbI];kernel_rfl) (by decide +kernel) (by decide +kernel) (by decide +kernel)
  (by first|exact .inl (by decide +kernel)|exact .inr (by decide +kernel)) (by rw[isSubtype_type];kernel_rfl)
 mro:=by kernel_rfl
 no:=by rw[YcD,YbI];kernel_rfl
 has:=by decide

def Inv.sooner  {σ: St}(I:Inv X pins σ H s)(k:∀b o,sb.heap.get? b=some o->X.s₀.heap.get? b=some o)(ho:sb.os=X.s₀.os)(hz:sb.heap.objs.size<=X.s₀.heap.objs.size)(hb:∀b o,X.base.get? b=some o->sb.heap.get? b=some o/\X.H₀ b=none)(hbz:X.base.objs.size<=sb.heap.objs.size)(hf:sb.heap.FunFrames X.base X.outer) :
  Inv { X with s₀:=sb } pins σ H s:=by
 refine⟨⟨I.ok.mod,I.ok.kind,I.ok.glob,I.ok.blt,Yai hz I.ok.above,I.ok.inj,I.ok.has,λx c h e=>Yai hz (I.ok.cab x c h e),I.ok.hd,I.ok.frames,I.ok.stk,I.ok.exf,hb,hbz,I.ok.noex,I.ok.exfs,hf,I.ok.frf⟩,I.os.trans ho.symm,I.bare,(Un.kept k).trans I.base,I.loc,I.cell,I.free,I.freeC,I.pin,I.hok,I.len⟩
def Inv.xput  {σ: St}{e dx:Addr}(I:Inv X pins σ H s)(hH:H e=none)(hlo:X.s₀.heap.objs.size<=e)(ge:s.heap.get? e=some oe)(gd:oe.data=.fields vs)(hp:∀p∈X.pn++pins,p.1≠e)
  (hdx:s.heap.objs.size<=dx\/∃fs0,H dx=some (.xd fs0)) (k:∀b u,b≠e->b≠dx->s.heap.get? b=some u->h'.get? b=some u) (new:jaD X.prog X.w (upd H dx (.xd fs)) h' dx (.xd fs)):Inv X pins σ (upd H dx (.xd fs)) { s with heap:=h',toks:=t' }:=by
 have nt:∀b o,s.heap.get? b=some o->H b=none->b≠dx:=λb o g n z=>by
  rcases hdx with q|⟨fs0,q⟩
  ·rw[z]at g;exact absurd (Yak g) (Nat.not_lt.mpr q)
  ·rw[z,q]at n;cases n
 have ne:∀b u,H b=some u->b≠e:=λb u g z=>by rw[z,hH]at g;cases g
 have nx:∀b u,H b=some u->(∀f0,u≠.xd f0)->b≠dx:=λb u g hu z=>by
  rcases hdx with q|⟨fs0,q⟩
  ·rw[z,I.hok.fresh q]at g;cases g
  ·rw[z,q]at g;cases g;exact hu fs0 rfl
 obtain⟨od,god⟩:∃o,h'.get? dx=some o:=by obtain⟨_,⟨o,_,_,z,_⟩,_⟩:=new;exact⟨o,z⟩
 obtain⟨m0,⟨oL,esL,epL,gL,rL⟩,hLk⟩:=id I.loc;have hLe:X.env.locals≠e:=λz=>by
  rw[z,ge]at gL;cases gL;have:=rL.1;rw[gd]at this;cases this
 refine I.step (g':=s.gens) (d':=s.drawn) (ch:=[e]) (λb hb=>?_) (λb o _ _ hc g n=>k b o (λz=>hc (by simp[z])) (nt b o g n) g) (λb o _ _ hc g n=>⟨o.slots,k b o (λz=>hc (by simp[z])) (nt b o g n) g⟩) (λb o _ g n=>by rw[jad (nt b o g n)];exact n)
  (λb o hc g=>?_) (λb ys g=>by rw[jad (nx b _ g λ_ z=>nomatch z)];exact g) (λb o u g=>by rw[jad (nx b _ g λ_ z=>nomatch z)];exact g) (λb ps g=>⟨#[],by rw[jad (nx b _ g λ_ z=>nomatch z),g];simp⟩) (λm hm=>?_) (λa o g=>?_) I.bare
 ·have z:b=e:=by simpa using hb
  subst z;refine⟨.inr hlo,Ne.symm hLe,λx c q z=>?_,hp⟩;obtain⟨v,o',ho,hc⟩:=I.cell x c q;rw[z,ge]at ho;cases ho;rw[gd]at hc;cases hc
 ·by_cases z:b=dx
  ·exact⟨od,z ▸ god⟩
  ·exact⟨o,k b o (λz=>hc (by simp[z])) z g⟩
 ·obtain⟨o,es,ep,ho,r⟩:=hm;exact⟨o,es,ep,k _ o hLe (nt _ o ho I.free) ho,r⟩
 ·by_cases z:a=dx
  ·subst z;rw[jag]at g;cases g;exact new
  ·rw[jad z]at g;refine(I.hok a o g).stay (λb v hb q=>?_) (λb q=>by rw[jad (nx b _ q λ_ z=>nomatch z)];exact q) λb ys q=>by rw[jad (nx b _ q λ_ z=>nomatch z)];exact q
   rcases hb with z'|z'
   ·subst z';exact k b v (ne b _ g) z q
   ·exact k b v (ne b _ z') (nx b _ z' λ_ z=>nomatch z) q
theorem je9   : ∀{fs:List (Str×V)},g∉fs.map (·.1)->fs.lookup g=none
 |[],_=>rfl
 |(a,v)::r,h=>by
  rw[YaX];have:(g==a)=false:=by
   rw[beq_eq_false_iff_ne];exact λz=>h (by rw[z];simp)
  rw[this];exact je9 λz=>h (by simp at z ⊢;exact .inr z)
def xset  {σ: St}(I:Inv X pins σ H s)(T:Two s.heap C N D mN mD bmB newId)(SF:Ydr B bmB sa owner)
  (s1:mN "__setattr__" = none) (s2:mD "__setattr__" = none) (n1:mN f=none) (n2:mD f=none) (hB:YaY (.type B) f=pure none) (hH:H e=none) (hlo:X.s₀.heap.objs.size<=e) (ge:s.heap.get? e=some oe) (hc:oe.cls=.ref C) (gd:oe.data=.fields vs) (hp:∀p∈X.pn++pins,p.1≠e)
  (hd:(oe.dict=none/\fs=[])\/∃dx,oe.dict=some dx/\H dx=some (.xd fs)) (hl:fs.length<1000) (ru:RelV v u)
  (q:∀s' dx,Inv X pins σ (upd H dx (.xd (putF f v fs))) s'->s'.heap.get? e=some { oe with dict:=some dx }->(∀b u,b≠e->b≠dx->s.heap.get? b=some u->s'.heap.get? b=some u)->(oe.dict=some dx\/(oe.dict=none/\H dx=none))->Q () s') :
  wpAny (model X.prog X.w) A (setAttr (.ref e) f u) Q E s:=by
 have nc:∀c,oe.data≠.cls c:=λc z=>by rw[gd]at z;cases z
 have fin:∀(mA:Str->Option Value) (h':Heap) (tk:Nat) (dx:Addr),(∀g,RelO (fs.lookup g) (mA g))->(s.heap.objs.size<=dx\/∃fs0,H dx=some (.xd fs0))->(oe.dict=some dx\/(oe.dict=none/\H dx=none))->h'.get? e=some { oe with dict:=some dx }->h'.Ns1 dx (λy=>if y=f then some u else mA y)->(∀b u,b≠e->b≠dx->s.heap.get? b=some u->h'.get? b=some u)->Q () { s with heap:=h',toks:=tk }:=λmA h' tk dx r z0 z1 z2 z3 z4=>by
  refine q _ dx (I.xput hH hlo ge gd hp z0 z4 ⟨_,z3,λg=>?_⟩) z2 z4 z1;rw[jdj];by_cases hg:g=f
  ·rw[if_pos hg,if_pos hg];exact ru
  ·rw[if_neg hg,if_neg hg];exact r g
 obtain⟨hh,gg,dr,tk,os⟩:=s;rcases hd with⟨dn,rfl⟩|⟨dx,de,hx⟩
 ·refine T.set (mA:=λ_=>none) (ns:=[]) SF s1 s2 n1 n2 hB ge hc nc (.inl ⟨dn,λ_=>rfl⟩) Within.nil (by rw[YbX];decide) λh' tk' dx z1 z2 z3 z4 z5=>?_
  rcases z1 with z1|⟨_,rfl⟩
  ·rw[dn]at z1;cases z1
  ·exact fin (λ_=>none) h' tk' _ (λg=>YbK) (.inl (Yag _)) (.inr ⟨dn,I.hok.fresh (Yag _)⟩) z3 z4 z5
 ·obtain⟨mA,n,r⟩:=(show jaD X.prog X.w H hh dx (.xd fs)from I.hok dx _ hx);refine T.set (mA:=mA) (ns:=fs.map (·.1)) SF s1 s2 n1 n2 hB ge hc nc (.inr ⟨dx,de,λz=>(by rw[z,hH]at hx;cases hx),n⟩) (λg hg=>?_) (by rw[Yae,YbX];lia) λh' tk' dx' z1 z2 z3 z4 z5=>?_
  ·refine Ybw λz=>hg ?_;have:=r g;rw[je9 z]at this;exact RelO.none_of this
  ·rcases z1 with z1|⟨z1,_⟩
   ·have z:dx'=dx:=by rw[de]at z1;exact(Yan z1).symm
    subst z;exact fin _ h' tk' _ r (.inr ⟨fs,hx⟩) (.inl de) z3 z4 z5
   ·rw[de]at z1;cases z1
def xstep  {σ: St}{C N D e:Addr}{f self a:Str}{v:V}{vs:Array Value}{i j:Nat}(I:Inv X [(e,oe)] σ H s)(hpn:X.pn=[])(T:Two X.base C N D mN mD bmB newId)(SF:Ydr B bmB sa owner)
  (s1:mN "__setattr__" = none) (s2:mD "__setattr__" = none) (n1:mN f=none) (n2:mD f=none) (hB:YaY (.type B) f=pure none) (hlo:X.s₀.heap.objs.size<=e) (hc:oe.cls=.ref C) (gd:oe.data=.fields vs) (hd:(oe.dict=none/\fs=[])\/∃dx,oe.dict=some dx/\H dx=some (.xd fs)) (hl:fs.length<1000)
  (hs:PE X (.Name self p1) (tVar i)) (ha:PE X (.Name a p3) (tVar j)) (hi:σ[i]?=some (some (.ref e))) (hj:σ[j]?=some (some v)) (hsw:Ycr (.Name a p3) (some (.Attribute (.Name self p1) f p2)) pos.line X.env=pure false)
  (q:∀s' dx,Inv X [(e,{ oe with dict:=some dx })] σ (upd H dx (.xd (putF f v fs))) s'->(oe.dict=some dx\/(oe.dict=none/\H dx=none))->Q .next s') :
  wpAny (model X.prog X.w) X.A (exec (.Assign [.Attribute (.Name self p1) f p2] (.Name a p3) pos) X.env) Q X.xe s:=by
 refine plainObj_wpAny_Assign_Attribute (thn (ha _ s σ H (λy H1=>y=v/\H1=H) I ⟨v,hj,rfl,rfl⟩) λu s3 ⟨y,H1,I1,ry,hy,hH1⟩=>?_) hsw;subst hy;subst hH1;refine thn (hs _ s3 σ H1 (λz H2=>z=.ref e/\H2=H1) I1 ⟨_,hi,rfl,rfl⟩) λov s4 ⟨z,H2,I2,rz,hz,hH2⟩=>?_;subst hz;subst hH2;obtain rfl:ov=YaQ e:=rz;obtain⟨ge,hH,hL,hfs,hcl⟩:=I2.pin (e,oe) (by simp)
 have J:Inv X [] σ H2 s4:=I2.pins_of λp hp=>absurd hp (by simp)
 refine xset J (T.keeps I2.bk) SF s1 s2 n1 n2 hB hH hlo ge hc gd (λp hp=>by rw[hpn]at hp;simp at hp) hd hl ry λs5 dx J5 g5 k5 z5=>?_
 refine q s5 dx (J5.pins_of λp hp=>?_) z5;obtain rfl:p=(e,{ oe with dict:=some dx }):=by simpa using hp
 refine⟨g5,?_,hL,hfs,λv z=>hcl v z⟩;show upd H2 dx _ e=none;rw[jad,hH];rintro rfl;rcases z5 with z5|z5
 ·rcases hd with⟨w0,_⟩|⟨dx',w1,w2⟩
  ·rw[w0]at z5;cases z5
  ·rw[w1]at z5;cases z5;rw[hH]at w2;cases w2
 ·have:=J5.free;obtain⟨_,_,_⟩:=J5.hok e _ jag;rename_i mA n r;obtain⟨o',es,ep,g',d',_⟩:=n;rw[g5]at g';cases g';rw[show({ oe with dict:=some e }:Obj).data=oe.data from rfl,gd]at d';cases d'
def jj2 {CX:CXT}{P:Program}{w:World}{K:Yab}{mg:Str->Option Value}{base:Heap}{k:Nat}{f:Addr}{name qual:Str}{params:Ygv}{body:List Stmt}{scope:Scope}{dV kV doc pm cdv ct oc:Value}{an od:Option Addr}{osl:Array (Option Value)}{N ps:List Str}
  {A:Around} {outer:List Env} {s sb:Shared} {H:Hp} {E:XK} {args:Args} {us:List Value} {vs:List V} {e:Addr} {oe:Obj} {R:Result->Shared->Prop}
  (lk:K.lookup f=some ⟨oc,od,.func (Ya7 name qual params body scope dV kV doc pm an cdv ct),osl⟩) (hcd:Ybz K cdv qual=true) (S:FnScope N ps scope) (hr:Room (k+1) A) (e0:Env0 P w K mg base A outer s H)
  (hb:BindsTo s (Ya7 name qual params body scope dV kV doc pm an cdv ct) args (ps.zip us)) (r:Vals vs us) (hl:vs.length=ps.length) (ge:s.heap.get? e=some oe) (hH:H e=none) (hnc:∀v,oe.data≠.cell v) (hfr:e∉frs outer)
  (kb:∀b o,sb.heap.get? b=some o->s.heap.get? b=some o) (hos:sb.os=s.os) (hz:sb.heap.objs.size<=s.heap.objs.size) (hbs:∀b o,base.get? b=some o->sb.heap.get? b=some o/\H b=none) (hbz:base.objs.size<=sb.heap.objs.size) (hfn:sb.heap.FunFrames base outer)
  (hbody:∀s1,Inv { cxOf CX P w K mg base N qual scope f cdv A outer s H E with s₀:=sb } [(e,oe)] (start N vs) H s1->wpAny (model P w) (A.deeper (envOfC qual scope s.heap.objs.size f cdv)) (execs body (envOfC qual scope s.heap.objs.size f cdv)) (λfl s'=>fl=.next/\R (.ok (.ret .none)) s') (λ_ _=>False) s1) :
  codeAny (model P w) A (.call (.ref f) args) R s:=by
 have KX:K.In s.heap:=e0.mod.kin.keeps λb o z=>(e0.bs b o z).1;have lim:s.heap.NoLimit:=e0.mod.nolimit.keeps λb o z=>(e0.bs b o z).1;have kind:∀y∈ps.zip us,scope.names.lookup y.1=some .local\/(scope.names.lookup y.1=some .cell/\((Ybf (s.heap.objs.size+1) scope.names []).lookup y.1).isSome=true):=λ⟨n,v⟩ hy=>by
  rcases S.par n (Yct hy).1 with q|q
  ·exact .inl q
  ·exact .inr ⟨q,Ycs _ _ _ (.inl q)⟩
 refine YdN hr.depth (KX _ _ lk) rfl S.co S.gen rfl (YdB KX hcd) (hb _ _ _ _ ?_);refine Ydd S.kind kind λenv he s1 x=>?_;subst he;refine⟨lim.keeps x.toInCall.keep,Ygl ?_⟩;have I:Inv (cxOf CX P w K mg base N qual scope f cdv A outer s H E) [] (start N vs) H s1:=jdn S hr.hd e0 hl r x;have I1:Inv { cxOf CX P w K mg base N qual scope f cdv A outer s H E with s₀:=sb } [] (start N vs) H s1:=I.sooner kb hos hz hbs hbz hfn
 have I2:Inv { cxOf CX P w K mg base N qual scope f cdv A outer s H E with s₀:=sb } [(e,oe)] (start N vs) H s1:=I1.pins_of λp hp=>by
  obtain rfl:p=(e,oe):=by simpa using hp
  exact⟨x.toInCall.keep _ _ ge,hH,YaI (Yak ge),hfr,hnc⟩
 refine YaO (hbody s1 I2) (λfl s' ⟨z,h⟩=>?_) λ_ _ z=>z.elim;subst z;exact h

def jfA  (X:Cx)(C:Addr)(s:Shared)(H:Hp)(Nm:List Str)(qual:Str)(scope:Scope)(fI:Addr)(cdv:Value)(body:List Stmt)(vs:List V)(fs:List (Str×V)):Prop:=
 ∀(A':Around) (sM s1:Shared) (e t:Addr),Inv { cxOf (CX1 X.prog X.w) X.prog X.w X.K X.mg X.base Nm qual scope fI cdv A' X.stack sM H (λ_ _ _=>False)with s₀:=s } [(e,{ cls:=.ref C,data:=.fields #[.ref t,.none,.none,.none,.bool false,.none] })] (start Nm (.ref e::vs)) H s1->s.heap.objs.size<=e->
  wpAny (model X.prog X.w) (A'.deeper (envOfC qual scope sM.heap.objs.size fI cdv)) (execs body (envOfC qual scope sM.heap.objs.size fI cdv)) (λfl s'=>fl=.next/\∃dx,H dx=none/\Inv { cxOf (CX1 X.prog X.w) X.prog X.w X.K X.mg X.base Nm qual scope fI cdv A' X.stack sM H (λ_ _ _=>False)with s₀:=s } [(e,{ cls:=.ref C,dict:=some dx,data:=.fields #[.ref t,.none,.none,.none,.bool false,.none] })] (start Nm (.ref e::vs)) (upd H dx (.xd fs)) s') (λ_ _=>False) s1
def xmake  {σ: St}{dV kV doc pm cdv ct:Value} 
  (I:Inv X pins σ H s) (T:Two X.base C N D mN mD bmB newId) (F:YeU B newId initId bmB) (hD:mD "__init__" = none) (hi:mN "__init__" = some (.ref fI)) (lk:X.K.lookup fI=some ⟨.type "function",od,.func (Ya7 name qual params body scope dV kV doc pm an cdv ct),osl⟩) (hcd:Ybz X.K cdv qual=true) (S:FnScope Nm ps scope) (hr:Room (k+2) X.A)
  (hb:Binds X.K (Ya7 name qual params body scope dV kV doc pm an cdv ct) ps []) (r:Vals vs us) (hl:vs.length+1=ps.length) (hz:us.length<=Yaf) (hbody:jfA X C s H Nm qual scope fI cdv body vs fs)
  (q:∀e dx s',H dx=none->Inv X pins σ (upd H dx (.xd fs)) s'->Lies X.s₀.heap.objs.size X.pn (upd H dx (.xd fs)) s'.heap e (.ref C) (some dx)->(∃t,s'.heap.get? e=some { cls:=.ref C,dict:=some dx,data:=.fields #[.ref t,.none,.none,.none,.bool false,.none] })->Q (.ref e) s'):wpAny (model X.prog X.w) X.A (call (.ref C) us) Q X.xe s:=by
 obtain⟨hh,gg,dr,tk,os⟩:=s;have I0:=I;refine(T.keeps I.bk).make F hD hi (I.kIn _ _ lk) rfl hz λh' e hm he=>?_;obtain⟨t,ge,_,_⟩:=hm.there;have e0:=I.env0.make C us [];have e1:Env0 X.prog X.w X.K X.mg X.base (X.A.under (.builtin "type.__call__" ⟨.ref C::us,[]⟩)) X.stack ⟨h',gg,dr,tk,os⟩ H:=⟨e0.frames,e0.mod,λb o z=>⟨hm.keeps _ _ (e0.bs b o z).1,(e0.bs b o z).2⟩,Yai e0.bsz (YbQ (YaV he (Yak ge))),e0.funs.of_keeps λb o z _=>⟨o,hm.keeps _ _ z,rfl⟩,e0.frf,e0.hok.kept hm.keeps,e0.bare⟩;have hH:H e=none:=I.hok.fresh he;refine YdV ?_;refine jj2 (k:=k) (CX:=CX1 X.prog X.w) (E:=λ_ _ _=>False) (sb:=⟨hh,gg,dr,tk,os⟩) (us:=.ref e::us) (vs:=.ref e::vs) lk hcd S (hr.make C us []) e1 ?_ (.cons rfl r) (by simpa using hl) ge hH (λv z=>by cases z) (λz=>?_) hm.keeps rfl (YbQ (YaV he (Yak ge))) e0.bs e0.bsz e0.funs λs1 J=>?_
 ·have:=hb ⟨h',gg,dr,tk,os⟩ (.ref e::us) (e1.mod.kin.keeps λb o z=>(e1.bs b o z).1) (by simp;have:=r.length;lia)
  simpa using this
 ·obtain⟨_,o,ho,_⟩:=e0.funs.mem z;exact absurd (Yak ho) (Nat.not_lt.mpr he)
 ·refine YaO (hbody _ _ s1 e t J he) (λfl s' ⟨z,dx,hdx,J'⟩=>⟨z,rfl,?_⟩) λ_ _ z=>z;have Ix:Inv X pins σ (upd H dx (.xd fs)) s':=I.call' (ch:=[]) J'.os J'.base J'.hok J'.bare λb z=>absurd z (by simp)
  obtain⟨g1,g2,_⟩:=J'.pin _ (YaD _ (List.mem_singleton.mpr rfl));refine q e dx s' hdx Ix ⟨⟨_,_,g1,rfl,rfl,rfl,.inl rfl⟩,g2,Yai I.sz he,λp hp z=>?_⟩ ⟨t,g1⟩;exact absurd (Yak (I.pin p (Ybm _ hp)).1) (Nat.not_lt.mpr (z ▸ he))

def jp1  {pos: Pos}{v: V}(T:Two X.base C N D mN mD bmB newId)(SF:Ydr B bmB sa owner)(s1:mN "__setattr__" = none)(s2:mD "__setattr__" = none)(n1:mN f=none)(n2:mD f=none)(hB:YaY (.type B) f=pure none)
  (h0:Vis scope self) (h1:Vis scope a) (d0:(self==("__debug__" : Str))=false) (d1:(a==("__debug__" : Str))=false) (c0:(self==("__classdict__" : Str))=false) (c1:(a==("__classdict__" : Str))=false)
  (sw:∀env,Ycr (.Name a p3) (some (.Attribute (.Name self p1) f p2)) pos.line env=pure false) :
  jfA X C s H [self,a] qual scope fI cdv [.Assign [.Attribute (.Name self p1) f p2] (.Name a p3) pos] [v] [(f,v)]:=by
 intro A' sM s1' e t J he;have J':=J.wish λ_ _=>False;refine Yb0 (xstep (X:=Cx.wish _ λ_ _=>False) (i:=0) (j:=1) (fs:=[]) J' rfl T SF s1 s2 n1 n2 hB he rfl rfl (.inl ⟨rfl,rfl⟩) (by decide) (jbo rfl h0 d0 c0) (jbo rfl h1 d1 c1) rfl rfl (sw _) λs' dx K z=>?_)
 refine Yaj ⟨rfl,dx,?_,K.unwish⟩;rcases z with z|z
 ·cases z
 ·exact z.2
def jp0  {a2: Str}{scope: Scope}{cdv: Value}{p1: Pos}{p2: Pos}{p3: Pos}{pos: Pos}{q1: Pos}{q2: Pos}{q3: Pos}{qos: Pos}{v: V}{v2: V}(T:Two X.base C N D mN mD bmB newId)(SF:Ydr B bmB sa owner)(s1:mN "__setattr__" = none)(s2:mD "__setattr__" = none)(n1:mN f=none)(n2:mD f=none)(hB:YaY (.type B) f=pure none)(m1:mN f2=none)(m2:mD f2=none)(hB2:YaY (.type B) f2=pure none)(hne:f≠f2)
  (h0:Vis scope self) (h1:Vis scope a) (h2:Vis scope a2) (d0:(self==("__debug__" : Str))=false) (d1:(a==("__debug__" : Str))=false) (d2:(a2==("__debug__" : Str))=false) (c0:(self==("__classdict__" : Str))=false) (c1:(a==("__classdict__" : Str))=false) (c2:(a2==("__classdict__" : Str))=false)
  (sw:∀env,Ycr (.Name a p3) (some (.Attribute (.Name self p1) f p2)) pos.line env=pure false) (sw2:∀env,Ycr (.Name a2 q3) (some (.Attribute (.Name self q1) f2 q2)) qos.line env=pure false) :
  jfA X C s H [self,a,a2] qual scope fI cdv [.Assign [.Attribute (.Name self p1) f p2] (.Name a p3) pos,.Assign [.Attribute (.Name self q1) f2 q2] (.Name a2 q3) qos] [v,v2] [(f,v),(f2,v2)]:=by
 intro A' sM s1' e t J he;have J':=J.wish λ_ _=>False;refine Yb0 (xstep (X:=Cx.wish _ λ_ _=>False) (i:=0) (j:=1) (fs:=[]) J' rfl T SF s1 s2 n1 n2 hB he rfl rfl (.inl ⟨rfl,rfl⟩) (by decide) (jbo rfl h0 d0 c0) (jbo rfl h1 d1 c1) rfl rfl (sw _) λs' dx K z=>?_)
 have hn:H dx=none:=by
  rcases z with z|z
  ·cases z
  ·exact z.2
 refine Yb0 (xstep (X:=Cx.wish _ λ_ _=>False) (i:=0) (j:=2) (fs:=[(f,v)]) K rfl T SF s1 s2 m1 m2 hB2 he rfl rfl (.inr ⟨dx,rfl,jag⟩) (by simp) (jbo rfl h0 d0 c0) (jbo rfl h2 d2 c2) rfl rfl (sw2 _) λs'' dx' K2 z2=>?_)
 have e1:dx'=dx:=by
  rcases z2 with z2|z2
  ·exact(Yan z2).symm
  ·exact nomatch z2.1
 subst e1;have K3:=K2.unwish;have e2:putF f2 v2 [(f,v)]=[(f,v),(f2,v2)]:=by show(if f=f2 then _ else _)=_;rw[if_neg hne];rfl
 have e3:upd (upd H dx' (.xd (putF f v []))) dx' (.xd (putF f2 v2 [(f,v)]))=upd H dx' (.xd [(f,v),(f2,v2)]):=by
  rw[e2];funext b;by_cases hb:b=dx'
  ·rw[hb,jag,jag]
  ·rw[jad hb,jad hb,jad hb]
 rw[e3]at K3;exact Yaj ⟨rfl,dx',hn,K3⟩
section
variable {M:Model}{A:Around}{E:Value->Shared->Prop}{env:Env}{C N D:Addr}{bmB:List Value}{newId:String}{mN mD:Str->Option Value}
def Two.raise     (hbase:bmB.contains (.type "BaseException")=true)(hh:A.handled=none)
  (h:wpAny M A x (λv s1=>∃e t dx,v=.ref e/\Two s1.heap C N D mN mD bmB newId/\s1.heap.get? e=some { cls:=.ref C,dict:=some dx,data:=.fields #[.ref t,.none,.none,.none,.bool false,.none] }/\E (.ref e) s1) E s):wpAny M A (raiseStmt env (some x) none) Q E s:=by
 have hb:(YaQ C::.ref D::bmB).contains (.type "BaseException")=true:=by rw[YbD,YbD,hbase,YcH,YcH]
 unfold raiseStmt;refine Yac (YaO h (λv s1 h1=>?_) λ_ _ z=>z);obtain⟨e,t,dx,rfl,T,he,hE⟩:=h1;obtain⟨nm,q,bs,sn,sub,ab,col,dd,k0,k1,k2,k3,k5,hC⟩:=T.cls;obtain⟨hp,g,d,tk,os⟩:=s1
 repeat (first|with_reducible refine Yau he ?_|with_reducible refine Yau hC ?_|(with_reducible refine YbU hC ?_;rw[hb])|wp_step)
 exact wpAny_raiseNew_none hh hE
end
def jkm  (X:Cx)(C:Addr)(n:Nat)(mk:List V->List (Str×V))(t:TA):TS:=λ_ σ H=>t σ H λvs H1=>vs.length=n/\∀(pins:List (Addr×Obj)) (e dx:Addr) (s':Shared),H1 dx=none->Inv X pins σ (upd H1 dx (.xd (mk vs))) s'->Lies X.s₀.heap.objs.size X.pn (upd H1 dx (.xd (mk vs))) s'.heap e (.ref C) (some dx)->X.xe (.ref e) s'
def jjB {X:Cx}{C N D fI:Addr}{bmB:List Value}{B newId initId:String}{mN mD:Str->Option Value}{k:Nat}{name qual x:Str}{params:Ygv}{body:List Stmt}{scope:Scope}{dV kV doc pm cdv ct:Value}{an od:Option Addr}{osl:Array (Option Value)}{Nm ps:List Str}{mk:List V->List (Str×V)}{t:TA}{a0:Expr}{as:List Expr}{p cpos pos:Pos}{n:Nat}
  (T:Two X.base C N D mN mD bmB newId) (F:YeU B newId initId bmB) (hD:mD "__init__" = none) (hi:mN "__init__" = some (.ref fI)) (lk:X.K.lookup fI=some ⟨.type "function",od,.func (Ya7 name qual params body scope dV kV doc pm an cdv ct),osl⟩) (hcd:Ybz X.K cdv qual=true) (S:FnScope Nm ps scope) (hr:Room (k+2) X.A)
  (hb:Binds X.K (Ya7 name qual params body scope dV kV doc pm an cdv ct) ps []) (hn:n+1=ps.length) (hn8:n<=8) (hbase:bmB.contains (.type "BaseException")=true) (hg:Gl X x) (hm:X.mg x=some (.ref C)) (hk:Ybl X.K (.ref C)=true) (ha:PA X (a0::as) t) (hbody:∀(vs:List V) (s:Shared) (H:Hp),vs.length=n->jfA X C s H Nm qual scope fI cdv body vs (mk vs))
  (hdb:(x==("__debug__" : Str))=false:=by decide) (he:Yax (a0::as) X.env=(false,eval a0 X.env)::Yax as X.env:=by rfl) (hpl:(backTo cpos (Yax as X.env)).any (·.1)=false:=by rfl) :
  PS X (.Raise (some (.Call (.Name x p) (a0::as) [] cpos)) none pos) (jkm X C n mk t):=by
 intro pins s σ H D0 I h;have go:wpAny (model X.prog X.w) X.A (eval (.Call (.Name x p) (a0::as) [] cpos) X.env) (λv s1=>∃e t dx,v=.ref e/\Two s1.heap C N D mN mD bmB newId/\s1.heap.get? e=some { cls:=.ref C,dict:=some dx,data:=.fields #[.ref t,.none,.none,.none,.bool false,.none] }/\X.xe (.ref e) s1) X.xe s:=by
  refine YbG (jcq I hg hm ?_ hdb);refine YdC (h₀:=X.base) I.ok.mod.kin hk (thn (ha cpos pins s σ H _ I h) λus s1 ⟨vs,H1,I1,r,hl,q⟩=>⟨I1.kIn,?_⟩) he hpl;refine xmake (k:=k) I1 T F hD hi lk hcd S hr hb r (by lia) (by have:=r.length;rw[YbX,Yb5];lia) (hbody vs s1 H1 hl) λe dx s' z1 J l ⟨t',g⟩=>?_
  exact⟨e,t',dx,rfl,T.keeps J.bk,g,q pins e dx s' z1 J l⟩
 rw[arm_exec_Raise]
 first
  |exact Yac (Yck (Two.raise hbase hr.hd (Yac (YaO go (λv s1 z=>Yac (Yck (Yaj z))) λ_ _ z=>z))))
  |(simp only[evalOpt,YfG];exact Yac (Yck (Two.raise hbase hr.hd (Yac (YaO go (λv s1 z=>Yac (Yck (Yaj z))) λ_ _ z=>z)))))
def jig    {σ:St}(I:Inv X pins σ H s)(hN:X.N.Nodup)(hi:X.N[i]?=some x)(hk:X.env.scope.names.lookup x=some .local)
  (h:∀s',Inv X pins (σ.set i none) H s'->Q () s'):wpAny M A (do bindName X.env x .none;unbindBehindTheSuite X.env x pos) Q E s:=by
 obtain⟨m,hn,hl⟩:=id I.loc;have hcls:(X.env.scope.kind == .class||(X.env.scope.kind == .module&&X.env.locals != X.env.globals))=false:=by rw[I.ok.kind];rfl
 have hiσ:i<σ.length:=by rw[I.len];exact(List.getElem?_eq_some_iff.mp hi).1
 have cne:=I.cne;refine wpAny_nameGoes_keeps hk hn hcls λh' v hn' hs=>?_;have lt0:∀b o,X.s₀.heap.get? b=some o->b≠X.env.locals:=λb o e=>YaI (Yap (Yak e) I.ok.above);have tr:HOk X.prog X.w H h':=λb ob e=>by
  refine(I.hok b ob e).stay (λc w' hc q=>(hs.2 c ?_).trans q) (λ_ q=>q) λ_ _ q=>q;rintro rfl;rcases hc with rfl|hc
  ·rw[I.free]at e;cases e
  ·rw[I.free]at hc;cases hc
 refine h _ ⟨I.ok,I.os,I.bare,⟨λb o e n hb hx=>(hs.2 b (lt0 b o e)).trans (I.base.keep b o e n hb hx),λb o e n hb hx=>?_,I.base.free,λb o e hx=>?_,I.base.tups,I.base.frzs,I.base.tbls⟩,⟨_,hn',λj y v' e1 e2 e3=>?_⟩,λy c e=>?_,I.free,I.freeC,λp hp=>?_,tr,by simpa using I.len⟩
 ·obtain⟨sl,e1⟩:=I.base.slot b o e n hb hx;exact⟨sl,(hs.2 b (lt0 b o e)).trans e1⟩
 ·obtain⟨o',e1⟩:=I.base.there b o e hx;exact⟨o',(hs.2 b (lt0 b o e)).trans e1⟩
 ·by_cases hj:j=i
  ·subst hj;rw[Ybu hiσ]at e2;cases e2
  ·rw[Ya3 (Ne.symm hj)]at e2;have hy:y≠x:=λz=>hj (jcS hN e1 (z ▸ hi));obtain⟨u,r,l⟩:=hl j y v' e1 e2 e3;refine⟨u,r,l.imp (λz=>⟨z.1,by show(if y=x then v else m y)=some u;rw[if_neg hy];exact z.2⟩) λz=>⟨z.1,?_⟩⟩
   obtain⟨c,ec,o,ho,hd⟩:=z.2;exact⟨c,ec,o,(hs.2 c (cne y c ec)).trans ho,hd⟩
 ·obtain⟨w',o,ho,hd⟩:=I.cell y c e;exact⟨w',o,(hs.2 c (cne y c e)).trans ho,hd⟩
 ·obtain⟨p1,p2,p3,p4⟩:=I.pin p hp;exact⟨(hs.2 p.1 p3).trans p1,p2,p3,p4⟩
end L2

namespace L2
open PySem PySem.Spec PyProof.Rows PySem.W

def jf5  {os: OsState}{sub: List Value}(hC:h.get? C=some (Yc6 nm q C N bs bm hdct sn sub ab col dd k0 k1 k2 k3 k5 newId))(hD:h.get? D=some (Yc6 nm' q' D ND bs' bm' hdct' sn' sub' ab' col' dd' l0 l1 l2 l3 l5 newId'))(he:h.get? e=some oe)(hcls:oe.cls=.ref C)(hb:bm'.contains (.type "BaseException")=true)
  (hq:Q ((YaQ C::bm).contains (.ref D)) ⟨h,g,d,t,os⟩):wpAny M A (excMatches (.ref e) (.ref D)) Q E ⟨h,g,d,t,os⟩:=by
 have hB:(YaQ D::bm').contains (.type "BaseException")=true:=by rw[YbD,hb,YcH]
 have f:=tc_notTuple;obtain⟨b,eb⟩:∃b,b=(YaQ C::bm).contains (.ref D):=⟨_,rfl⟩;rw[<- eb]at hq;unfold excMatches
 repeat (first|(with_reducible refine Yau he ?_;rw[hcls])|with_reducible refine Yau hD ?_|(with_reducible refine YbU hD ?_;rw[hB])|(with_reducible refine YbU hC ?_;rw[<- eb])|wp_step)
 cases b with
 |true=>wp_walk;exact hq
 |false=>wp_walk;exact hq

def jfi  {σ: St}(I:Inv X [] σ H s)(l:Lies X.s₀.heap.objs.size X.pn H s.heap ea cls dx)
  (q:∀h',Inv X [] σ H { s with heap:=h' }->Lies X.s₀.heap.objs.size X.pn H h' ea cls dx->Q () { s with heap:=h' }):wpAny M A (Yem (.ref ea) none) Q E s:=by
 obtain⟨oe,vs,he,hc,hdx,hd,ht⟩:=l.ob;rcases ht with h1|⟨T,oT,ts,h1,hTe,hT,hdT,h3,nT,lT,pT⟩
 ·unfold Yem;refine Yac (YbW he hd h1 ?_);rw[if_neg (by decide)]
  exact Yaj (q s.heap I l)
 ·have sz:=(Array.getElem?_eq_some_iff.mp h3).1;refine wpAny_setFlight_none he hd h1 hT hdT sz ?_;have other:=(jbZ 3 .none hT hdT).2;have d3:=Yf9 hdT (·.setIfInBounds 3 Ybx);refine q _ (I.left (ch:=[T]) (λb hb=>by simp_all) (λb hb=>by simp_all) (λb hb=>by simp_all) (λb hb p hp=>by grind)
   (λb o _ hc e=>(other b (by simp_all)).trans e) λb o _ hc e=>⟨o.slots,(other b (by simp_all)).trans e⟩) ⟨⟨oe,vs,(other ea (Ne.symm hTe)).trans he,hc,hdx,hd,.inr ⟨T,_,_,h1,hTe,Yb7 _ hT (Ydv d3),d3,by simp[sz],nT,lT,pT⟩⟩,l.hn,l.le,l.pn⟩
noncomputable def Cx.tryC  (X:Cx)(pins:List (Addr×Obj))(xe:Value->Shared->Prop):Cx:={ X with pn:=X.pn++pins,xe:=xe }
def Inv.tryIn  {σ: St}(I:Inv X pins σ H s):Inv (X.tryC pins xe) [] σ H s:=
 ⟨⟨I.ok.mod,I.ok.kind,I.ok.glob,I.ok.blt,I.ok.above,I.ok.inj,I.ok.has,I.ok.cab,I.ok.hd,I.ok.frames,I.ok.stk,I.ok.exf,I.ok.bs,I.ok.bsz,I.ok.noex,I.ok.exfs,I.ok.funs,I.ok.frf⟩,I.os,I.bare,I.base,I.loc,I.cell,I.free,I.freeC,λp hp=>I.pin p (by simpa[Cx.tryC]using hp),I.hok,I.len⟩
def Inv.tryOut  {σ: St}(I:Inv (X.tryC pins xe) pins' σ H s):Inv X pins σ H s:=
 ⟨⟨I.ok.mod,I.ok.kind,I.ok.glob,I.ok.blt,I.ok.above,I.ok.inj,I.ok.has,I.ok.cab,I.ok.hd,I.ok.frames,I.ok.stk,I.ok.exf,I.ok.bs,I.ok.bsz,I.ok.noex,I.ok.exfs,I.ok.funs,I.ok.frf⟩,I.os,I.bare,I.base,I.loc,I.cell,I.free,I.freeC,λp hp=>I.pin p (by simp only[Cx.tryC];grind),I.hok,I.len⟩
noncomputable def Cx.inH  (X:Cx)(e:Value)(p:List (Addr×Obj)):Cx:={ X with A:=X.A.mark (some e),calm:=false,pn:=X.pn++p,xe:=λ_ _=>False }
def Inv.hIn  {σ: St}(I:Inv X [] σ H s)(hp:∀q∈p,s.heap.get? q.1=some q.2/\H q.1=none/\q.1≠X.env.locals/\q.1∉X.fs/\∀v,q.2.data≠.cell v):Inv (X.inH e p) [] σ H s:=
 ⟨⟨I.ok.mod,I.ok.kind,I.ok.glob,I.ok.blt,I.ok.above,I.ok.inj,I.ok.has,I.ok.cab,(λz=>(nomatch z)),I.ok.frames,I.ok.stk,I.ok.exf,I.ok.bs,I.ok.bsz,I.ok.noex,I.ok.exfs,I.ok.funs,I.ok.frf⟩,I.os,I.bare,I.base,I.loc,I.cell,I.free,I.freeC,
  λq hq=>by
   have:q∈X.pn++p:=by simpa[Cx.inH]using hq
   rcases List.mem_append.mp this with z|z
   ·exact I.pin q (Ybm _ z)
   ·exact hp q z,I.hok,I.len⟩
def Inv.hOut  {σ: St}(ok:X.Ok)(I:Inv (X.inH e p) pins' σ H s):Inv X [] σ H s:=
 ⟨ok,I.os,I.bare,I.base,I.loc,I.cell,I.free,I.freeC,λq hq=>I.pin q (by simp only[Cx.inH];simp_all),I.hok,I.len⟩
def Lies.pinned  {σ: St}(I:Inv X [] σ H s)(l:Lies X.s₀.heap.objs.size X.pn H s.heap ea cls dx):∃oe,s.heap.get? ea=some oe/\oe.cls=cls/\oe.dict=dx/\(∃vs,oe.data=.fields vs)/\
  ∀q∈[(ea,oe)],s.heap.get? q.1=some q.2/\H q.1=none/\q.1≠X.env.locals/\q.1∉X.fs/\∀v,q.2.data≠.cell v:=by
 obtain⟨oe,vs,he,hc,hdx,hd,_⟩:=l.ob;refine⟨oe,he,hc,hdx,⟨vs,hd⟩,λq hq=>?_⟩;rw[List.mem_singleton.mp hq];refine⟨he,l.hn,λz=>?_,λz=>?_,λv z=>by lia⟩
 ·obtain⟨m,⟨o,es,ep,ho,hdd,_⟩,_⟩:=I.loc
  lia
 ·obtain⟨_,o,ho,_⟩:=I.ok.funs.mem z;exact absurd (Yak ho) (Nat.not_lt.mpr l.le)
def XL  (M:Model)(A:Around)(env:Env)(R:Value->Shared->Prop):Value->Shared->Prop:=λe s'=>wpAny M A (Ygi e env) (λ_ s''=>wpAny M A (Yem e none) (λ_ s3=>R e s3) R s'') R s'
def jlz      : Yes M A env (XL M A env R):=Yfe

noncomputable abbrev cx1  (P:Program)(w:World)(K:Yab)(mg:Str->Option Value)(base:Heap)(N:List Str)(qual:Str)(scope:Scope)(f:Addr)(cd:Value)(A:Around)(outer:List Env)(s:Shared)(H:Hp)(E:XK):Cx:=
 (cxOf (CX1 P w) P w K mg base N qual scope f cd A outer s H E).wish (XL (model P w) (A.deeper (envOfC qual scope s.heap.objs.size f cd)) (envOfC qual scope s.heap.objs.size f cd) λe s'=>CX1 P w outer H s E e s')
def Fun.okX  {K: Yab}{st:Stmt}(F:Fun K x qual st f fd)(S:FnScope N ps (jaa st))(len:∀vs H Q E,sp vs H Q E->vs.length=ps.length)
  (hbody:∀cdv (A:Around) outer (s:Shared) H (vs:List V) Q E ,Room k (A.deeper (envOfC qual (jaa st) s.heap.objs.size f cdv))->sp vs H Q E->
   ∃t,PSs (cx1 P w K mg base N qual (jaa st) f cdv A outer s H E) (jaf st) t/\t { nx:=λ_ H'=>Q .non H',rt:=Q } (start N vs) H):FnOk P w K mg base (CX1 P w) (k+1) f fd ps sp:=by
 obtain⟨oc,od,kV,doc,pm,an,cdv,ct,osl,rfl,lk,hcd⟩:=F.ex;refine jp8 lk hcd S len λA outer s H vs Q E hr hsp=>?_;obtain⟨t,h,q⟩:=hbody cdv A outer s H vs Q E hr hsp;refine⟨t,λpins s1 σ H1 D I hw=>?_,q⟩;refine YaO (h pins s1 σ H1 D (I.wish _) hw) (λ_ _ q=>q.unwish) λe s' z=>?_;show wpAny _ _ (leaving _ e) _ _ s';unfold leaving;exact Yac z
def CX1.out1  {K: Yab}{σ:St} 
  (I:Inv (cx1 P w K mg base N qual scope f cd A outer s H E) pins σ H' s') (l:Lies s.heap.objs.size [] H' s'.heap ea cls dx) (q:E cls dx H'):(cx1 P w K mg base N qual scope f cd A outer s H E).xe (.ref ea) s':=by
 have I0:Inv (cxOf (CX1 P w) P w K mg base N qual scope f cd A outer s H E) [] σ H' s':=I.unwish.pins_of λp hp=>absurd hp (by simp)
 refine jim (X:=cxOf (CX1 P w) P w K mg base N qual scope f cd A outer s H E) (E:=λe s'=>CX1 P w outer H s E e s') I0 rfl rfl l λh' J l'=>?_;exact⟨ea,H',cls,dx,rfl,J.os,J.bare,J.base,J.hok,l',q⟩
end L2

namespace L2
open PySem PySem.Spec PyProof.Rows PySem.W
open Builtin Builtin.ObjectAttr
def jdM  : YaY (.type "ValueError") "__class__" = pure (some (.builtin "object.__class__")):=by rw[YcD,YbI];kernel_rfl
def jot  : YaY (.type "getset_descriptor") "__get__" = pure (some (.builtin "getset_descriptor.__get__")):=by rw[YcD,YbI];kernel_rfl
def jor  : YaY (.type "getset_descriptor") "__set__" = pure (some (.builtin "getset_descriptor.__set__")):=by rw[YcD,YbI];kernel_rfl
def jiF  : builtinKind "object.__class__" = some .getset:=by decide +kernel
noncomputable abbrev bmV  : List Value:=[.type "ValueError",.type "Exception",.type "BaseException",.type "object"]

def Two.gaClass  {os: OsState}{K:Frag}(hK:K.In h)(hm:mroIn K C (.type "object")=some true)(T:Two h C N D mN mD bmB newId)(R:Reads B bmB)(hx:h.get? x=some o)(hc:o.cls=.ref C)(hnc:notCls o=true)(hdx:o.dict=some dx)(hod:h.get? dx=some od)
  (hB:YaY (.type B) "__class__" = pure (some (.builtin "object.__class__"))) (n1:mN "__class__" = none) (n2:mD "__class__" = none) (hq:Q (.done (.ret (.ref C))) ⟨h,g,d,t,os⟩) :
  wpAny (model prog w) A (Builtin.«object.__getattribute__» ⟨[.ref x,.str "__class__" tk],[]⟩) Q E ⟨h,g,d,t,os⟩:=by
 obtain⟨nm,q,bs,sn,sub,ab,col,dd,k0,k1,k2,k3,k5,e⟩:=T.cls;unfold Builtin.«object.__getattribute__»
 repeat (first|(with_reducible refine Yau hx ?_;rw[hc])|(with_reducible refine T.look hB R.mro n1 n2 ?_)|wp_step)
 rw[jiF];dsimp only;rw[jot]
 repeat (first|(with_reducible refine Yau hx ?_;rw[hc])|wp_step)
 rw[jiF];dsimp only;rw[jor]
 repeat (first|(with_reducible refine Yau hx ?_;rw[hc])|wp_step)
 refine PySem.W.class_get (K:=K) hK (ox:=o) (od:=some od) ⟨hx,hc,hnc,by rw[hdx];exact hod⟩ hm ?_
 exact Yaj hq
def Two.cattr  {os: OsState}{K:Frag}(hK:K.In h)(hm:mroIn K C (.type "object")=some true)(T:Two h C N D mN mD bmB newId)(R:Reads B bmB)(hx:h.get? x=some o)(hc:o.cls=.ref C)(hnc:notCls o=true)(hdx:o.dict=some dx)(hod:h.get? dx=some od)
  (hB:YaY (.type B) "__class__" = pure (some (.builtin "object.__class__"))) (g1:mN "__getattribute__" = none) (g2:mD "__getattribute__" = none) (a1:mN "__getattr__" = none) (a2:mD "__getattr__" = none) (n1:mN "__class__" = none) (n2:mD "__class__" = none) (hq:Q (some (.ref C)) ⟨h,g,d,t+1,os⟩) :
  wpAny (model prog w) A (getAttr? (.ref x) "__class__") Q E ⟨h,g,d,t,os⟩:=by
 have f3:=R.ga.bind (.ref x);unfold getAttr? getAttrBy? getAttrBy
 repeat (any_goals (first|assumption|(with_reducible refine Yau hx ?_;rw[hc])|(with_reducible refine T.look R.ga.lookup R.mro g1 g2 ?_)|(with_reducible refine T.look R.no R.mro a1 a2 ?_)|wp_step))
 refine YcU R.ga.plain F.entry_bexc_ga (T.gaCheck R hx hc (T.gaClass hK hm R hx hc hnc hdx hod hB n1 n2 ?_))
 repeat (any_goals (first|assumption|wp_step))
noncomputable def jgJ  : List Yew->Option (List Str)
 |[]=>some []
 |e::r=>match e.key,jgJ r with
  |.str x _,some l=>some (x::l)
  |_,_=>none
noncomputable def jdV  (K:Frag)(N:Addr):Option (List Str):=match K.lookup N with
 |some ⟨_,_,.dict es _,_⟩=>jgJ es.toList
 |_=>none
theorem jdU  : ∀{es } {ks },jgJ es=some ks->(∀e∈es,∃n t,e.key=.str n t)/\∀x,x∉ks->es.find? (λe=>e.key.isStr x)=none
 |[],_,_=>⟨λ_ h=>absurd h (by simp),λ_ _=>rfl⟩
 |e::r,ks,h=>by
  unfold jgJ at h;split at h
  ·rename_i x t l hk hr;cases h;obtain⟨h1,h2⟩:=jdU hr;refine⟨λe' he=>?_,λy hy=>?_⟩
   ·rcases YaG.mp he with rfl|he
    ·exact⟨_,_,hk⟩
    ·exact h1 e' he
   ·have hn:y≠x:=λz=>hy (by simp[z])
    have:e.key.isStr y=false:=by rw[hk];simp[Value.isStr,Ne.symm hn]
    rw[Ybr,this];exact h2 y λz=>hy (by simp[z])
  ·cases h
def jnV  {K:Frag}(e:jdV K N=some ks):∃m ,(∀h,K.In h->h.Ns N m)/\(∀x,x∉ks->m x=none)/\∀x v,nsIn K N x=some (some v)->m x=some v:=by
 unfold jdV at e;split at e
 ·rename_i c dd es ep sl lk;obtain⟨h1,h2⟩:=jdU e;refine⟨nsFind es,λh hK=>⟨_,es,ep,hK _ _ lk,rfl,λe he=>h1 e (by simpa using he),λ_=>rfl⟩,λx hx=>?_,λx v hv=>?_⟩
  ·unfold nsFind findBy;rw[<- YdU,h2 x hx];rfl
  ·unfold nsIn at hv;rw[lk]at hv;dsimp only at hv;unfold nsFind findBy;rw[<- YdU];split at hv
   ·rename_i e' he';rw[he'];cases hv;rfl
   ·split at hv<;>cases hv
 ·cases e
noncomputable def offN  : List Str:=["__setattr__", "__getattribute__", "__getattr__", "__class__", "word", "at", "row"]
structure XBase (K:Frag)(mg:Str->Option Value)(D:Addr)(mD:Str->Option Value):Prop where
 m:mg "PlanError" = some (.ref D)
 kp:keepIn K (.ref D)=true
 lk:∃q ND bs hd sn sub ab col dd k0 k1 k2 k3 k5 nid,K.lookup D=some (Yc6 "PlanError" q D ND bs bmV hd sn sub ab col dd k0 k1 k2 k3 k5 nid)/\∀h,K.In h->h.Ns ND mD
 no:∀y∈offN,mD y=none
 ni:mD "__init__" = none
structure XCls (K:Frag)(mg:Str->Option Value)(x:Str)(fs:List Str)(C:Addr):Prop where
 m:mg x=some (.ref C)
 kp:keepIn K (.ref C)=true
 ex:∃(D N fI:Addr) (mN mD:Str->Option Value),XBase K mg D mD/\(∃q bs sn sub ab col dd k0 k1 k2 k3 k5,K.lookup C=some (Yc6 x q C N bs (.ref D::bmV) true sn sub ab col dd k0 k1 k2 k3 k5 "ValueError.__new__"))/\(∀h,K.In h->h.Ns N mN)/\(∀y∈offN,mN y=none)/\
  mN "__init__" = some (.ref fI)/\∃(st:Stmt) (qual:Str) (fd:Ye7),L2.Fun K "__init__" qual st fI fd/\(∃od osl,K.lookup fI=some ⟨.type "function",od,.func fd,osl⟩)/\FnScope ("self" :: fs) ("self" :: fs) (jaa st)/\Binds K fd ("self" :: fs) []/\(∀y∈(("self" : Str)::fs),(jaa st).names.lookup y=some .local)/\
  ((∃f p1 p2 p3 pos,fs=[f]/\jaf st=[.Assign [.Attribute (.Name "self" p1) f p2] (.Name f p3) pos])\/∃f f2 p1 p2 p3 pos q1 q2 q3 qos,fs=[f,f2]/\f≠f2/\jaf st=[.Assign [.Attribute (.Name "self" p1) f p2] (.Name f p3) pos,.Assign [.Attribute (.Name "self" q1) f2 q2] (.Name f2 q3) qos])
def XBase.get  {K:Frag}(B:XBase K mg D mD)(hK:K.In h):∃c0 dd cd sl,h.get? D=some { cls:=c0,dict:=dd,data:=.cls cd,slots:=sl }/\h.Ns cd.ns mD:=by
 obtain⟨q,ND,bs,hd,sn,sub,ab,col,dd,k0,k1,k2,k3,k5,nid,lk,n⟩:=B.lk;exact⟨_,_,_,_,hK _ _ lk,n h hK⟩

def XCls.name  {K: Frag}(c:XCls K mg x fs C):∃cd,clsIn K C=some cd/\cd.name=x/\typeIn K (.ref C)=some (.type "type")/\∃D mD,XBase K mg D mD/\cd.mro=.ref C::.ref D::bmV:=by
 obtain⟨D,N,fI,mN,mD,B,⟨q,bs,sn,sub,ab,col,dd,k0,k1,k2,k3,k5,lk⟩,_⟩:=c.ex;refine⟨_,by unfold clsIn;rw[lk],rfl,by show YfG (λx=>x.cls) (YbF _ K)=_;rw[lk];rfl,D,mD,B,rfl⟩
def XBase.nm  {K: Frag}(B:XBase K mg D mD):∃cd,clsIn K D=some cd/\cd.name = "PlanError" /\ typeIn K (.ref D)=some (.type "type"):=by
 obtain⟨q,ND,bs,hd,sn,sub,ab,col,dd,k0,k1,k2,k3,k5,nid,lk,n⟩:=B.lk;exact⟨_,by unfold clsIn;rw[lk],rfl,by show YfG (λx=>x.cls) (YbF _ K)=_;rw[lk];rfl⟩
def jin  {K: Frag}(c:XCls K mg x fs C)(c':XCls K mg x' fs' C')(hp:x' ≠ "PlanError"):kitOne K (.ref C) (.ref C')=some (decide (x=x')):=by
 obtain⟨cd,h1,h2,h3,D,mD,B,hm⟩:=c.name;obtain⟨cd',h1',h2',h3',_⟩:=c'.name;unfold kitOne;by_cases e:C=C'
 ·subst e;rw[h1]at h1';cases h1';rw[if_pos (by simp),<- h2,<- h2']
  simp
 ·have hx:x≠x':=λz=>by
   subst z;have:=c.m.symm.trans c'.m;simp at this;exact e this
  rw[if_neg (by simpa using e)]
  unfold kitCls subIn mroIn;dsimp only;rw[h1',h3',h1];have hD:D≠C':=λz=>by
   subst z;obtain⟨cd2,g1,g2,_⟩:=B.nm;rw[h1']at g1;cases g1;exact hp (h2'.symm.trans g2)
  simp[hm,hx,Ne.symm e,Ne.symm hD]
def joa  {K: Frag}(c:XCls K mg x fs C):kitOne K (.ref C) (.type "ValueError")=some true:=by
 obtain⟨cd,h1,h2,h3,D,mD,B,hm⟩:=c.name;unfold kitOne;rw[if_neg (by simp)]
 unfold kitCls subIn mroIn;dsimp only;rw[if_pos (by decide +kernel),h1]
 simp[hm]
def jkJ  : ∀f∈[("word" : Str), "at", "row"],YaY (.type "ValueError") f=pure none:=by
 intro f hf;simp only[YaG,Yar,or_false]at hf;rcases hf with rfl|rfl|rfl<;>(rw[YcD,YbI];kernel_rfl)
noncomputable def fldN  : List Str:=["word", "at", "row"]
def jf4  : ∀f∈fldN,f∈offN:=by decide
section
variable {K:Frag}{mg:Str->Option Value}{x:Str}{fs:List Str}{C:Addr}
structure XPin (X:Cx)(ea C dx:Addr):Prop where
 ex:∃oe vs,(ea,oe)∈X.pn/\oe.cls=.ref C/\oe.dict=some dx/\oe.data=.fields vs
def Inv.xobj    {σ:St}(I:Inv X pins σ H s)(p:XPin X ea C dx)(hl:H dx=some (.xd l)) :
  ∃oe vs od mA,s.heap.get? ea=some oe/\oe.cls=.ref C/\oe.dict=some dx/\oe.data=.fields vs/\s.heap.get? dx=some od/\s.heap.Ns dx mA/\∀f,RelO (l.lookup f) (mA f):=by
 obtain⟨oe,vs,hp,h1,h2,h3⟩:=p.ex;obtain⟨mA,n,r⟩:=(show jaD X.prog X.w H s.heap dx (.xd l)from I.hok dx _ hl);obtain⟨od,es,ep,g,gd,sk,_,nf⟩:=n;exact⟨oe,vs,od,mA,(I.pin _ (Ybm _ hp)).1,h1,h2,h3,g,⟨od,es,ep,g,gd,sk,nf⟩,r⟩
def XCls.two  (c:XCls K mg x fs C)(hK:K.In h):∃N D mN mD,Two h C N D mN mD bmV "ValueError.__new__" /\ (∀y∈offN,mN y=none/\mD y=none)/\mroIn K C (.type "object")=some true:=by
 obtain⟨D,N,fI,mN,mD,B,⟨q,bs,sn,sub,ab,col,dd,k0,k1,k2,k3,k5,lk⟩,hn,ho,_⟩:=c.ex;refine⟨N,D,mN,mD,⟨⟨_,_,_,_,_,_,_,_,_,_,_,_,_,hK _ _ lk⟩,hn h hK,B.get hK⟩,λy hy=>⟨ho y hy,B.no y hy⟩,?_⟩;unfold mroIn clsIn;rw[lk];simp
def jex  (c:XCls K mg x fs C)(h1:oe.cls=.ref C)(h2:oe.dict=some dx)(h3:oe.data=.fields vs):KitX K (.ref ea) (.ref C) (λh=>h.get? ea=some oe/\h.get? dx=some od):=by
 have hnc:notCls oe=true:=by unfold notCls;rw[h3]
 refine⟨λM h hK hh=>?_,λM h hK hh=>?_,λh tp dd its n sl hK ht=>?_,λ{prog w A E Q s} hK hh hq=>?_⟩
 ·intro A Q E s k q;obtain⟨hp,g,d,t,os⟩:=s;have g1:=k _ _ hh.1;show wpAny M A (typeOf (.ref ea)) Q E _;unfold typeOf
  repeat (first|(with_reducible refine Yau g1 ?_;rw[h1])|wp_step)
  exact q
 ·intro A Q E s k q;obtain⟨hp,g,d,t,os⟩:=s;obtain⟨D,N,fI,mN,mD,B,⟨q',bs,sn,sub,ab,col,dd,k0,k1,k2,k3,k5,lk⟩,_⟩:=c.ex;have g1:=k _ _ (hK _ _ lk);unfold isType
  repeat (first|with_reducible refine Yau g1 ?_|wp_step)
  exact q
 ·obtain⟨D,N,fI,mN,mD,B,⟨q',bs,sn,sub,ab,col,dd',k0,k1,k2,k3,k5,lk⟩,_⟩:=c.ex;have g1:=hK _ _ lk;by_cases z:C=tp
  ·subst z;rw[ht]at g1;simp at g1
  ·simpa using z
 ·obtain⟨hp,g,d,t,os⟩:=s;obtain⟨N,D,mN,mD,T,off,hm⟩:=c.two hK;have o1:=off "__getattribute__" (by decide)
  have o2:=off "__getattr__" (by decide)
  have o3:=off "__class__" (by decide)
  exact T.cattr hK hm jbn hh.1 h1 hnc h2 hh.2 jdM o1.1 o1.2 o2.1 o2.2 o3.1 o3.2 hq
end
section
variable {X:Cx}{mg:Str->Option Value}{x:Str}{fs:List Str}{C ea dx:Addr}
def ji7     (c:XCls X.K mg x fs C)(c':XCls X.K mg x' fs' C')(hp:x' ≠ "PlanError")(p:XPin X ea C dx):jaU X (.builtin "isinstance") (λxs H Q=>xs=[.ref ea,.ref C']/\(∃l,H dx=some (.xd l))/\Q (.bl (decide (x=x'))) H):=by
 intro pins s σ H xs us Q I r h;obtain⟨rfl,⟨l,hl⟩,q⟩:=h;obtain⟨u,v,rfl,ru,rv⟩:=Vals.two r;cases ru;cases rv;obtain⟨oe,vs,od,mA,g1,g2,g3,g4,g5,_⟩:=I.xobj p hl;exact kia_one (jex c g2 g3 g4) I.kIn ⟨g1,g5⟩ (jin c c' hp) (λz=>(nomatch z)) λtk=>⟨.bl _,H,I.tok tk,rfl,q⟩
def ji5  (c:XCls X.K mg x fs C)(p:XPin X ea C dx):jaU X (.builtin "isinstance") (λxs H Q=>xs=[.ref ea,.ty "ValueError"]/\(∃l,H dx=some (.xd l))/\Q (.bl true) H):=by
 intro pins s σ H xs us Q I r h;obtain⟨rfl,⟨l,hl⟩,q⟩:=h;obtain⟨u,v,rfl,ru,rv⟩:=Vals.two r;cases ru;cases rv;obtain⟨oe,vs,od,mA,g1,g2,g3,g4,g5,_⟩:=I.xobj p hl;exact kia_one (jex c g2 g3 g4) I.kIn ⟨g1,g5⟩ (joa c) (λz=>(nomatch z)) λtk=>⟨.bl true,H,I.tok tk,rfl,q⟩
inductive XMany (X:Cx)(mg:Str->Option Value):List Str->List Addr->Prop
 |nil:XMany X mg [] []
 |cons {x:Str} {fs:List Str} {C:Addr} {xs:List Str} {Cs:List Addr}:XCls X.K mg x fs C->x ≠ "PlanError" -> XMany X mg xs Cs->XMany X mg (x::xs) (C::Cs)
theorem jgI  (c:XCls X.K mg x fs C):∀{xs } {Cs },XMany X mg xs Cs->kitAny X.K (.ref C) (Cs.map .ref)=some (xs.contains x)
 |_,_,.nil=>rfl
 |_,_,.cons (x:=x') (C:=C') c' hp r=>by
  have h1:=jin c c' hp;have h2:=jgI c r;by_cases e:x=x'
  ·subst e;simp only[Yas,kitAny];rw[h1];simp
  ·simp only[Yas,kitAny];rw[h1,h2];simp[e]
def ji6    (c:XCls X.K mg x fs C)(cs:XMany X mg xs Cs)(p:XPin X ea C dx):jaU X (.builtin "isinstance") (λas H Q=>∃tp,as=[.ref ea,.ref tp]/\H tp=some (.tup (Cs.map .ref))/\(∃l,H dx=some (.xd l))/\Q (.bl (xs.contains x)) H):=by
 intro pins s σ H as us Q I r h;obtain⟨tp,rfl,ht,⟨l,hl⟩,q⟩:=h;obtain⟨u,v,rfl,ru,rv⟩:=Vals.two r;cases ru;cases rv;obtain⟨oe,vs,od,mA,g1,g2,g3,g4,g5,_⟩:=I.xobj p hl;obtain⟨z,us,ru,o,t1,t2,t3,t4,t5⟩:=(show jaD X.prog X.w H s.heap tp (.tup (Cs.map .ref))from I.hok tp _ ht);have hus:us=Cs.map .ref:=by
  clear ht t4 z t5 t1 t2;generalize Cs=Ds at ru
  induction Ds generalizing us with
  |nil=>cases ru;rfl
  |cons a r ih=>
   cases ru with
   |cons h1 h2=>cases h1;rw[ih _ h2];rfl
 subst hus;have hk:=jgI c cs;obtain⟨oc,od',dt,sl⟩:=o;obtain rfl:oc=Value.type "tuple" := t2;obtain rfl:dt=Data.seq (List.map YaQ Cs).toArray t3:=t4;exact kia_tup (jex c g2 g3 g4) I.kIn ⟨g1,g5⟩ t1 hk (λz=>(nomatch z)) λtk=>⟨.bl _,H,I.tok tk,rfl,q⟩
def jf3    (r:RelV v u):handedOut u=pure u:=by
 cases v with
 |non=>cases r;rfl
 |bl _=>cases r;rfl
 |int _=>obtain⟨_,rfl⟩:=r;rfl
 |str _=>obtain⟨_,rfl⟩:=r;rfl
 |byt _=>obtain⟨_,rfl⟩:=r;rfl
 |flt _=>obtain⟨_,rfl⟩:=r;rfl
 |ref _=>cases r;rfl
 |ty _=>cases r;rfl
def jlD      (c:XCls X.K mg x fs C)(p:XPin X ea C dx)(hf:f∈fldN)(he:PE X e te)(hb:YcV e f X.env (eval e X.env)=eval e X.env) :
  PE X (.Attribute e f pos) (λσ H Q=>te σ H λv H1=>v=.ref ea/\∃l u,H1 dx=some (.xd l)/\l.lookup f=some u/\Q u H1):=by
 intro pins s σ H Q I h;refine jmy hb (thn (he pins s σ H _ I h) λu s1 ⟨v,H1,I1,rv,ev,l,w,hl,hlk,q⟩=>?_);subst ev;cases rv;obtain⟨oe,vs,od,mA,g1,g2,g3,g4,g5,g6,g7⟩:=I1.xobj p hl;obtain⟨N,D,mN,mD,T,off,hm⟩:=c.two I1.kIn;obtain⟨u',hu,ru⟩:=RelO.some_of (v:=w) (o:=mA f) (by rw[<- hlk];exact g7 f)
 have o1:=off "__getattribute__" (by decide)
 have o2:=off "__getattr__" (by decide)
 have o3:=off f (jf4 f hf);obtain⟨hp,gg,d,t,os⟩:=s1;exact T.get jbn g1 g2 (λcd z=>by rw[g4]at z;cases z) g3 g6 hu (jf3 ru) (jkJ f hf) o1.1 o1.2 o2.1 o2.2 o3.1 o3.2 ⟨w,H1,I1.tok _,ru,q⟩
def jhQ       (c:XCls X.K mg x fs C)(hfs:∀f∈fs,f∈fldN)(hr:Room (k+2) X.A)(hg:Gl X x)(hmg:X.mg x=some (.ref C))(ha:PA X (a0::as) t)
  (hdb:(x==("__debug__" : Str))=false) (he:Yax (a0::as) X.env=(false,eval a0 X.env)::Yax as X.env) (hpl:(backTo cpos (Yax as X.env)).any (·.1)=false) :
  PS X (.Raise (some (.Call (.Name x p) (a0::as) [] cpos)) none pos) (jkm X C fs.length (λvs=>fs.zip vs) t):=by
 intro pins s σ H D0 I h;have hK:X.K.In X.base:=I.ok.mod.kin;obtain⟨D,N,fI,mN,mD,B,⟨q,bs,sn,sub,ab,col,dd,k0,k1,k2,k3,k5,lk⟩,hn,ho,hi,st,qual,fd,F0,⟨od,osl,lkI⟩,S,hb,hloc,hbody⟩:=c.ex;obtain⟨oc,od',kV,doc,pm,an,cdv,ct,osl',rfl,lkI',hcd⟩:=F0.ex;have T:Two X.base C N D mN mD bmV "ValueError.__new__" := ⟨⟨_,_,_,_,_,_,_,_,_,_,_,_,_,hK _ _ lk⟩,hn _ hK,B.get hK⟩;have set0:mN "__setattr__" = none/\mD "__setattr__" = none:=⟨ho _ (by decide),B.no _ (by decide)⟩
 have fd0:∀f∈fs,mN f=none/\mD f=none/\YaY (.type "ValueError") f=pure none:=λf hf=>⟨ho _ (jf4 f (hfs f hf)),B.no _ (jf4 f (hfs f hf)),jkJ f (hfs f hf)⟩;have nm:∀f∈fldN,(f==("__debug__" : Str))=false/\(f==("__classdict__" : Str))=false:=by decide
 have go:∀(vs:List V) (s:Shared) (H:Hp),vs.length=fs.length->jfA X C s H (("self" : Str)::fs) qual (jaa st) fI cdv (jaf st) vs (fs.zip vs):=by
  intro vs s H hl;rcases hbody with⟨f,p1,p2,p3,pos,rfl,hbd⟩|⟨f,f2,p1,p2,p3,pos,q1,q2,q3,qos,rfl,hne,hbd⟩
  ·rw[hbd];obtain⟨v,rfl⟩:∃v,vs=[v]:=by
    match vs,hl with
    |[v],_=>exact⟨v,rfl⟩
   have a1:=fd0 f (by simp)
   have b1:=nm f (hfs f (by simp))
   exact jp1 T F.store_ValueError set0.1 set0.2 a1.1 a1.2.1 a1.2.2 (.inl (hloc _ (by simp))) (.inl (hloc _ (by simp))) (by decide) b1.1 (by decide) b1.2 (λ_=>rfl)
  ·rw[hbd];obtain⟨v,v2,rfl⟩:∃v v2,vs=[v,v2]:=by
    match vs,hl with
    |[v,v2],_=>exact⟨v,v2,rfl⟩
   have a1:=fd0 f (by simp)
   have a2:=fd0 f2 (by simp)
   have b1:=nm f (hfs f (by simp))
   have b2:=nm f2 (hfs f2 (by simp))
   exact jp0 T F.store_ValueError set0.1 set0.2 a1.1 a1.2.1 a1.2.2 a2.1 a2.2.1 a2.2.2 hne (.inl (hloc _ (by simp))) (.inl (hloc _ (by simp))) (.inl (hloc _ (by simp))) (by decide) b1.1 b2.1 (by decide) b1.2 b2.2 (λ_=>rfl) (λ_=>rfl)
 have hn8:fs.length<=8:=by
  rcases hbody with⟨f,p1,p2,p3,pos,rfl,hbd⟩|⟨f,f2,p1,p2,p3,pos,q1,q2,q3,qos,rfl,hne,hbd⟩<;>simp
 exact jjB T F.excBase_ValueError B.ni hi lkI hcd S hr hb (by simp) hn8 (by decide) hg hmg c.kp ha go hdb he hpl pins s σ H D0 I h
def jhe          (c:XCls X.K mg x fs C)(B':XBase X.K mg D' mD')(hK:X.K.In s.heap)(he:s.heap.get? ea=some oe)(hcls:oe.cls=.ref C)
  (hq:Q true s):wpAny M A (excMatches (.ref ea) (.ref D')) Q E s:=by
 obtain⟨D,N,fI,mN,mD,B,⟨q,bs,sn,sub,ab,col,dd,k0,k1,k2,k3,k5,lk⟩,_⟩:=c.ex;have e:D=D':=by have:=B.m.symm.trans B'.m;simpa using this
 subst e;obtain⟨q,ND,bs,hd,sn,sub,ab,col,dd,k0,k1,k2,k3,k5,nid,lk2,n⟩:=B.lk;obtain⟨h,g,d,t,os⟩:=s;refine jf5 (hK _ _ lk) (hK _ _ lk2) he hcls (by decide) ?_
 have e:(YaQ C::.ref D::bmV).contains (.ref D)=true:=by simp
 rw[e];exact hq
end
end L2

namespace L2
open PySem PySem.Spec PyProof.Rows

end L2

namespace L2
open PySem PySem.Spec PyProof.Rows
theorem jcu  : ∀(l:List (Str×Tok)),Vals ((l.map (·.1)).map V.str) (strValues l)
 |[]=>.nil
 |(_,t)::l=>.cons ⟨t,rfl⟩ (jcu l)

def jnf  : V->List V->Hp->VK->Prop:=λx vs H Q=>∃z y:Str,x=.str z/\vs=[.str y]/\(y.length==0)=false/\z.length<=Yaf/\(Ya1 z y).length<=Yaf/\∀l,H l=none->Q (.ref l) (upd H l (.lst ((Ya1 z y).map V.str)))
def jjZ  : MtR X "str.split" jnf:=by
 intro pins s σ H x vs v us Q I rx rv h;obtain⟨z,y,rfl,rfl,hy,hz,hn,q⟩:=h;obtain⟨t,rfl⟩:=rx;obtain⟨w,rfl,ru⟩:=Vals.one rv;obtain⟨u,rfl⟩:=ru;have fin:∀(l:List (Str×Tok)) (tk:Nat),l.map (·.1)=Ya1 z y->EP X pins σ Q (.ref s.heap.objs.size) { s with toks:=tk,heap:=s.heap.push { cls:=.type "list",data:=.seq (strValues l).toArray } }:=λl tk e=>by
  have hv:=jcu l;rw[e]at hv;refine⟨.ref _,_,I.laid (t':=tk) (o:=.lst ((Ya1 z y).map V.str)) (λb o e=>Yad _ e) (Yag _) ?_,rfl,q _ (I.hok.fresh (Yag _))⟩;exact⟨by simp_all,strValues l,0,hv,Yaq _ rfl⟩
 cases h1:(decide (z.length<y.length)||decide (YeL z<YeL y))
 ·cases hf:(Yaw z y 0 z.length (z.length+1)).isEmpty
  ·have es:Ya1 z y=Yd8 z (Yaw z y 0 z.length (z.length+1)) y.length:=(if_neg (ne_true_of_eq_false h1)).trans (if_neg (ne_true_of_eq_false hf));refine Ybv YeK (Ycy _ _ _) Yev (Yeh _ _) (meets_str_split_sep z y t u h1 hy hf hz (by lia)) ?_
   show EP X pins σ Q _ { s with toks:=_,heap:=s.heap.push { cls:=.type "list",data:=.seq (strsFrom s.toks (Yd8 z (Yaw z y 0 z.length (z.length+1)) y.length)).toArray } }
   rw[strsFrom_eq];exact fin (numbered s.toks _) _ ((numbered_texts _ _).trans es.symm)
  ·exact Ybv YeK (Ycy _ _ _) Yev (Yeh _ _) (meets_str_split_not_found z y t u h1 hy hf) (fin [(z,t)] _ ((if_neg (ne_true_of_eq_false h1)).trans (if_pos hf)).symm)
 ·exact Ybv YeK (Ycy _ _ _) Yev (Yeh _ _) (meets_str_split_cannot_occur z y t u h1) (fin [(z,t)] _ (if_pos h1).symm)
end L2

namespace L2
open PySem PySem.Spec PyProof.Rows PySem.W
noncomputable def jbF  (cells:List (Str×Addr)):List (Str×YbB)->List (Str×Addr)->List (Str×Addr)
 |[],acc=>acc
 |(n,k)::r,acc=>jbF cells r (if k == .free then (match cells.lookup n with|some c=>(n,c)::acc|none=>acc) else acc)
theorem jeG   
  (hf:∀n k cs,f (n,k) cs=if k == .free then (do let a <- cellOf env n;pure (.yield ((n,a)::cs))) else pure (.yield cs)) :
  ∀names acc ,(∀y∈names,y.2=.free->∃c,env.cells.lookup y.1=some c)->forIn names acc f=pure (jbF env.cells names acc)
 |[],acc,_=>rfl
 |(n,k)::r,acc,h=>by
  rw[Yez,hf];unfold jbF;cases hk:k==YaB with
  |true=>
   obtain⟨c,e⟩:=h (n,k) Yat (eq_of_beq hk);simp only[if_true,cellOf,e,pure_bind];exact jeG hf r _ λy hy=>h y (Yah _ hy)
  |false=>
   simp only[Ybk,if_false,pure_bind];exact jeG hf r _ λy hy=>h y (Yah _ hy)
def jca    (h:∀y∈scope.names,y.2=.free->∃c,env.cells.lookup y.1=some c):YfB scope env=pure (jbF env.cells scope.names []):=by
 simp only[YfB];rw[jeG (env:=env) (λn k cs=>by lia) _ _ h]
 rfl
theorem jgX     : ∀{names } {acc },(jbF cells names acc).lookup x=some c->(cells.lookup x=some c/\(x,YaB)∈names)\/acc.lookup x=some c
 |[],_,h=>.inr h
 |(n,k)::r,acc,h=>by
  unfold jbF at h;rcases jgX h with⟨e,m⟩|e
  ·simp_all
  ·by_cases hk:(k==YaB)=true
   ·rw[if_pos hk]at e;cases hc:cells.lookup n with
    |none=>lia
    |some c'=>
     rw[hc]at e;simp only[YaX]at e;by_cases hx:x=n
     ·subst hx;simp only[beq_self_eq_true]at e;cases e;exact .inl ⟨hc,by rw[eq_of_beq hk];exact Yat⟩
     ·rw[beq_eq_false_iff_ne.mpr hx]at e;exact .inr e
   lia
theorem jfo     : ∀{names } {acc },cells.lookup x=some c->acc.lookup x=some c->(jbF cells names acc).lookup x=some c
 |[],_,_,h=>h
 |(n,k)::r,acc,hc,h=>by
  unfold jbF;refine jfo hc ?_;split
  ·split
   ·rename_i c' e;by_cases hx:x=n
    ·subst hx;rw[hc]at e;cases e;simp
    ·simp only[YaX,beq_eq_false_iff_ne.mpr hx];exact h
   ·exact h
  ·exact h
theorem jdC     : ∀{names } {acc },cells.lookup x=some c->(x,YaB)∈names->(jbF cells names acc).lookup x=some c
 |(n,k)::r,acc,hc,h=>by
  unfold jbF;rcases YaG.mp h with e|h
  ·cases e;refine jfo hc ?_;simp[hc]
  ·exact jdC hc h
structure CloScope (N P:List Str)(sc:Scope):Prop where
 kind:sc.kind=.function
 co:sc.isCoroutine=false
 gen:sc.isGenerator=false
 nd:N.Nodup
 pre:N.take P.length=P
 par:∀x∈P,sc.names.lookup x=some .local
 nocell:∀y∈sc.names,y.2≠.cell
 frees:∀x,(x,YaB)∈sc.names->sc.names.lookup x=some .free

noncomputable def cxC  (P:Program)(w:World)(K:Yab)(mg:Str->Option Value)(base:Heap)(N:List Str)(qual:Str)(scope:Scope)(cl:List (Str×Addr))(f:Addr)(cd:Value)(A:Around)(outer:List Env)(s:Shared)(H:Hp)(E:XK):Cx where
 prog:=P
 w:=w
 K:=K
 mg:=mg
 base:=base
 A:=A.deeper (envX qual scope s.heap.objs.size f cd cl)
 N:=N
 s₀:=s
 H₀:=H
 env:=envX qual scope s.heap.objs.size f cd cl
 outer:=outer
 stack:=envX qual scope s.heap.objs.size f cd cl::outer
 ex:=[]
 calm:=true
 fn:=λx=>scope.names.lookup x != some .free
 pn:=[]
 xe:=XL (model P w) (A.deeper (envX qual scope s.heap.objs.size f cd cl)) (envX qual scope s.heap.objs.size f cd cl) λe s'=>CX1 P w outer H s E e s'
def jhC    {i:Nat}(h:(start N vs)[i]?=some (some v)):vs[i]?=some v:=by
 unfold start at h;by_cases hi:i<vs.length
 ·rw[YaM (by simpa using hi),Yay]at h
  cases e:vs[i]? with
  |none=>rw[e]at h;cases h
  |some a=>rw[e]at h;simpa using h
 ·rw[Yby (by simpa using hi),Ycu]at h
  split at h<;>cases h
def jkW  {ps:List Str}{i:Nat}{u:Value}(nd:ps.Nodup)(h1:ps[i]?=some x)(h2:us[i]?=some u):(ps.zip us).reverse.lookup x=some u:=by
 have hm:(x,u)∈ps.zip us:=Ya2 (List.getElem?_zip_eq_some.mpr ⟨h1,h2⟩);have key:∀{l:List (Str×Value)},(x,u)∈l->(∀v,(x,v)∈l->v=u)->l.lookup x=some u:=by
  intro l
  induction l with
  |nil=>simp_all
  |cons p r ih=>
   obtain⟨y,v⟩:=p;intro h hu;rw[YaX];by_cases hy:x=y
   ·subst hy;rw[beq_self_eq_true,hu v Yat]
   ·rw[beq_eq_false_iff_ne.mpr hy];rcases YaG.mp h with e|h
    ·cases e;exact absurd rfl hy
    ·exact ih h λv hv=>hu v (Yah _ hv)
 refine key (List.mem_reverse.mpr hm) λv hv=>?_;obtain⟨j,hj⟩:=List.getElem?_of_mem (List.mem_reverse.mp hv);obtain⟨e1,e2⟩:=List.getElem?_zip_eq_some.mp hj;obtain rfl:=jcS nd h1 e1
 lia
def jmg  {K: Yab}{tk:Tok} 
  (S:CloScope N ps scope) (hd:A.handled=none) (e0:Env0 P w K mg base A outer s H) (hl:vs.length=ps.length) (r:Vals vs us) (hN:vs.length+cvs.length<=N.length)
  (hns:h1.Ns s.heap.objs.size λx=>(ps.zip us).reverse.lookup x) (hk:∀b o,s.heap.get? b=some o->h1.get? b=some o)
  (hcl:∀x c,cl.lookup x=some c->scope.names.lookup x=some .free/\(∃v,s.heap.IsCell c v)/\H c=none) (inj:∀x y c,cl.lookup x=some c->cl.lookup y=some c->x=y)
  (has:∀x,scope.names.lookup x=some .free->∃c,cl.lookup x=some c)
  (hv:∀i x v,N[ps.length+i]?=some x->cvs[i]?=some v->scope.names.lookup x=some .free/\∃c u,cl.lookup x=some c/\RelV v u/\s.heap.IsCell c (some u)) :
  Inv (cxC P w K mg base N qual scope cl f cd A outer s H E) [] (start N (vs++cvs)) H { s with heap:=h1,toks:=tk }:=by
 have noA:∀b:Addr,b∉(cxC P w K mg base N qual scope cl f cd A outer s H E).ex:=λb z=>absurd (show b∈([]:List Addr)from z) (by simp)
 have cellK:∀{c:Addr} {v:Option Value},s.heap.IsCell c v->h1.IsCell c v:=λ⟨o,ho,hd⟩=>⟨o,hk _ _ ho,hd⟩;refine⟨⟨e0.mod,S.kind,rfl,rfl,Yag _,inj,λy hy=>?_,λy c hf h=>?_,λ_=>hd,Yfi e0.frames,.inr ⟨rfl,rfl⟩,λb z=>absurd z (noA b),e0.bs,e0.bsz,λb _ _=>noA b,λb z=>absurd z (noA b),e0.funs,e0.frf⟩,
  rfl,e0.bare,Un.kept hk,⟨_,hns,λi y v h1 h2 h3=>?_⟩,λy c h=>?_,e0.hok.fresh (Yag _),λy c h=>(hcl y c h).2.2,λp hp=>absurd (show p∈([]:List (Addr×Obj))from hp) (by simp),e0.hok.kept hk,?_⟩
 ·have hy:scope.names.lookup y=some .cell\/scope.names.lookup y=some .free:=hy;rcases hy with hy|hy
  ·exact absurd rfl (S.nocell _ (Yaz hy))
  ·exact has y hy
 ·have hf:(scope.names.lookup y != some .free)=true:=hf;rw[(hcl y c h).1]at hf
  lia
 ·have e:=jhC h2;by_cases hi:i<vs.length
  ·rw[YaM hi]at e;obtain⟨u,hu,rv⟩:=r.get e;have hp:ps[i]?=some y:=by
    rw[<- S.pre,Ye2 (by lia)];exact h1
   have ndP:ps.Nodup:=by rw[<- S.pre];exact S.nd.sublist (YcB _ _)
   exact⟨u,rv,.inl ⟨S.par y (Ya2 hp),jkW ndP hp hu⟩⟩
  ·rw[Yby (by lia)]at e
   obtain⟨hf,c,u,hc,rv,z⟩:=hv (i-vs.length) y v (by rw[<- hl,Nat.add_sub_cancel' (by lia)];exact h1) e
   exact⟨u,rv,.inr ⟨.inr hf,c,hc,cellK z⟩⟩
 ·obtain⟨_,⟨v,z⟩,_⟩:=hcl y c h
  grind
 ·unfold start;show _=N.length;rw[YaA,Yae,Yfj,YaA]
  lia
def jmw  {K: Yab} 
  (ho:s.heap.get? f=some o) (hd:o.data=.func (fnX name qual params body scope cl .none .none doc pm none cdv ctv)) (hcd:s.heap.CodeRec cdv qual) (S:CloScope N ps scope) (hr:Room (k+1) A) (e0:Env0 P w K mg base A outer s H)
  (hb:BindsTo s (fnX name qual params body scope cl .none .none doc pm none cdv ctv) args (ps.zip us)) (r:Vals vs us) (hl:vs.length=ps.length) (hN:vs.length+cvs.length<=N.length)
  (hcl:∀x c,cl.lookup x=some c->scope.names.lookup x=some .free/\(∃v,s.heap.IsCell c v)/\H c=none) (inj:∀x y c,cl.lookup x=some c->cl.lookup y=some c->x=y)
  (has:∀x,scope.names.lookup x=some .free->∃c,cl.lookup x=some c)
  (hv:∀i x v,N[ps.length+i]?=some x->cvs[i]?=some v->scope.names.lookup x=some .free/\∃c u,cl.lookup x=some c/\RelV v u/\s.heap.IsCell c (some u))
  (hbody:Room k (A.deeper (envX qual scope s.heap.objs.size f cdv cl))->∃t,PSs (cxC P w K mg base N qual scope cl f cdv A outer s H E) body t/\t { nx:=λ_ H'=>Q .non H',rt:=Q } (start N (vs++cvs)) H) :
  codeAny (model P w) A (.call (.ref f) args) (CR (CX1 P w) outer P w H s Q E) s:=by
 have lim:s.heap.NoLimit:=e0.mod.nolimit.keeps λb o e=>(e0.bs b o e).1;refine codeAny_call_def (fd:=fnX name qual params body scope cl .none .none doc pm none cdv ctv) (body:=body) hr.depth ho hd lim hcd rfl hb S.nocell (λy hy=>S.par y.1 (Yct (show(y.1,y.2)∈_ from hy)).1) (λh1 hns hk=>?_) S.co S.gen S.kind;obtain⟨t,ht,hq⟩:=hbody (hr.deeper _);have I:=jmg (tk:=s.toks+(ps.zip us).length) (qual:=qual) (f:=f) (cd:=cdv) (E:=E) S hr.hd e0 hl r hN hns hk hcl inj has hv;refine YaO (ht [] _ _ H _ I hq) (λfl s' hs=>?_) λe s' z=>?_
 ·have fin:∀{σ':St} {H':Hp} {v:V} {u:Value},Inv (cxC P w K mg base N qual scope cl f cdv A outer s H E) [] σ' H' s'->RelV v u->Q v H'->CE outer P w H s Q u s':=
   λ{σ' H' v u} J rv q=>⟨v,H',J.os,J.bare,J.base,J.hok,rv,q⟩
  cases fl with
  |ret u=>
   obtain⟨v,σ',H',J,rv,q⟩:=hs;exact fin J rv q
  |next=>
   obtain⟨σ',H',J,q⟩:=hs;exact fin (v:=V.non) (u:=Ybx) J rfl q
  |brk=>
   obtain⟨_,_,_,q⟩:=hs
   lia
  |cont=>
   obtain⟨_,_,_,q⟩:=hs
   lia
 ·show wpAny _ _ (leaving _ e) _ _ s';unfold leaving;exact Yac z
def Fun.runX  {K: Yab}{st:Stmt} 
  (F:Fun K x qual st f fd) (S:FnScope N ps (jaa st)) (hr:Room (k+1) A) (e0:Env0 P w K mg base A outer s H) (hb:BindsTo s fd args (ps.zip us)) (r:Vals vs us) (hl:vs.length=ps.length)
  (hbody:∀cdv,fd.code=cdv->Room k (A.deeper (envOfC qual (jaa st) s.heap.objs.size f cdv))->∃t,PSs (cx1 P w K mg base N qual (jaa st) f cdv A outer s H E) (jaf st) t/\t { nx:=λ_ H'=>Q .non H',rt:=Q } (start N vs) H) :
  codeAny (model P w) A (.call (.ref f) args) (CR (CX1 P w) outer P w H s Q E) s:=by
 obtain⟨oc,od,kV,doc,pm,an,cdv,ct,osl,rfl,lk,hcd⟩:=F.ex;have kx:K.In s.heap:=e0.mod.kin.keeps λb o e=>(e0.bs b o e).1;have hcell:∀y∈ps.zip us,(jaa st).names.lookup y.1=some .local\/((jaa st).names.lookup y.1=some .cell/\((Ybf (s.heap.objs.size+1) (jaa st).names []).lookup y.1).isSome=true):=λ⟨n,v⟩ hy=>
  (S.par n (Yct hy).1).imp id λq=>⟨q,Ycs _ _ _ (.inl q)⟩
 refine YdN hr.depth (kx _ _ lk) rfl S.co S.gen rfl (YdB kx hcd) (hb _ _ _ _ (Ydd S.kind hcell λenv he s1 y=>?_));subst he;refine⟨(e0.mod.nolimit.keeps λb o e=>(e0.bs b o e).1).keeps y.toInCall.keep,Ygl ?_⟩;obtain⟨t,ht,hq⟩:=hbody cdv rfl (hr.deeper _);have I:Inv (cxOf (CX1 P w) P w K mg base N qual (jaa st) f cdv A outer s H E) [] (start N vs) H s1:=jdn S hr.hd e0 hl r y;refine YaO (ht [] s1 (start N vs) H _ (I.wish _) hq) (λfl s' hs=>?_) λe s' z=>?_
 ·cases fl with
  |ret u=>obtain⟨v,σ',H',J,rv,q⟩:=hs;exact⟨v,H',J.os,J.bare,J.base,J.hok,rv,q⟩
  |next=>obtain⟨σ',H',J,q⟩:=hs;exact⟨.non,H',J.os,J.bare,J.base,J.hok,rfl,q⟩
  |brk=>obtain⟨_,_,_,q⟩:=hs;lia
  |cont=>obtain⟨_,_,_,q⟩:=hs;lia
 ·show wpAny _ _ (leaving _ e) _ _ s';unfold leaving;exact Yac z
def CX1.outC  {K: Yab}{σ:St} 
  (I:Inv (cxC P w K mg base N qual scope cl f cd A outer s H E) pins σ H' s') (l:Lies s.heap.objs.size [] H' s'.heap ea cls dx) (q:E cls dx H'):(cxC P w K mg base N qual scope cl f cd A outer s H E).xe (.ref ea) s':=by
 have J:Inv (cxC P w K mg base N qual scope cl f cd A outer s H E) [] σ H' s':=I.pins_of λp hp=>absurd hp (by simp)
 exact jim (X:=cxC P w K mg base N qual scope cl f cd A outer s H E) (E:=λe s'=>CX1 P w outer H s E e s') J rfl rfl l λh' J' l'=>⟨ea,H',cls,dx,rfl,J'.os,J'.bare,J'.base,J'.hok,l',q⟩
def jmC  (o:Obj)(q:Str):Prop:=∃vs t,o.data=.fields vs/\vs[1]?=some (.str q t)
noncomputable abbrev frzC  (o:Obj):HO:=.frz o (.ext λ_=>True)
def jkT  (H:Hp)(P:Addr)(pos:Pos)(q:Str):Prop:=
 H P=some (.tbl #[])\/∃c oc,H P=some (.tbl #[rawInt pos.line,rawInt pos.col,.ref c])/\H c=some (frzC oc)/\jmC oc q
def jkU  (H H':Hp)(P:Addr)(pos:Pos)(q:Str)(c:Addr)(oc:Obj):Prop:=
 H' c=some (frzC oc)/\jmC oc q/\(H'=H\/(H P=some (.tbl #[])/\H c=none/\H'=upd (upd H c (frzC oc)) P (.tbl #[rawInt pos.line,rawInt pos.col,.ref c])))
def BmAt  (mg:Str->Option Value)(base:Heap):Prop:=∃bm ob,mg "__builtins__" = some (.ref bm)/\bm≠YdW/\base.get? bm=some ob/\ob.cls=.type "module" /\ ob.dict=some YdW/\ob.data=.plain

def jjV  {σ: St}(I:Inv X pins σ H s)(hN:X.N.Nodup)(hi:X.N[i]?=some name)(hx:Loc X.env.scope name)(hfn:X.fn name=true\/X.env.scope.names.lookup name=some .local)
  (hcd:X.env.code=.ref c) (hC:CodeHd X.base c P) (hB:BmAt X.mg X.base) (hT:jkT H P pos (Yc0 X.env name name)) (hd0:params.defaults=[]) (hk0:params.kw_defaults=[]) (ha:annTrees params none X.env=[])
  (hfree:∀y∈scope.names,y.2=.free->∃c,X.env.cells.lookup y.1=some c)
  (h:∀f c' oc doc ctv H' s',jkU H H' P pos (Yc0 X.env name name) c' oc->
   Inv X (pins++[(f,fnMade name (Yc0 X.env name name) params body scope (jbF X.env.cells scope.names []) doc ((X.mg "__name__").getD .none) c' ctv)]) (σ.set i (some (.ref f))) H' s'->Q .next s') :
  wpAny (model X.prog X.w) X.A (exec (.FunctionDef name params body [] none [] scope none name pos) X.env) Q X.xe s:=by
 refine nestDef_K hd0 hk0 ha ?_;have hg:s.heap.Ns YaC X.mg:=I.mod.glob.keeps I.bk;obtain⟨bm,ob,b1,b2,b3,b4,b5,b6⟩:=hB;have b3s:=I.bk _ _ b3;have neG:bm≠YaC:=λq=>by
  obtain⟨o,es,ep,e,hd,_⟩:=hg
  lia
 have noP:∀{ps:Array Value},s.heap.get? P=some (tabObj ps)->YaC≠P/\bm≠P:=by
  intro ps hP;constructor
  ·intro q;obtain⟨o,es,ep,e,hd,_⟩:=hg
   lia
  lia
 have pinOk:∀{f:Addr} {fo:Obj} {H':Hp} {s':Shared},s.heap.objs.size<=f->s'.heap.get? f=some fo->H' f=none->(∀v,fo.data≠.cell v)->Inv X pins σ H' s'->Inv X (pins++[(f,fo)]) σ H' s':=λ{f fo H' s'} hf hg hn hd J=>
  J.pins_of λp hp=>(List.mem_append.mp hp).elim (λz=>J.pin p (YaD _ z)) λz=>by
   rw[List.mem_singleton.mp z];exact⟨hg,hn,Nat.ne_of_gt (Yap I.lt hf),I.nofs hf,hd⟩
 rcases hT with hP|⟨c',oc,hP,hc',hco⟩
 ·have gP:s.heap.get? P=some (tabObj #[]):=I.hok P _ hP;refine makeFunction_K (mg:=X.mg) (jca hfree) I.ok.glob hg hcd (hC.keeps I.bk) gP trivial rfl (noP gP).1 ⟨bm,ob,b1,b2,neG,(noP gP).2,b3s,b4,b5,b6⟩ λc' ctv doc h' tk hx1 hge hlt hrec htb=>?_;obtain⟨c2,oc,vs,t,e2,hoc,hdc,hvc⟩:=hrec;cases e2;have hcn:H c'=none:=I.hok.fresh hge;have hcP:c'≠P:=λz=>by lia
  have htb':h'.get? P=some (tabObj #[rawInt pos.line,rawInt pos.col,.ref c']):=by
   simp_all
  let fo:=fnMade name (Yc0 X.env name name) params body scope (jbF X.env.cells scope.names []) doc ((X.mg "__name__").getD .none) c' ctv
  let H':=upd (upd H c' (frzC oc)) P (.tbl #[rawInt pos.line,rawInt pos.col,.ref c'])
  have oth:∀b,b≠P->b≠c'->H' b=H b:=λb h1 h2=>by show upd _ _ _ b=_;rw[jad h1,jad h2]
  have hPP:H' P=some (.tbl #[rawInt pos.line,rawInt pos.col,.ref c']):=jag;have hcc:H' c'=some (frzC oc):=by show upd _ _ _ c'=_;rw[jad hcP,jag]
  have neP:∀b,H b=none->b≠P:=λb n z=>by lia
  have neC:∀b o,s.heap.get? b=some o->b≠c':=λb o e z=>absurd (Yak e) (Nat.not_lt.mpr (z ▸ hge));have kp:∀b o,b≠P->s.heap.get? b=some o->(h'.push fo).get? b=some o:=λb o hb e=>Yad _ (hx1 b o hb e);have trc:∀b u,H b=some u->b≠c':=λb u e z=>by lia
  have un:Un X.fs [] H H' s.heap (h'.push fo):=by
   refine⟨λb o e n _ _=>kp b o (neP b n) e,λb o e n _ _=>⟨o.slots,kp b o (neP b n) e⟩,λb o e n _=>?_,λb o e _=>?_,λb xs e=>?_,λb o u e=>?_,λb ps e=>?_⟩
   ·simp_all
   ·by_cases hb:b=P
    ·exact⟨_,by rw[hb];exact Yad _ htb'⟩
    simp_all
   ·grind
   ·grind
   ·by_cases hb:b=P
    ·simp_all
    simp_all
  have hok:HOk X.prog X.w H' (h'.push fo):=λb u e=>by
   by_cases hb:b=P
   ·subst hb;rw[hPP]at e;cases e;exact Yad _ htb'
   ·by_cases hbc:b=c'
    ·subst hbc;rw[hcc]at e;cases e;exact⟨Yad _ hoc,trivial,⟨_,Yad _ hoc⟩,λ_ _ _ _=>trivial⟩
    ·rw[oth b hb hbc]at e;refine(I.hok b u e).stay (λd v hd q=>kp d v ?_ q) (λd q=>?_) λd xs q=>?_
     ·lia
     ·grind
     grind
  have hfs:s.heap.objs.size<=h'.objs.size:=YbQ (YaV hge hlt);have hfn':H' h'.objs.size=none:=by
   have hn:H h'.objs.size=none:=I.hok.fresh hfs
   grind
  have J:=pinOk (fo:=fo) (s':={ s with heap:=h'.push fo,toks:=tk }) hfs (Yaq _ rfl) hfn' (λv z=>by cases z) (I.un (t':=tk) un hok)
  exact jcO J hN hi hx (v:=.ref h'.objs.size) rfl (λs' J'=>h _ c' oc doc ctv H' s' ⟨hcc,⟨vs,t,hdc,hvc⟩,.inr ⟨hP,hcn,rfl⟩⟩ J') hfn
 ·have gP:s.heap.get? P=some (tabObj #[rawInt pos.line,rawInt pos.col,.ref c']):=I.hok P _ hP;refine makeFunction_hit (mg:=X.mg) (cv:=.ref c') (jca hfree) I.ok.glob hg hcd (hC.keeps I.bk) gP trivial (by simp[codeAmong,rawInt]) ⟨bm,ob,b1,b2,neG,(noP gP).2,b3s,b4,b5,b6⟩ λctv doc h' tk hk hsz=>?_
  have kp:∀b o,s.heap.get? b=some o->(h'.push (fnMade name (Yc0 X.env name name) params body scope (jbF X.env.cells scope.names []) doc ((X.mg "__name__").getD .none) c' ctv)).get? b=some o:=λb o e=>Yad _ (hk b o e);have J:=pinOk (fo:=fnMade name (Yc0 X.env name name) params body scope (jbF X.env.cells scope.names []) doc ((X.mg "__name__").getD .none) c' ctv) (H':=H) (s':={ s with heap:=_,toks:=tk }) hsz (Yaq _ rfl) (I.hok.fresh hsz) (λv z=>by cases z) (I.kept (t':=tk) kp)
  exact jcO J hN hi hx (v:=.ref h'.objs.size) rfl (λs' J'=>h _ c' oc doc ctv H s' ⟨hc',hco,.inl rfl⟩ J') hfn
def jkf  (tb:List Addr)(H:Hp):Prop:=∀b,if b∈tb then H b=some (.tbl #[]) else H b=none\/∃o xs,H b=some (.frz o (.lst xs))
def law_callT    {K:Yab}{CX:CXT}{k:Nat}{x:Str}{sp:Sp} 
  (hKl:(K.all λp=>p.2.cls != .type "list")=true) (htb:∀b∈tb,s₁.heap.get? b=some (tabObj #[])/\isCodeTable s₁.heap b/\K.lookup b=none) (hbm:BmAt mg s₁.heap)
  (KX:K.In s₁.heap) (hsys:∃o,K.lookup Ya8=some o/\o.cls=.type "dict") (hns:s₁.heap.Ns YaC mg) (hb:s₁.heap.Ns YdW mb) (hbb:∀x:Str,x ≠ "__name__" -> mb x=YbT x) (hlim:s₁.heap.NoLimit) (hg:s₁.gens=#[])
  (ha:s₁.heap.get? a=some { cls:=.type "list",data:=.seq vs.toArray }) (hi:IntsAre vs ns) (hl:ns.length<=Yaf) (hr:Room k callerA)
  (F:∀base ,K.In base->base.Ns YaC mg->BmAt mg base->FnOk P w K mg base CX k fa fd [x] sp) (hbind:∀(s:Shared) u ,BindsTo s fd ⟨[u],[]⟩ [(x,u)])
  (hsp:∀H (o:Obj),jkf tb H->H a=some (.frz o (.lst (ns.map V.int)))->sp [.ref a] H (λv _=>v=.bl true) λ_ _ _=>False)
  (hCX:∀H e s',CX [] H s₁ (λ_ _ _=>False) e s'->False) :
  codeAny (model P w) callerA (.call (.ref fa) ⟨[.ref a],[]⟩) (λr s'=>r=.ok (.ret (.bool true))/\OldK s₁.heap s'.heap/\s'.os=s₁.os/\AllBare s'.gens) s₁:=by
 have ka:K.lookup a=none:=by
  cases hk:K.lookup a with
  |none=>rfl
  |some o=>
   have e:=KX a o hk;rw[ha]at e;cases e;have:=Ydk.mp hKl (a,_) (mem_of_lookupK hk)
   lia
 let oa:Obj:={ cls:=.type "list",data:=.seq vs.toArray }
 have hat:a∉tb:=λz=>by
  simp_all
 obtain⟨H,hH⟩:∃H:Hp,H=λb=>if b∈tb then some (.tbl #[]) else if b=a then some (.frz oa (.lst (ns.map V.int))) else none:=⟨_,rfl⟩
 have H1:∀{b},b∈tb->H b=some (.tbl #[]):=λhb=>by lia
 have H2:H a=some (.frz oa (.lst (ns.map V.int))):=by
  lia
 have H3:∀{b},b∉tb->b≠a->H b=none:=λ{b} h1 h2=>by
  lia
 clear hH;have free:∀{b:Addr} {o:Obj},s₁.heap.get? b=some o->o.cls≠.none->(∀xs n,o.data≠.seq xs n)->H b=none:=λ{b o} e h1 h2=>by
  refine H3 (λz=>?_) λz=>?_
  ·grind
  grind
 have hok:HOk P w H s₁.heap:=λb u e=>by
  by_cases h1:b∈tb
  ·rw[H1 h1]at e;cases e;exact(htb b h1).1
  ·by_cases h2:b=a
   ·subst h2;rw[H2]at e;cases e;exact⟨ha,by simp_all,vs,_,jeM hi,ha⟩
   simp_all
 have nsK:∀{b:Addr} {m:Str->Option Value},s₁.heap.Ns b m->(hidT s₁.heap H).Ns b m:=λ{b m} ⟨o,es,ep,e,d,r⟩=>by
  refine⟨o,es,ep,jez e (H3 (λz=>?_) λz=>?_),d,r⟩
  ·grind
  lia
 have hKb:K.In (hidT s₁.heap H):=λb o e=>jez (KX b o e) (H3 (λz=>by grind) λz=>by lia)
 have hM:Mod K mg (hidT s₁.heap H):=⟨hKb,nsK hns,⟨mb,nsK hb,hbb⟩,let ⟨mc,h1,h2⟩:=hlim;⟨mc,nsK h1,h2⟩,hsys⟩
 have hBb:BmAt mg (hidT s₁.heap H):=by
  obtain⟨bm,ob,b1,b2,b3,b4,b5,b6⟩:=hbm;exact⟨bm,ob,b1,b2,jez b3 (free b3 (by lia) (by lia)),b4,b5,b6⟩
 have e0:Env0 P w K mg (hidT s₁.heap H) callerA [] s₁ H:=⟨rfl,hM,λb o e=>jlT e,Yej (jiD _ _),trivial,λb hb=>(nomatch hb),hok,.of_eq hg⟩;have only:jkf tb H:=λb=>by
  grind
 refine Ydg ((F _ hKb (nsK hns) hBb).run callerA [] s₁ H ⟨[.ref a],[]⟩ [.ref a] [.ref a] _ _ hr e0 (hbind s₁ (.ref a)) (.cons rfl .nil) (hsp H oa only H2)) λr s' h=>?_
 match r,h with
 |.error e,h=>exact(hCX H e s' h).elim
 |.ok (.ret u),h=>
  obtain⟨v,H',os,bare,un,hok',r',q⟩:=h;have q':v=.bl true:=q;subst q';obtain rfl:u=YeN true:=r';refine⟨rfl,⟨λb o e=>?_,λb o e=>un.there b o e (by simp)⟩,os,bare⟩
  by_cases h1:b∈tb
  ·obtain⟨e1,ht,_⟩:=htb b h1;rw[e]at e1;cases e1;obtain⟨more,e2⟩:=un.tbls b _ (H1 h1);exact .inr (.inl ⟨ht,rfl,#[],more,rfl,hok' b _ e2⟩)
  ·by_cases h2:b=a
   ·subst h2;obtain⟨e2,_⟩:=hok' b _ (un.frzs b _ _ H2);rw[ha]at e;cases e;exact .inl e2
   ·exact .inl (un.keep b o e (H3 h1 h2) (by intro z;exact(nomatch z)) (by simp))
def walk_ofT  {l:Yec}{K:Params->Yab}{CX:World->CXT}{sp:World->Sp}{tbs:List (Str×Addr×Addr)}
  (hKl:∀w:World,((K w.params).all λp=>p.2.cls != .type "list")=true) (htb:∀(w:World),∀t∈tbs,(∃dr,(recsOf q).find? (λe=>e.name==t.1)=some dr)/\tabIn (K w.params) t.1=some (t.2.1,t.2.2)/\(K w.params).lookup t.2.2=none)
  (hn:l.most=some n) (hn2:n<=Yaf) (hdf:d.params.defaults=[]) (hr:Room k callerA)
  (hY:∀(w:World) (h:Heap),YP w h->(K w.params).In h) (hsy:∀w:World,∃o,(K w.params).lookup Ya8=some o/\o.cls=.type "dict")
  (F:∀(w:World) mg fa (h:Heap),(K w.params).In h->h.Ns YaC mg->mg d.name=some (.ref fa)->
   ∃fd ,(∀(s:Shared) u ,BindsTo s fd ⟨[u],[]⟩ [(x,u)])/\
    ∀base ,(K w.params).In base->base.Ns YaC mg->BmAt mg base->FnOk l.prog w (K w.params) mg base (CX w) k fa fd [x] (sp w))
  (hsp:∀(w:World) H (o:Obj) a (ns:List Int),ns.length<=n->jkf (tbs.map (·.2.2)) H->H a=some (.frz o (.lst (ns.map V.int)))->sp w [.ref a] H (λv _=>v=.bl true) λ_ _ _=>False)
  (hCX:∀(w:World) H (s:Shared) (e:Value) s' ,CX w [] H s (λ_ _ _=>False) e s'->False) :
  Ygn q loose XP YP l.row.toRowW d [] (λf vs=>YfV f vs):=by
 refine Att.attach_call hn hdf λw s₀ s₁ mg mb fa o pm cd doc a vs ns G Y ho hd hcd hmg hobj hints hlen hg=>?_;have kx:=hY w _ Y;obtain⟨fd,hb,hF⟩:=F w mg fa _ kx G.T.g hmg;refine law_callT (tb:=tbs.map (·.2.2)) (hKl w) (λb hb=>?_) ?_ kx (hsy w) G.T.g G.T.b G.T.builtins G.T.nolimit hg hobj hints (Yai hlen hn2) hr hF hb (λH o hO hS=>hsp w H o a ns hlen hO hS) λH e s'=>hCX w H s₁ e s'
 ·obtain⟨t,ht,rfl⟩:=List.mem_map.mp hb;obtain⟨⟨dr,h1⟩,h2,h3⟩:=htb w t ht;obtain⟨c1,c2⟩:=tab_of G.T kx h1 h2;exact⟨c2,(c1.tab c2).isCodeTable,h3⟩
 ·obtain⟨bm,ob,b1,b2,b3,b4,b5,b6⟩:=G.T.bmain;exact⟨bm,ob,b1,b2,b3,b4,b5,b6⟩
end L2

namespace L2
open PySem PySem.Spec PyProof.Rows
open Sem (wp)
open AutoSeq1 (wpAny_loadPart')

def jeK  {s: Shared}(hL:s.heap.IsList l items)
  (h:∀h',IsEnum h' (s.heap.objs.size+1) s.heap.objs.size 0 .none->h'.IsListIter s.heap.objs.size l 0->(∀b o,s.heap.get? b=some o->h'.get? b=some o)->Q (.ref (s.heap.objs.size+1)) { s with heap:=h' }) :
  wpAny (model prog w) A (call (.type "enumerate") [.ref l]) Q E s:=by
 have at2:∀(p:Heap) (n:Nat) (o:Obj),p.objs.size=n->o.isFreed=false->(p.push o).get? n=some o:=λp n o e f=>by
  subst e;exact Yaq p f
 have sz:=λo=>YeT s.heap o;refine callType_new F.called_enumerate (by decide) (F.typeCall_enumerate_1 _) (F.newCall_enumerate_1 _) (λobj=>Yge obj _) F.entry_enumerate_new (jev (.ref l) _) ⟨λ_ _ _ _ _ q=>Ydo hL q,?_⟩
 rw[sz];have he:=at2 _ _ ⟨.type "enumerate",none,.fields #[.none,.bool false,.ref s.heap.objs.size,rawInt 0,.none,.none],#[]⟩ (sz ⟨.type "list_iterator",none,.fields #[.ref l,.int 0 0],#[]⟩) rfl;exact⟨⟨_,he,rfl⟩,h _ he ⟨_,Yad _ (at2 _ _ _ rfl rfl),rfl,rfl⟩ λb o x=>Yad _ (Yad _ x)⟩

noncomputable def Itf  (K:Yab)(a:Addr):It:=
 ⟨λi H=>∃xs x,SqL K H a xs/\xs[i]?=some x,λi H y H'=>∃x p,(∀xs,SqL K H a xs->xs[i]?=some x)/\y=.ref p/\H p=none/\H'=upd H p (.tup [.int (i:Int),x]),λi H=>∃xs,SqL K H a xs/\xs.length=i⟩
def jg3    {K:Yab} a e it (hei:e≠it)(hae:a≠e)(hai:a≠it) :
  Turn P w K (.Tuple elts x1 pos) (Itf K a) [e,it] e (λi h=>(∃old,IsEnum h e it (i:Int) old)/\h.IsListIter it a i) where
 mem:=by simp
 obj:=λi h st b hb=>by
  obtain⟨⟨old,he⟩,o,ho,c,d⟩:=st
  grind
 keep:=λi h h' st k=>by
  obtain⟨⟨old,he⟩,o,ho,r⟩:=st;exact⟨⟨old,k e (by simp) _ he⟩,o,k it (by simp) _ ho,r⟩
 item:=by
  intro X hP hw hK hc i pins s σ H E I hf st hg;subst hP hw hK;obtain⟨xs,x,hq,hx⟩:=hg;obtain⟨its,rv,p,hz⟩:=I.list hq;obtain⟨u,hu,ru⟩:=rv.get hx;obtain⟨⟨old,he⟩,hit⟩:=st;have hlt:i<its.toArray.size:=by
   grind
  refine wpAny_pyNext_enum_itemD (Ye4 (A:=X.A.in1) (I.ok.hd hc) it a hai its.toArray) he ⟨hit,p.isList⟩ hlt hei (by grind) λx' h' tk hP ho hs' hT hsz hk=>?_
  refine⟨_,rfl,wpAny_letOwnedTupleGo_enum ho λh2 he2 hs2=>?_⟩;have ex:x'=u:=by
   simp_all
  subst ex;have hfr:H s.heap.objs.size=none:=I.hok.fresh (Yag _);have hen:e≠s.heap.objs.size:=YaI (Yak he);have hin:it≠s.heap.objs.size:=by obtain⟨o,ho',_⟩:=hit;exact YaI (Yak ho')
  have I1:Inv X pins σ (upd H s.heap.objs.size (.tup [.int (i:Int),x])) { s with heap:=s.heap.push { cls:=.type "tuple",data:=.seq #[.int i tk,x'] },toks:=tk+1 }:=by
   refine I.laid (λb o y=>Yad _ y) (Yag _) ⟨by show 2<=Yaf;decide,[.int i tk,x'],.cons ⟨tk,rfl⟩ (.cons ru .nil),TupD.new _ _⟩
  have fpU:∀b,b≠s.heap.objs.size->FpOk X pins H b->FpOk X pins (upd H s.heap.objs.size (.tup [.int (i:Int),x])) b:=λb hb f=>⟨by rw[jad hb];exact f.1,f.2⟩
  have kk:∀b o,b≠e->b≠it->(s.heap.push { cls:=.type "tuple",data:=.seq #[.int i tk,x'] }).get? b=some o->h2.get? b=some o:=λb o be bi y=>by
   have step:h'.get? b=some o:=by
    by_cases hb:b=s.heap.objs.size
    ·subst hb;rw[hT];exact(Yaq s.heap (o:={ cls:=.type "tuple",data:=.seq #[.int i tk,x'] }) rfl).symm.trans y
    ·rw[Heap.get?_push_ne _ _ _ hb]at y
     simp_all
   exact(hs2.2 b be).trans step
  have I2:Inv X pins σ (upd H s.heap.objs.size (.tup [.int (i:Int),x])) { s with heap:=h2,toks:=tk+1 }:=
   jk7 (s:={ s with heap:=s.heap.push { cls:=.type "tuple",data:=.seq #[.int i tk,x'] },toks:=tk+1 }) (h':=h2) (t':=tk+1) (e:=e) (it:=it) I1 kk (fpU e hen (hf e (by simp))) (fpU it hin (hf it (by simp)))
  refine⟨.ref s.heap.objs.size,_,I2,rfl,⟨x,_,λys hy=>by rw[I.list_inj hy hq];exact hx,rfl,hfr,rfl⟩,⟨⟨_,by simpa using he2⟩,?_⟩,λb hb=>?_⟩
  ·obtain⟨o,ho',r⟩:=hs'.1;exact⟨o,(hs2.2 it (Ne.symm hei)).trans ho',r⟩
  ·simp only[YaG,Yar,or_false]at hb;rcases hb with rfl|rfl
   ·rw[jad hen];exact(hf _ (by simp)).1
   ·rw[jad hin];exact(hf _ (by simp)).1
 done:=by
  intro X hP hw hK hc i pins s σ H E I hf st hg;subst hP hw hK;obtain⟨xs,hq,hx⟩:=hg;obtain⟨its,rv,p,hz⟩:=I.list hq;obtain⟨⟨old,he⟩,hit⟩:=st;have hl:its.toArray.size=i:=by rw[Yam,<- rv.length];exact hx
  refine wpAny_pyNext_enum_endD (Ye4 (A:=X.A.in1) (I.ok.hd hc) it a hai its.toArray) he ⟨by lia,p.isList⟩ λh' eb=>⟨rfl,?_⟩
  obtain⟨f0,f1,f2,f3,f4,f5⟩:=hf it (by simp)
  exact I.turned (t':=s.toks) (λb o hb y=>eb b o hb y) f0 f1 f3 f4 f5
 self:=λA i s Q E st h=>by
  obtain⟨⟨old,he⟩,_⟩:=st;exact wpAny_pyIter_enum he h
section
variable {X:Cx}
def joq  (K:Yab)(ta:TA):TI:=λσ H R=>ta σ H λvs H1=>∃a,vs=[.ref a]/\((∃xs,SqL K H1 a xs)/\R (Itf K a) H1)
def jjH {l:Expr}{ta:TA}{p pos tpos:Pos}{elts:List Expr}{x1}(hg:Gl X "enumerate")(hm:X.mg "enumerate" = none)(ha:PA X [l] ta)(hs:Yax [l] X.env=[(false,eval l X.env)]:=by rfl) :
  PI X (.Tuple elts x1 tpos) (.Call (.Name "enumerate" p) [l] [] pos) (joq X.K ta):=by
 intro pins s σ H R I h;refine Call_ (jdT I hg hm boot_enumerate (YbO (thn (ha pos pins s σ H _ I h) λus s1 ⟨vs,H1,I1,r1,q1⟩=>?_) hs rfl));obtain⟨a,e,q⟩:=q1;subst e;obtain⟨u,rfl,rx⟩:=jcc r1;cases rx;have fp:∀b∈[s1.heap.objs.size+1,s1.heap.objs.size],FpOk X pins H1 b:=λb hb=>by
  simp only[YaG,Yar,or_false]at hb;rcases hb with rfl|rfl
  ·exact I1.fpOk (YdS _) (I1.hok.fresh (YdS _))
  ·exact I1.fpOk (Yag _) (I1.hok.fresh (Yag _))
 obtain⟨⟨xs,hq⟩,q⟩:=q
 ·obtain⟨its,rv,t,hz⟩:=I1.list hq;have hlt:a<s1.heap.objs.size:=by obtain⟨o,ho,_⟩:=t.isList;exact Yak ho
  exact jeK (items:=its.toArray) t.isList λh' he hit hk=>wpAny_pyIter_enum he ⟨_,_,_,_,H1,rfl,I1.kept (t':=s1.toks) hk,jg3 a _ _ (Nat.succ_ne_self _) (YaI (Nat.lt_succ_of_lt hlt)) (YaI hlt),⟨⟨_,he⟩,hit⟩,fp,q⟩
end
end L2

namespace L2
open PySem PySem.Spec PyProof.Rows
section
variable {X:Cx}
def jh1  : OpR X (YaN .LtE) (λx y H Q=>∃i j,x=.str i/\y=.str j/\Q (.bl (!decide (j.cps.toList<i.cps.toList))) H):=by
 intro pins s σ H x y v u Q I rx ry h;obtain⟨i,j,rfl,rfl,q⟩:=h;obtain⟨t,rfl⟩:=rx;obtain⟨t',rfl⟩:=ry;exact PySem.P.le_str (jak I q rfl)
def jeJ  : jaU X (.type "int") (λxs H Q=>∃z n,xs=[.str z]/\PySem.intText? z=some n/\z.length<=640/\Q (.int n) H):=by
 intro pins s σ H xs us Q I r h;obtain⟨z,n,rfl,h1,h2,q⟩:=h;obtain⟨u,rfl,rx⟩:=jcc r;obtain⟨t,rfl⟩:=rx;exact PySem.W.KIN.call_text h1 h2 ⟨.int n,H,I.tok _,⟨_,rfl⟩,q⟩
noncomputable def Its  (x:Str):It:=⟨λi _=>i<x.cps.size,λi H y H'=>H'=H/\∃c,x.cps[i]?=some c/\y=.str ⟨#[c]⟩,λi _=>x.cps.size<=i⟩
def jji    {K:Yab} x t it:Turn P w K tg (Its x) [it] it (λi h=>h.IsStrIter it "str_ascii_iterator" x t i) where
 mem:=by simp
 obj:=λi h st b hb=>by
  obtain rfl:b=it:=by simp_all
  obtain⟨o,e,c,d⟩:=st
  simp_all
 keep:=λi h h' st k=>let ⟨o,e,r⟩:=st;⟨o,k it (by simp) o e,r⟩
 item:=by
  intro X hP hw hK hc i pins s σ H E I hf st hg;subst hP hw hK;obtain⟨f0,f1,f2,f3,f4,f5⟩:=hf it (by simp)
  have hg:i<x.cps.size:=hg;have hx:x.cps[i]?=some x.cps[i]:=by simp[hg]
  refine wpAny_pyNext_ascii_item st hx λh' st' sb=>?_;have I1:Inv X pins σ H { s with heap:=h',toks:=s.toks+1 }:=I.turned (t':=s.toks+1) (λb o hb e=>(sb.2 b hb).trans e) f0 f1 f3 f4 f5
  obtain⟨o,e,c,d⟩:=id st';exact⟨_,rfl,jj5 (s:={ s with heap:=h',toks:=s.toks+1 }) e c d (by decide) ⟨.str ⟨#[x.cps[i]]⟩,H,I1,⟨_,rfl⟩,⟨rfl,_,hx,rfl⟩,st',λb hb=>(hf b hb).1⟩⟩
 done:=by
  intro X hP hw hK hc i pins s σ H E I hf st hg;subst hP hw hK;obtain⟨f0,f1,f2,f3,f4,f5⟩:=hf it (by simp)
  have hg:x.cps.size<=i:=hg;exact wpAny_pyNext_ascii_end (I.ok.hd hc) st (by simp_all) λh' eb=>⟨rfl,I.turned (t':=s.toks) (λb o hb e=>eb b o hb e) f0 f1 f3 f4 f5⟩
 self:=λ_ _ _ _ _ st h=>wpAny_pyIter_striter_ascii st h
def iStr  (tl:TE):TI:=λσ H R=>tl σ H λx H1=>∃z:Str,x=.str z/\z.cps.all (·< 128)=true/\R (Its z) H1
def jnp    (hl:PE X l tl):PI X tg l (iStr tl):=by
 intro pins s σ H R I h;refine thn (hl pins s σ H _ I h) λv s1 ⟨x,H1,I1,r1,z,e,ha,q⟩=>?_;subst e;obtain⟨t,rfl⟩:=r1;refine wpAny_pyIter_ascii ha ?_;refine⟨s1.heap.objs.size,[s1.heap.objs.size],_,_,H1,rfl,I1.kept (t':=s1.toks) λb o e=>Yad _ e,jji z t _,⟨_,Yaq _ rfl,rfl,rfl⟩,λb hb=>?_,q⟩;obtain rfl:b=s1.heap.objs.size:=by simp_all
 exact I1.fpOk (Yag _) (I1.hok.fresh (Yag _))
theorem jgT        (hne:a≠it):∀m i (s:Shared) Q ,s.heap.IsListIter it a i->s.heap.IsList a its->i+m<=its.size->
  (∀h',h'.IsListIter it a (i+m)->YcZ it s.heap h'->Q ((its.toList.drop i).take m) { s with heap:=h' })->wpAny (model prog w) A (draw (.ref it) m) Q E s
 |0,i,s,Q,hit,_,_,q=>Yaj (by simpa using q s.heap hit (YcZ.refl ..))
 |m+1,i,s,Q,hit,hl,hle,q=>by
  have hi:i<its.size:=by lia
  show wpAny _ _ (pyNext (.ref it) >>= _) Q E s;refine Yac (Yf2 hit hl (x:=its[i]) (by simp[hi]) λh1 hit1 sb1=>?_)
  refine Yac (Ybe (jgT hne m (i+1) _ _ hit1 (hl.extBut sb1.extBut hne) (by lia) λh2 hit2 sb2=>Yaj ?_))
  have e:its.toList.drop i=its[i]::its.toList.drop (i+1):=by simp[Ybi,hi]
  have r:=q h2 (by lia) (sb1.trans sb2)
  simp_all
def gLst  (K:Yab)(n:Nat)(t:TGs):TG:=λv σ H Q=>∃a xs,v=.ref a/\SqL K H a xs/\xs.length=n/\t xs σ H Q
def jnt {es:List Expr}{k n:Nat}{pos:Pos}{t:TGs}(hc:X.calm=true)(h:PGs X es t)
  (hn:(YaZ es X.env).length=n:=by rfl) (hst:(YaZ es X.env).findIdx? (·.1)=none:=by rfl):PG X (.Tuple es k pos) (gLst X.K n t):=by
 intro pins s σ H v u Q I r hw;obtain⟨a,xs,rfl,hq,hl,hw⟩:=hw;cases r;obtain⟨its,rv,hp,hz⟩:=I.list hq;have hL:=hp.isList;have hlt:a≠s.heap.objs.size:=by obtain⟨o,ho,_⟩:=hL;exact YaI (Yak ho)
 have sz:its.toArray.size=n:=by rw[Yam,<- rv.length];exact hl
 rw[assign_Tuple];refine Yac (Yck ?_);unfold unpack;rw[hn,hst];refine Yac (Ybe ?_);unfold unpackItems;refine Yac ?_;unfold notIterableAtAll;refine Yac (wpAny_specialOf hL.typeIs slot_list_iter.lookup ?_);refine Yaj ?_;simp only[Ybk,if_false];refine Yac (Ybe (Ydo hL ?_));refine Yac (Ybe (jgT hlt n 0 _ _ ⟨_,Yaq _ rfl,rfl,rfl⟩ (hL.push _) (by lia) λh1 hit1 sb1=>?_))
 have hall:List.take n (List.drop 0 its.toArray.toList)=its:=by
  grind
 rw[hall];have hil:its.length=n:=by simp_all
 rw[if_neg (by lia)]
 have hL1:h1.IsList a its.toArray:=(hL.push _).extBut sb1.extBut hlt;refine Yac (Ybe (Ygg (I.ok.hd hc) hit1 hL1 (by simp;lia) λh2 eb=>?_))
 simp only[Option.isSome_none,Ybk,if_false];refine Yaj ?_;have I1:Inv X pins σ H { s with heap:=h2 }:=I.kept (t':=s.toks) λb o e=>eb b o (YaI (Yak e)) (sb1.extBut b o (YaI (Yak e)) (Yad _ e))
 exact h pins _ σ H xs _ Q I1 rv hw
end
end L2

namespace L2
open PySem PySem.Spec PyProof.Rows Builtin Builtin.Str
def jlc    (h:c∈(strSub x i j).cps.toList):c∈x.cps.toList:=by
 unfold strSub at h;have h:c∈(x.cps.extract i j).toList:=h;rw[Array.toList_extract]at h
 grind
def jhZ     (hp:p∈partsBetween x cuts n)(h:c∈p.cps.toList):c∈x.cps.toList:=by
 unfold partsBetween at hp;obtain⟨⟨i,j⟩,_,rfl⟩:=List.mem_map.mp hp;exact jlc h

end L2

namespace L2
open PySem PySem.Spec PyProof.Rows
section
variable {prog:Program}{w:World}{K:Type}[DecidableEq K]{knd:KeyKind prog w K}{A:Around}{E:Value->Shared->Prop}{s:Shared}
def jeS       (hkey:knd.is k key=true)(hm:s.heap.DictOf knd d kvs)(hsz:kvs.length<=Yaf)
  (h1:∀u,valueAt kvs k=some u->Q u { s with toks:=s.toks+1 })
  (h2:valueAt kvs k=none->∀h',h'.DictOf knd d (stored kvs k v)->YcZ d s.heap h'->Q v { s with heap:=h',toks:=s.toks+1 }):wpAny (model prog w) A (Yfp d key v) Q E s:=by
 obtain⟨f,hf⟩:∃f,f=valueAt kvs k:=⟨_,rfl⟩;have hw:=hm.mapOf;obtain⟨o,es,ep,ho,hc,hd,hk,hp,hn⟩:=hm;have fit:es.size<=Yaf:=by
  rw[<- Ycn,hp.length];exact hsz
 have hv:valueAt kvs k=findBy knd.is es k:=by
  rw[<- hp.find k];obtain⟨l⟩:=es;simp[findBy]
 unfold Yfp;refine Ybe (Yac (knd.pyHash hkey (Yac (wpAny_dictFind_of (s:={ s with toks:=s.toks+1 }) hkey ho hd hk ?_))))
 rw[findBy_of_findIdx?]at hv;obtain⟨at?,hi⟩:∃o,es.findIdx? (λe=>knd.is k e.key)=o:=⟨_,rfl⟩;rw[hi]at hv ⊢;cases at? with
 |some i=>
  refine Yac (wpAny_dictEntries (s:={ s with toks:=s.toks+1 }) ho hd ?_)
  have lt:i<es.size:=(Array.findIdx?_eq_some_iff_findIdx_eq.mp hi).1;rw[YeM lt];refine Yac (wpAny_rule (Yaj (h1 _ ?_)))
  simp_all
 |none=>
  have nin:k∉kvs.map (·.1):=by
   intro z;obtain⟨p,hp1,hp2⟩:=List.mem_map.mp z;have:valueAt kvs k≠none:=by
    unfold valueAt
    simp_all
   lia
  have est:stored kvs k v=kvs++[(k,v)]:=by
   unfold stored
   simp_all
  refine Yac (wpAny_rule (Yac (wpAny_updateDictKeys (hz:=fit) (s:={ s with toks:=s.toks+1 }) ho hd (Yaj (h2 hv _ ?_ (YcZ.update ..))))))
  rw[est];refine⟨_,_,ep+1,Yb7 _ ho (Obj.isFreed_of_dict (YfH hd _)),hc.mapDictKeys _,YfH hd _,hk.push hkey _,?_,?_⟩
  ·rw[Array.toList_push];exact hp.append hkey (knd.hash k) v
  ·rw[Yav,Yga];refine⟨hn,by simp,λa ha b hb e=>?_⟩
   have:b=k:=by simpa using hb
   exact nin (by rw[<- this,<- e];exact ha)
end

def jpA  : V->List V->Hp->VK->Prop:=λx vs H Q=>∃a kvs k v,x=.ref a/\vs=[kV k,v]/\H a=some (.dK kvs)/\kvs.length<Yaf/\
 (match valV kvs k with|some u=>Q u H|none=>Q v (upd H a (.dK (putK kvs k v))))
def jl0  : MtR X "dict.setdefault" jpA:=by
 intro pins s σ H x vs v0 us Q I rx rv h;obtain⟨a,kvs,k,v,rfl,rfl,e,l,q⟩:=h;cases(show v0=YaQ a from rx);obtain⟨u,r,rfl,ru,rr⟩:=Vals.two rv;obtain⟨z,hd,ws,rel,dd⟩:=jmr I.hok e;refine YdV (YcU PySem.F.slot_dict_setdefault.plain PySem.F.entry_dict_setdefault (PySem.F.slot_dict_setdefault.check _ _ _ _ _ _ _ _ dd.typeIs (PySem.F.args_dict_setdefault_3 _ _ _) ?_));have opened:∀{R:Fin->Shared->Prop} {E:Value->Shared->Prop},wpAny (model X.prog X.w) X.A.in1 (Yfp a u r >>= λv=>ret v) R E s->wpAny (model X.prog X.w) X.A.in1 (Builtin.«dict.setdefault» ⟨[.ref a,u,r],[]⟩) R E s:=λ{R E} h=>by
  unfold Builtin.«dict.setdefault» Builtin.Dict.keyAndDefault;refine Yac (Yac (wpAny_notOrdered_dict dd.typeIs (Yaj ?_)))
  simp_all
 refine opened ?_;refine Yac (jeS (jfc ru) dd (by rw[<- rel.length];exact z) (λw hw=>Yaj ?_) (λhw h' dd' hs=>Yaj ?_))
 ·have:=rel.val k;cases hv:valV kvs k with
  |none=>rw[hv,hw]at this;exact this.elim
  |some x=>
   rw[hv,hw]at this;rw[hv]at q;exact⟨x,H,I.tok _,this,q⟩
 ·have:=rel.val k;cases hv:valV kvs k with
  |some x=>rw[hv,hw]at this;exact this.elim
  |none=>
   rw[hv]at q;have hl:(putK kvs k v).length<=Yaf:=by have:=jbg kvs k v;lia
   have he:∃q,h'.get? a=some q:=let ⟨q,_,_,hq,_⟩:=dd';⟨q,hq⟩
   exact⟨v,_,jeF I (by rw[e];exact YbK) hs he (jiM hl hd (rel.put k rr) dd'),rr,q⟩


end L2

namespace L2
open PySem PySem.Spec PyProof.Rows
open Sem (wp)
structure Zs (h:Heap)(n a1 a2 k:Nat)(f0:Value):Prop where
 z:IsZip h (n+4) (n+2) (n+3) f0
 i:IsPair h (n+2) (.ref n) (.ref (n+1))
 o:∃p q,IsPair h (n+3) p q
 i1:h.IsTupleIter n a1 k
 i2:h.IsTupleIter (n+1) a2 k


end L2

namespace L2
open PySem PySem.Spec PyProof.Rows PySem.W


end L2

namespace L2
open PySem PySem.Spec PyProof.Rows



end L2

namespace Z
open PySem L2
inductive U where
 |non|bl (b:Bool)|int (i:Int)|str (x:Str)|tup (xs:List U)|loc (a:Addr)|fn (n:Nat)|ty (n:String)
 |exc (c:Nat) (fs:List U)|own (n:Nat)|clo (n:Nat) (cs:List U)
inductive MO where
 |lst (xs:List U)|fro (xs:List U)|dK (kvs:List (Key×U))|dT (kvs:List (List Key×U))|frd (o:Obj) (kvs:List (List Key×U))|frk (o:Obj) (kvs:List (Key×U))
abbrev Gp:=Addr->Option MO
noncomputable def gup  (G:Gp)(a:Addr)(o:MO):Gp:=λb=>if b=a then some o else G b
structure New (G:Gp)(p:Addr)(o:MO)(G':Gp):Prop where
 no:G p=none
 eq:G'=gup G p o
structure Put (G:Gp)(a:Addr)(o:MO)(G':Gp):Prop where
 eq:G'=gup G a o
structure XV where
 c:Nat
 fs:List U
abbrev Sg:=List (Option U)
abbrev K1:=U->Gp->Prop
abbrev KX:=XV->Gp->Prop
def newO  (G:Gp)(o:MO)(Q:K1):Prop:=∀p G',New G p o G'->Q (.loc p) G'
def putO  (G:Gp)(a:Addr)(o:MO)(Q:Gp->Prop):Prop:=∀G',Put G a o G'->Q G'
def newO.at     (h:newO G o Q):∀p,G p=none->Q (.loc p) (gup G p o):=λp hp=>h p _ ⟨hp,rfl⟩
def putO.at      (h:putO G a o Q):Q (gup G a o):=h _ ⟨rfl⟩
structure En where
 nx:Sg->Gp->Prop
 rt:K1
 ex:XV->Sg->Gp->Prop
noncomputable def lsG  (G:Gp)(a:Addr):Option (List U):=match G a with
 |some (.lst xs)=>some xs
 |some (.fro xs)=>some xs
 |_=>none
noncomputable def kU  : U->Option Key
 |.int i=>some (.inl i)
 |.str x=>some (.inr x)
 |_=>none
noncomputable def kUs  : List U->Option (List Key)
 |[]=>some []
 |u::r=>match kU u,kUs r with
  |some k,some ks=>some (k::ks)
  |_,_=>none
noncomputable def Ku  : Key->U
 |.inl i=>.int i
 |.inr x=>.str x
section
variable {κ α:Type}[DecidableEq κ]
noncomputable def dGet (kvs:List (κ×α))(k:κ):Option α:=(kvs.find? λkv=>decide (kv.1=k)).map (·.2)
noncomputable def dPut (kvs:List (κ×α))(k:κ)(v:α):List (κ×α):=
 if (kvs.any λkv=>decide (kv.1=k))=true then kvs.map (λkv=>if kv.1=k then (kv.1,v) else kv) else kvs++[(k,v)]
noncomputable def jdy (more:List (κ×α)):List (κ×α):=more.foldl (λacc kv=>dPut acc kv.1 kv.2) []
end
noncomputable def cut  {α:Type}(xs:List α)(lo hi:Option Int):List α:=(xs.drop (HT.sIx xs.length 0 lo)).take (HT.sIx xs.length xs.length hi-HT.sIx xs.length 0 lo)
mutual
inductive DU (G:Gp):U->PyData->Prop
 |non:DU G .non .none
 |bl (b:Bool):DU G (.bl b) (.bool b)
 |int (i:Int):DU G (.int i) (.int i)
 |str (x:Str):DU G (.str x) (.str x)
 |tup {us:List U} {ds:List PyData}:DUs G us ds->DU G (.tup us) (.tuple ds)
 |lst {a:Addr} {us:List U} {ds:List PyData}:lsG G a=some us->DUs G us ds->DU G (.loc a) (.list ds)
 |dic {a:Addr}:G a=some (.dK [])->DU G (.loc a) (.dict [])
inductive DUs (G:Gp):List U->List PyData->Prop
 |nil:DUs G [] []
 |cons {u:U} {d:PyData} {us:List U} {ds:List PyData}:DU G u d->DUs G us ds->DUs G (u::us) (d::ds)
end
def addU  : U->U->Gp->K1->Prop
 |.int i,.int j,G,Q=>Q (.int (i+j)) G
 |.str x,.str y,G,Q=>x.length+y.length<=Yaf/\Q (.str (x++y)) G
 |.tup xs,.tup ys,G,Q=>xs.length+ys.length<=Yaf/\Q (.tup (xs++ys)) G
 |.loc a,.loc b,G,Q=>∃xs ys,G a=some (.lst xs)/\G b=some (.lst ys)/\xs.length+ys.length<=Yaf/\newO G (.lst (xs++ys)) Q
 |.bl b,.int j,G,Q=>Q (.int ((if b=true then (1:Int) else 0)+j)) G
 |_,_,_,_=>False
def subU  : U->U->Gp->K1->Prop
 |.int i,.int j,G,Q=>Q (.int (i-j)) G
 |.bl b,.int j,G,Q=>Q (.int ((if b=true then (1:Int) else 0)-j)) G
 |.int i,.bl b,G,Q=>Q (.int (i-if b=true then (1:Int) else 0)) G
 |_,_,_,_=>False
def mulU  : U->U->Gp->K1->Prop
 |.int i,.int j,G,Q=>CMul i j/\Q (.int (i*j)) G
 |.loc a,.int k,G,Q=>∃xs,G a=some (.lst xs)/\-(2 ^ 63)<=k/\k<2 ^ 63/\xs.length*k.toNat<=Yaf/\newO G (.lst (Yaa k.toNat xs).flatten) Q
 |.tup xs,.int k,G,Q=>xs≠[]/\0<=k/\k<2 ^ 62/\xs.length*k.toNat<=Yaf/\Q (.tup (Yaa k.toNat xs).flatten) G
 |.str z,.int k,G,Q=>0<=k/\k<1000/\z.length<=1000/\Q (.str (repS z k.toNat)) G
 |_,_,_,_=>False
def jox  : U->U->Gp->K1->Prop
 |.int i,.int j,G,Q=>0<j/\j<1073741824/\Q (.int (i/j)) G
 |_,_,_,_=>False
def modU  : U->U->Gp->K1->Prop
 |.int i,.int j,G,Q=>0<j/\Q (.int (i%j)) G
 |_,_,_,_=>False
def powU  : U->U->Gp->K1->Prop
 |.int i,.int j,G,Q=>CPow i j/\Q (.int (i ^ j.toNat)) G
 |_,_,_,_=>False
def binU  : Operator->U->U->Gp->K1->Prop
 |.Add=>addU
 |.Sub=>subU
 |.Mult=>mulU
 |.FloorDiv=>jox
 |.Mod=>modU
 |.Pow=>powU
 |_=>λ_ _ _ _=>False
def negU  : U->Gp->K1->Prop
 |.int i,G,Q=>Q (.int (-i)) G
 |_,_,_=>False
def Small  (d:PyData):Prop:=d.canLay0=true/\d.depth<=100
noncomputable def eqU  : U->U->Gp->(Bool->Prop)->Prop
 |.non,.non,_,k=>k true
 |.non,.bl _,_,k=>k false
 |.non,.int _,_,k=>k false
 |.non,.str _,_,k=>k false
 |.bl _,.non,_,k=>k false
 |.bl a,.bl b,_,k=>k (decide (a=b))
 |.bl _,.str _,_,k=>k false
 |.int _,.non,_,k=>k false
 |.int i,.int j,_,k=>k (decide (i=j))
 |.int _,.str _,_,k=>k false
 |.str _,.non,_,k=>k false
 |.str _,.bl _,_,k=>k false
 |.str _,.int _,_,k=>k false
 |.str x,.str y,_,k=>k (decide (x=y))
 |x,y,G,k=>∃d e,DU G x d/\DU G y e/\Small d/\Small e/\k (YaJ d e)
def eqQ  : U->U->Gp->(Bool->Prop)->Prop
 |.loc a,.str y,G,k=>(∃kvs,G a=some (.dK kvs)/\k false)\/(∃xs,G a=some (.lst xs)/\k false)\/eqU (.loc a) (.str y) G k
 |.tup xs,.tup [],_,k=>k xs.isEmpty
 |.tup _,.str _,_,k=>k false
 |x,y,G,k=>eqU x y G k
def isU  : U->U->(Bool->Prop)->Prop
 |.non,.non,k=>k true
 |.bl a,.bl b,k=>k (decide (a=b))
 |.non,.bl _,k|.non,.int _,k|.non,.str _,k|.non,.tup _,k|.non,.loc _,k=>k false
 |.bl _,.non,k|.int _,.non,k|.str _,.non,k|.tup _,.non,k|.loc _,.non,k=>k false
 |.int _,.bl _,k|.str _,.bl _,k|.tup _,.bl _,k|.loc _,.bl _,k=>k false
 |_,_,_=>False
noncomputable def flat  : U->Bool
 |.non|.bl _|.int _|.str _=>true
 |_=>false
noncomputable def eqF  : U->U->Bool
 |.non,.non=>true
 |.bl a,.bl b=>a==b
 |.bl a,.int b=>(if a then 1 else 0)==b
 |.int a,.bl b=>a==(if b then 1 else 0)
 |.int a,.int b=>a==b
 |.str a,.str b=>a==b
 |_,_=>false
def inU  : U->U->Gp->(Bool->Prop)->Prop
 |.str x,.str y,_,k=>k (!(Yaw y x 0 y.length 1).isEmpty)
 |.tup xs,.tup ys,G,k=>∃d ds,DU G (.tup xs) d/\DUs G ys ds/\Small d/\(∀e∈ds,Small e)/\k (ds.any λe=>YaJ e d)
 |x,.tup ys,_,k=>flat x=true/\ys.all flat=true/\k (ys.any λy=>eqF y x)
 |x,.loc a,G,k=>match G a with
  |some (.lst ys)=>(flat x=true/\ys.all flat=true/\k (ys.any λy=>eqF y x))\/
    ∃d ds,DU G x d/\DUs G ys ds/\Small d/\(∀e∈ds,Small e)/\k (ds.any λe=>YaJ e d)
  |some (.fro ys)=>flat x=true/\ys.all flat=true/\k (ys.any λy=>eqF y x)
  |some (.dK kvs)=>match kU x with
   |some y=>k (dGet kvs y).isSome
   |none=>False
  |some (.dT kvs)=>match x with
   |.tup xs=>match kUs xs with
    |some y=>k (dGet kvs y).isSome
    |none=>False
   |_=>False
  |some (.frk _ kvs)=>match kU x with
   |some y=>k (dGet kvs y).isSome
   |none=>False
  |_=>False
 |_,_,_,_=>False
def ordU  : CmpOp->U->U->(Bool->Prop)->Prop
 |.Lt,.int i,.int j,k=>k (decide (i<j))
 |.LtE,.int i,.int j,k=>k (decide (i<=j))
 |.LtE,.str x,.str y,k=>k (!decide (y.cps.toList<x.cps.toList))
 |.Gt,.int i,.int j,k=>k (decide (j<i))
 |.GtE,.int i,.int j,k=>k (decide (j<=i))
 |_,_,_,_=>False
def cmpU  : CmpOp->U->U->Gp->(Bool->Prop)->Prop
 |.Eq,x,y,G,k=>eqQ x y G k
 |.NotEq,x,y,G,k=>eqU x y G λb=>k (!b)
 |.Is,x,y,_,k=>isU x y k
 |.IsNot,x,y,_,k=>isU x y λb=>k (!b)
 |.In,x,y,G,k=>inU x y G k
 |.NotIn,x,y,G,k=>inU x y G λb=>k (!b)
 |o,x,y,_,k=>ordU o x y k
def truU  : U->Gp->(Bool->Prop)->Prop
 |.non,_,k=>k false
 |.bl b,_,k=>k b
 |.int i,_,k=>k (i != 0)
 |.str x,_,k=>x.length<=Yaf/\k ((x.length:Int) != 0)
 |.tup xs,_,k=>k (!xs.isEmpty)
 |.loc a,G,k=>match G a with
  |some (.lst xs)=>k (!xs.isEmpty)
  |some (.fro xs)=>k (!xs.isEmpty)
  |some (.dK kvs)=>k (!kvs.isEmpty)
  |_=>False
 |_,_,_=>False
def ixU  : U->U->Gp->K1->Prop
 |.tup xs,.int i,G,Q=>match atI xs i with
  |some u=>Q u G
  |none=>False
 |.str x,.int i,G,Q=>x.length<=Yaf/\match atI x.cps.toList i with
  |some c=>Q (.str ⟨#[c]⟩) G
  |none=>False
 |.loc a,y,G,Q=>match G a with
  |some (.lst xs)=>(match y with|.int i=>(match atI xs i with|some u=>Q u G|none=>False)|_=>False)
  |some (.fro xs)=>(match y with|.int i=>(match atI xs i with|some u=>Q u G|none=>False)|_=>False)
  |some (.dK kvs)=>(match kU y with|some k=>(match dGet kvs k with|some u=>Q u G|none=>False)|none=>False)
  |some (.dT kvs)=>(match y with|.tup ys=>(match kUs ys with|some k=>(match dGet kvs k with|some u=>Q u G|none=>False)|none=>False)|_=>False)
  |some (.frk _ kvs)=>(match kU y with|some k=>(match dGet kvs k with|some u=>Q u G|none=>False)|none=>False)
  |_=>False
 |_,_,_,_=>False
def slU  : U->Option Int->Option Int->Gp->K1->Prop
 |.tup xs,lo,hi,G,Q=>Q (.tup (cut xs lo hi)) G
 |.str x,lo,hi,G,Q=>x.length<=Yaf/\Q (.str (YcR x lo hi)) G
 |.loc a,lo,hi,G,Q=>match lsG G a with
  |some xs=>newO G (.lst (cut xs lo hi)) Q
  |none=>False
 |_,_,_,_,_=>False
def revU  : U->U->Gp->K1->Prop
 |.tup xs,.int i,G,Q=>i=-1/\Q (.tup xs.reverse) G
 |.str x,.int i,G,Q=>i=-1/\x.length<=Yaf/\∀t:Tok,Q (.str (YdO x none none (-1,t))) G
 |.loc a,.int i,G,Q=>match lsG G a with
  |some xs=>(i=1\/i=-1)/\newO G (.lst (if i=1 then xs else xs.reverse)) Q
  |none=>False
 |_,_,_,_=>False
def setU  : U->U->U->Gp->(Gp->Prop)->Prop
 |.loc a,y,v,G,Q=>match G a with
  |some (.lst xs)=>(match y with|.int i=>(match ixN xs.length i with|some j=>putO G a (.lst (xs.set j v)) Q|none=>False)|_=>False)
  |some (.dK kvs)=>(match kU y with|some k=>kvs.length<Yaf/\putO G a (.dK (dPut kvs k v)) Q|none=>False)
  |some (.dT kvs)=>(match y with|.tup ys=>(match kUs ys with|some k=>kvs.length<Yaf/\putO G a (.dT (dPut kvs k v)) Q|none=>False)|_=>False)
  |_=>False
 |_,_,_,_,_=>False
inductive Blt|len|repr|min|max|sum|all|any|sorted|int|str|isi
 deriving DecidableEq
inductive Mth|append|extend|insert|pop|reverse|index|join|get|split|setd|clear
 deriving DecidableEq
noncomputable def jon  : List U->Option (List Int)
 |[]=>some []
 |.int i::r=>(match jon r with|some l=>some (i::l)|none=>none)
 |_=>none
noncomputable def jc1  : List U->Option (List Str)
 |[]=>some []
 |.str x::r=>(match jc1 r with|some l=>some (x::l)|none=>none)
 |_=>none
noncomputable def jbG  : List U->Option (List Bool)
 |[]=>some []
 |.bl x::r=>(match jbG r with|some l=>some (x::l)|none=>none)
 |_=>none
noncomputable def tyN  : U->Gp->Option String
 |.non,_=>some "NoneType"
 |.bl _,_=>some "bool"
 |.int _,_=>some "int"
 |.str _,_=>some "str"
 |.tup _,_=>some "tuple"
 |.loc a,G=>match G a with
  |some (.lst _)=>some "list"
  |some (.dK _)=>some "dict"
  |some (.dT _)=>some "dict"
  |_=>none
 |_,_=>none
noncomputable def isiU  (x:U)(G:Gp)(t:String):Option Bool:=match tyN x G with
 |some n=>if t∈["bool", "int", "str", "list", "tuple", "dict"] then some (n==t||(n == "bool" && t == "int")) else none
 |none=>none
def lenU  : List U->Gp->K1->Prop
 |[.tup xs],G,Q=>Q (.int xs.length) G
 |[.str x],G,Q=>x.length<=Yaf/\Q (.int x.length) G
 |[.loc a],G,Q=>(match G a with
  |some (.lst xs)=>Q (.int xs.length) G
  |some (.fro xs)=>Q (.int xs.length) G
  |some (.dK kvs)=>Q (.int kvs.length) G
  |_=>False)
 |_,_,_=>False
def jfK  : List U->Gp->K1->Prop
 |[u],G,Q=>∃d,DU G u d/\Fits 16000000 60 d/\Q (.str d.shown) G
 |_,_,_=>False
def minU  : List U->Gp->K1->Prop
 |[.int i,.int j],G,Q=>Q (.int (if j<i then j else i)) G
 |_,_,_=>False
def jn2  (xs:List U)(G:Gp)(Q:K1):Prop:=match jon xs with
 |some ns=>ns≠[]/\∀z∈ns,(∀y∈ns,y<=z)->Q (.int z) G
 |none=>False
def maxU  : List U->Gp->K1->Prop
 |[.int i,.int j],G,Q=>Q (.int (if j>i then j else i)) G
 |[.loc a],G,Q=>(match G a with
  |some (.lst xs)=>jn2 xs G Q
  |_=>False)
 |[.tup xs],G,Q=>jn2 xs G Q
 |_,_,_=>False
def allU  : List U->Gp->K1->Prop
 |[.loc a],G,Q=>(match G a with
  |some (.lst xs)=>(match jbG xs with|some bs=>Q (.bl (bs.all id)) G|none=>False)
  |_=>False)
 |_,_,_=>False
def intU  : List U->Gp->K1->Prop
 |[.int i],G,Q=>Q (.int i) G
 |[.bl b],G,Q=>Q (.int (if b then 1 else 0)) G
 |[.str z],G,Q=>∃n,PySem.intText? z=some n/\z.length<=640/\Q (.int n) G
 |_,_,_=>False
def strU  : List U->Gp->K1->Prop
 |[.int i],G,Q=>i.natAbs.log2<1920/\Q (.str (toString i:String)) G
 |[.bl b],G,Q=>Q (.str (if b=true then ("True" : Str) else "False")) G
 |_,_,_=>False
def jff  : List U->Gp->K1->Prop
 |[x,.ty t],G,Q=>(match isiU x G t with|some b=>Q (.bl b) G|none=>False)
 |_,_,_=>False
def mkDU  : U->Gp->K1->Prop
 |.loc a,G,Q=>(match G a with
  |some (.dK kvs)=>∃ns:List Int,kvs.map (·.1)=ns.map (λz=>(Sum.inl z:Key))/\newO G (.lst (ns.map .int)) Q
  |_=>False)
 |_,_,_=>False
def bltU  : Blt->List U->Gp->K1->Prop
 |.len=>lenU
 |.repr=>jfK
 |.min=>minU
 |.max=>λ_ _ _=>False
 |.sum=>λ_ _ _=>False
 |.all=>allU
 |.any=>λ_ _ _=>False
 |.sorted=>λ_ _ _=>False
 |.int=>intU
 |.str=>strU
 |.isi=>jff
def jgg  : U->List U->Gp->K1->Prop
 |.loc a,[v],G,Q=>(match G a with
  |some (.lst xs)=>xs.length<Yaf/\putO G a (.lst (xs++[v])) (Q .non)
  |_=>False)
 |_,_,_,_=>False
def jgN  : U->List U->Gp->K1->Prop
 |.tup xs,[.str n],G,Q=>(match jc1 xs with|some ys=>n∈ys/\Q (.int (ys.idxOf n)) G|none=>False)
 |.loc a,[.str n],G,Q=>(match G a with
  |some (.lst xs)=>(match jc1 xs with|some ys=>n∈ys/\Q (.int (ys.idxOf n)) G|none=>False)
  |_=>False)
 |_,_,_,_=>False
def jl9  : U->List U->Gp->K1->Prop
 |.str z,[.loc a],G,Q=>(match G a with
  |some (.lst xs)=>(match jc1 xs with|some ys=>z.length<=16/\(ys.map (·.length)).sum+ys.length<=1048576/\Q (.str (YaU z ys)) G|none=>False)
  |_=>False)
 |_,_,_,_=>False
def jkq  : U->List U->Gp->K1->Prop
 |.str z,[.str y],G,Q=>(y.length==0)=false/\z.length<=Yaf/\(Yft z y).length<=Yaf/\newO G (.lst ((Yft z y).map .str)) Q
 |_,_,_,_=>False
def jjs  : U->List U->Gp->K1->Prop
 |.loc a,[y,v],G,Q=>(match G a with
  |some (.dK kvs)=>(match kU y with
   |some k=>kvs.length<Yaf/\(match dGet kvs k with|some u=>Q u G|none=>putO G a (.dK (dPut kvs k v)) (Q v))
   |none=>False)
  |_=>False)
 |_,_,_,_=>False
def getU  : U->List U->Gp->K1->Prop
 |.loc a,[y,d],G,Q=>(match G a with
  |some (.dK kvs)=>(match kU y with
   |some k=>Q ((dGet kvs k).getD d) G
   |none=>False)
  |some (.dT kvs)=>∃k:List Key,y=.tup (k.map Ku)/\Q ((dGet kvs k).getD d) G
  |_=>False)
 |_,_,_,_=>False
def ji1  : U->List U->Gp->K1->Prop
 |.loc a,[],G,Q=>(match G a with
  |some (.lst _)=>putO G a (.lst []) (Q .non)
  |_=>False)
 |_,_,_,_=>False
def jau  : Mth->U->List U->Gp->K1->Prop
 |.append=>jgg
 |.extend=>λ_ _ _ _=>False
 |.insert=>λ_ _ _ _=>False
 |.pop=>λ_ _ _ _=>False
 |.reverse=>λ_ _ _ _=>False
 |.index=>jgN
 |.join=>jl9
 |.get=>getU
 |.split=>jkq
 |.setd=>jjs
 |.clear=>ji1
noncomputable def mtU  : Mth->U->Gp->Option (String×String)
 |.append,x,G=>(match x with|.loc a=>(match G a with|some (.lst _)=>some ("list", "list.append")|_=>none)|_=>none)
 |.extend,_,_=>none
 |.insert,_,_=>none
 |.pop,_,_=>none
 |.reverse,_,_=>none
 |.index,x,G=>(match x with|.loc a=>(match G a with|some (.lst _)=>some ("list", "list.index")|_=>none)|.tup _=>some ("tuple", "tuple.index")|_=>none)
 |.join,x,_=>(match x with|.str _=>some ("str", "str.join")|_=>none)
 |.get,x,G=>(match x with|.loc a=>(match G a with|some (.dK _)=>some ("dict", "dict.get")|some (.dT _)=>some ("dict", "dict.get")|_=>none)|_=>none)
 |.split,x,_=>(match x with|.str _=>some ("str", "str.split")|_=>none)
 |.setd,x,G=>(match x with|.loc a=>(match G a with|some (.dK _)=>some ("dict", "dict.setdefault")|_=>none)|_=>none)
 |.clear,x,G=>(match x with|.loc a=>(match G a with|some (.lst _)=>some ("list", "list.clear")|_=>none)|_=>none)
noncomputable def clsA  : List (Str×List Str):=[("PlanError",[]),("NoPaper",["word", "at"]),("TooMany",["word"]),("NoRing",["word"]),("NoText",["row", "word"]),("NoRow",["row"])]
noncomputable def clsN  (c:Nat):Str:=(clsA.getD c ("",[])).1
noncomputable def clsF  (c:Nat):List Str:=(clsA.getD c ("",[])).2
inductive HL where
 |is1 (c:Nat)|isi (cs:List Nat)|isiV|v (i:Nat)
inductive HA where
 |str (x:Str)|att (f:Str)
inductive HV where
 |cond (k:Bool) (a:Bool×HL) (as:List (Bool×HL))|one (a:HA)|bl (b:Bool)|tup (as:List HA)|lst (as:List HA)
inductive HS where
 |asg (i:Nat) (e:HV)|ifa (k:Bool) (a:Bool×HL) (as:List (Bool×HL)) (i:Nat) (e:HV)
section
variable (x:XV)
noncomputable def litH (ς:Sg):HL->Option Bool
 |.is1 c=>some (decide (x.c=c))
 |.isi cs=>some (cs.contains x.c)
 |.isiV=>some true
 |.v i=>match ς[i]? with
  |some (some (.bl b))=>some b
  |_=>none
noncomputable def lit1 (ς:Sg)(p:Bool×HL):Option Bool:=match litH x ς p.2 with
 |some b=>some (if p.1=true then !b else b)
 |none=>none
noncomputable def jbL (ς:Sg)(k:Bool):Bool×HL->List (Bool×HL)->Option Bool
 |a,[]=>lit1 x ς a
 |a,b::r=>match lit1 x ς a with
  |some t=>if t=k then jbL ς k b r else some t
  |none=>none
noncomputable def atH:HA->Option U
 |.str y=>some (.str y)
 |.att f=>((clsF x.c).zip x.fs).lookup f
noncomputable def atsH:List HA->Option (List U)
 |[]=>some []
 |a::r=>match atH x a,atsH r with
  |some u,some us=>some (u::us)
  |_,_=>none
def hvH (ς:Sg):HV->Gp->K1->Prop
 |.cond k a as,G,Q=>match jbL x ς k a as with
  |some b=>Q (.bl b) G
  |none=>False
 |.one a,G,Q=>match atH x a with
  |some u=>Q u G
  |none=>False
 |.bl b,G,Q=>Q (.bl b) G
 |.tup as,G,Q=>match atsH x as with
  |some us=>Q (.tup us) G
  |none=>False
 |.lst as,G,Q=>match atsH x as with
  |some us=>newO G (.lst us) Q
  |none=>False
def hsH:List HS->Sg->Gp->(Sg->Gp->Prop)->Prop
 |[],ς,G,k=>k ς G
 |.asg i e::r,ς,G,k=>hvH x ς e G λu G1=>hsH r (ς.set i (some u)) G1 k
 |.ifa q a as i e::r,ς,G,k=>match jbL x ς q a as with
  |some true=>hvH x ς e G λu G1=>hsH r (ς.set i (some u)) G1 k
  |some false=>hsH r ς G k
  |none=>False
end
mutual
inductive Tg where
 |n (i:Nat)|t (ts:Tgs)
inductive Tgs where
 |nil|cons (t:Tg) (ts:Tgs)
end
mutual
inductive E where
 |v (i:Nat)|non|bl (b:Bool)|int (i:Int)|str (x:Str)|g (n:Nat)|bin (o:Operator) (a b:E)|neg (a:E)|not (a:E)|bop (k:Bool) (a:E) (es:Es)|cmp (o:CmpOp) (a b:E)|cmp2 (o p:CmpOp) (a b c:E)|ife (c a b:E)|tup (es:Es)|lst (es:Es)|dic (es:Es)|ix (a b:E)|sl (a:E) (lo hi:Eo)|rev (a st:E)|call (n:Nat) (es:Es)|app (i:Nat) (es:Es)|blt (b:Blt) (es:Es)|meth (m:Mth) (o:E) (es:Es)|ty (n:String)|lc (pick:List (Option Nat)) (t:Tg) (it:It) (ifs:Es) (e:E)|mkL (e:E)|mkT (e:E)|mkD (e:E)
inductive Eo where
 |no|so (e:E)
inductive Es where
 |nil|cons (e:E) (es:Es)
inductive It where
 |e (e:E)|r1 (e:E)|r2 (a b:E)|enum (e:E)|s (e:E)
end
mutual
inductive S where
 |expr (e:E)|asg (t:Tg) (e:E)|asgC (i:Nat) (e:E)|unp (ts:Tgs) (e:E)|setS (o i e:E)|ite (c:E) (a b:Ss)|fr (t:Tg) (it:It) (b:Ss)|ret (e:E)|raise (c:Nat) (es:Es)|tr (b:Ss) (c:Nat) (n:Nat) (h:List HS)
inductive Ss where
 |nil|cons (s:S) (ss:Ss)
end
mutual
noncomputable def tgU:Tg->U->Sg->(Sg->Prop)->Prop
 |.n i,u,ς,k=>k (ς.set i (some u))
 |.t ts,u,ς,k=>match u with
  |.tup us=>tgsU ts us ς k
  |_=>False
noncomputable def tgsU:Tgs->List U->Sg->(Sg->Prop)->Prop
 |.nil,us,ς,k=>us=[]/\k ς
 |.cons t ts,us,ς,k=>match us with
  |[]=>False
  |u::r=>tgU t u ς λς'=>tgsU ts r ς' k
end
abbrev Cl:=Nat->List U->Gp->K1->KX->Prop
def slot  (ς:Sg)(i:Nat)(k:U->Prop):Prop:=match ς[i]? with
 |some (some u)=>k u
 |_=>False
noncomputable def jci  (pick:List (Option Nat))(ς:Sg):Sg:=pick.map λo=>o.bind λj=>(ς[j]?).join
def jcI  (ok:Gp->Prop)(b:U->Gp->(Option U->Gp->Prop)->Prop):List U->List U->Gp->(List U->Gp->Prop)->Prop
 |[],acc,G,k=>ok G/\k acc G
 |x::xs,acc,G,k=>ok G/\b x G λo G'=>jcI ok b xs (match o with|some u=>acc++[u]|none=>acc) G' k
def forL  (ok:Gp->Prop)(b:U->Sg->Gp->(Sg->Gp->Prop)->Prop):List U->Sg->Gp->(Sg->Gp->Prop)->Prop
 |[],ς,G,k=>ok G/\k ς G
 |x::xs,ς,G,k=>ok G/\b x ς G λς' G'=>forL ok b xs ς' G' k
noncomputable def rngU  (i:Int)(n:Nat):List U:=(YaH n).map λk:Nat=>.int (i+k)
noncomputable def jeD  : Nat->List U->List U
 |_,[]=>[]
 |n,u::r=>.tup [.int n,u]::jeD (n+1) r
def itU  : U->Gp->(List U->(Gp->Prop)->Prop)->Prop
 |.tup xs,_,k=>k xs λ_=>True
 |.loc a,G,k=>match lsG G a with
  |some xs=>k xs λG'=>lsG G' a=some xs
  |none=>False
 |_,_,_=>False
def enI  : U->Gp->(List U->(Gp->Prop)->Prop)->Prop
 |.loc a,G,k=>match lsG G a with
  |some xs=>k (jeD 0 xs) λG'=>lsG G' a=some xs
  |none=>False
 |_,_,_=>False
def sgU  : U->(List U->Prop)->Prop
 |.str z,k=>z.cps.all (·< 128)=true/\k (z.cps.toList.map λc=>.str ⟨#[c]⟩)
 |_,_=>False
def fpU  : U->(Str->Prop)->Prop
 |.str z,k=>z.length<=10000/\k z
 |.int i,k=>i.natAbs.log2<1920/\k (toString i:String)
 |_,_=>False
def unpU  (ts:Tgs):U->Gp->Sg->(Sg->Prop)->Prop
 |.loc a,G,ς,k=>match lsG G a with
  |some us=>tgsU ts us ς k
  |none=>False
 |_,_,_,_=>False
def glU  (gs:List U)(n:Nat)(k:U->Prop):Prop:=match gs[n]? with
 |some u=>k u
 |none=>False
abbrev UE:=Sg->Gp->K1->KX->Prop
abbrev UT:=Sg->Gp->(Bool->Gp->Prop)->KX->Prop
abbrev UA:=Sg->Gp->(List U->Gp->Prop)->KX->Prop
def truT  (t:UE):UT:=λς G Q X=>t ς G (λx G1=>truU x G1 λb=>Q b G1) X
noncomputable abbrev tp  (t:UE):UE×UT:=(t,truT t)
noncomputable def comb  : Bool->UE×UT->UE×UT->UE×UT
 |true,p,q=>(λς G Q X=>p.1 ς G (λx G1=>truU x G1 λc=>if c=true then q.1 ς G1 Q X else Q x G1) X,λς G Q X=>p.2 ς G (λc G1=>if c=true then q.2 ς G1 Q X else Q false G1) X)
 |false,p,q=>(λς G Q X=>p.1 ς G (λx G1=>truU x G1 λc=>if c=true then Q x G1 else q.1 ς G1 Q X) X,λς G Q X=>p.2 ς G (λc G1=>if c=true then Q true G1 else q.2 ς G1 Q X) X)
section
variable (gs:List U)(Δ:Cl)
mutual
noncomputable def den:E->UE×UT
 |.v i=>tp λς G Q _=>slot ς i λu=>Q u G
 |.non=>tp λ_ G Q _=>Q .non G
 |.bl b=>tp λ_ G Q _=>Q (.bl b) G
 |.int i=>tp λ_ G Q _=>Q (.int i) G
 |.str x=>tp λ_ G Q _=>Q (.str x) G
 |.g n=>tp λ_ G Q _=>glU gs n λu=>Q u G
 |.bin o a b=>tp λς G Q X=>(den a).1 ς G (λx G1=>(den b).1 ς G1 (λy G2=>binU o x y G2 Q) X) X
 |.neg a=>tp λς G Q X=>(den a).1 ς G (λx G1=>negU x G1 Q) X
 |.not a=>(λς G Q X=>(den a).1 ς G (λx G1=>truU x G1 λb=>Q (.bl (!b)) G1) X,
   λς G Q X=>(den a).2 ς G (λb G1=>Q (!b) G1) X)
 |.bop k a es=>denB k (den a) es
 |.cmp o a b=>tp λς G Q X=>(den a).1 ς G (λx G1=>(den b).1 ς G1 (λy G2=>cmpU o x y G2 λc=>Q (.bl c) G2) X) X
 |.cmp2 o p a b c=>tp λς G Q X=>(den a).1 ς G (λx G1=>(den b).1 ς G1 (λy G2=>cmpU o x y G2 λt=>if t=true then (den c).1 ς G2 (λz G3=>cmpU p y z G3 λt'=>Q (.bl t') G3) X else Q (.bl false) G2) X) X
 |.ife c a b=>(λς G Q X=>(den c).2 ς G (λt G1=>if t=true then (den a).1 ς G1 Q X else (den b).1 ς G1 Q X) X,
   λς G Q X=>(den c).2 ς G (λt G1=>if t=true then (den a).2 ς G1 Q X else (den b).2 ς G1 Q X) X)
 |.tup es=>tp λς G Q X=>jaI es ς G (λus G1=>us.length<=Yaf/\Q (.tup us) G1) X
 |.lst es=>tp λς G Q X=>jaI es ς G (λus G1=>us.length<=Yaf/\newO G1 (.lst us) Q) X
 |.dic es=>tp λς G Q X=>denD es ς G (λkvs G1=>kvs.length<=15/\newO G1 (.dK (jdy kvs)) Q) X
 |.ix a b=>tp λς G Q X=>(den a).1 ς G (λx G1=>(den b).1 ς G1 (λy G2=>ixU x y G2 Q) X) X
 |.sl a lo hi=>tp λς G Q X=>(den a).1 ς G (λx G1=>denO lo ς G1 (λl G2=>denO hi ς G2 (λh G3=>slU x l h G3 Q) X) X) X
 |.rev a b=>tp λς G Q X=>(den a).1 ς G (λx G1=>(den b).1 ς G1 (λy G2=>revU x y G2 Q) X) X
 |.call n es=>tp λς G Q X=>jaI es ς G (λus G1=>Δ n us G1 Q X) X
 |.app _ _=>tp λ_ _ _ _=>False
 |.blt b es=>tp λς G Q X=>jaI es ς G (λus G1=>bltU b us G1 Q) X
 |.meth m o es=>tp λς G Q X=>(den o).1 ς G (λx G1=>match mtU m x G1 with
   |some _=>jaI es ς G1 (λus G2=>jau m x us G2 Q) X
   |none=>False) X
 |.ty n=>tp λ_ G Q _=>Q (.ty n) G
 |.lc pick t it ifs e=>tp λς G Q X=>denI it ς G (λxs ok G1=>xs.length<=Yaf/\jcI ok (λx G2 k=>tgU t x (jci pick ς) λτ=>denC ifs τ G2 (λb G3=>if b=true then (den e).1 τ G3 (λu G4=>k (some u) G4) (λ_ _=>False) else k none G3)) xs [] G1
   λus G5=>newO G5 (.lst us) Q) X
 |.mkD e=>tp λς G Q X=>(den e).1 ς G (λx G1=>mkDU x G1 Q) X
 |.mkL e=>tp λς G Q X=>(den e).1 ς G (λx G1=>itU x G1 λxs _=>newO G1 (.lst xs) Q) X
 |.mkT e=>tp λς G Q X=>(den e).1 ς G (λx G1=>itU x G1 λxs _=>Q (.tup xs) G1) X
noncomputable def denB (k:Bool)(p:UE×UT):Es->UE×UT
 |.nil=>p
 |.cons e es=>comb k p (denB k (den e) es)
noncomputable def denC:Es->Sg->Gp->(Bool->Gp->Prop)->Prop
 |.nil,_,G,Q=>Q true G
 |.cons e es,ς,G,Q=>(den e).2 ς G (λb G1=>if b=true then denC es ς G1 Q else Q false G1) (λ_ _=>False)
noncomputable def denO:Eo->Sg->Gp->(Option Int->Gp->Prop)->KX->Prop
 |.no,_,G,Q,_=>Q none G
 |.so e,ς,G,Q,X=>(den e).1 ς G (λx G1=>match x with|.int i=>Q (some i) G1|_=>False) X
noncomputable def jaI:Es->Sg->Gp->(List U->Gp->Prop)->KX->Prop
 |.nil,_,G,Q,_=>Q [] G
 |.cons e es,ς,G,Q,X=>(den e).1 ς G (λx G1=>jaI es ς G1 (λxs G2=>Q (x::xs) G2) X) X
noncomputable def denF:Es->Sg->Gp->(List Str->Gp->Prop)->KX->Prop
 |.nil,_,G,Q,_=>Q [] G
 |.cons e es,ς,G,Q,X=>(den e).1 ς G (λx G1=>fpU x λz=>denF es ς G1 (λzs G2=>Q (z::zs) G2) X) X
noncomputable def denD:Es->Sg->Gp->(List (Key×U)->Gp->Prop)->KX->Prop
 |.nil,_,G,Q,_=>Q [] G
 |.cons e (.cons f es),ς,G,Q,X=>(den e).1 ς G (λx G1=>(den f).1 ς G1 (λy G2=>match kU x with
   |some k=>denD es ς G2 (λkvs G3=>Q ((k,y)::kvs) G3) X
   |none=>False) X) X
 |.cons _ .nil,_,_,_,_=>False
noncomputable def denI:It->Sg->Gp->(List U->(Gp->Prop)->Gp->Prop)->KX->Prop
 |.e e,ς,G,Q,X=>(den e).1 ς G (λx G1=>itU x G1 λxs ok=>Q xs ok G1) X
 |.r1 e,ς,G,Q,X=>(den e).1 ς G (λx G1=>match x with
   |.int j=>-(2 ^ 62)<=j/\j<2 ^ 62/\Q (rngU 0 j.toNat) (λ_=>True) G1
   |_=>False) X
 |.r2 a b,ς,G,Q,X=>(den a).1 ς G (λx G1=>(den b).1 ς G1 (λy G2=>match x,y with
   |.int i,.int j=>-(2 ^ 62)<=i/\i<2 ^ 62/\-(2 ^ 62)<=j/\j<2 ^ 62/\Q (rngU i (j-i).toNat) (λ_=>True) G2
   |_,_=>False) X) X
 |.enum e,ς,G,Q,X=>(den e).1 ς G (λx G1=>enI x G1 λxs ok=>Q xs ok G1) X
 |.s e,ς,G,Q,X=>(den e).1 ς G (λx G1=>sgU x λxs=>Q xs (λ_=>True) G1) X
end
def denE (e:E):UE:=(den gs Δ e).1
def denT (e:E):UT:=(den gs Δ e).2
mutual
noncomputable def denS:S->En->Sg->Gp->Prop
 |.expr e,D,ς,G=>denE gs Δ e ς G (λ_ G1=>D.nx ς G1) λx G1=>D.ex x ς G1
 |.asg t e,D,ς,G=>denE gs Δ e ς G (λu G1=>tgU t u ς λς'=>D.nx ς' G1) λx G1=>D.ex x ς G1
 |.asgC i e,D,ς,G=>denE gs Δ e ς G (λu G1=>D.nx (ς.set i (some u)) G1) λx G1=>D.ex x ς G1
 |.unp ts e,D,ς,G=>denE gs Δ e ς G (λu G1=>unpU ts u G1 ς λς'=>D.nx ς' G1) λx G1=>D.ex x ς G1
 |.setS o i e,D,ς,G=>denE gs Δ e ς G (λv G1=>denE gs Δ o ς G1 (λx G2=>denE gs Δ i ς G2 (λy G3=>setU x y v G3 λG4=>D.nx ς G4) λx G1=>D.ex x ς G1) λx G1=>D.ex x ς G1) λx G1=>D.ex x ς G1
 |.ite c a b,D,ς,G=>denT gs Δ c ς G (λt G1=>if t=true then jaC a D ς G1 else jaC b D ς G1) λx G1=>D.ex x ς G1
 |.fr t it b,D,ς,G=>denI gs Δ it ς G (λxs ok G1=>forL ok (λx ς1 G2 k=>tgU t x ς1 λς2=>jaC b { D with nx:=k } ς2 G2) xs ς G1 D.nx) λx G1=>D.ex x ς G1
 |.ret e,D,ς,G=>denE gs Δ e ς G D.rt λx G1=>D.ex x ς G1
 |.raise c es,D,ς,G=>jaI gs Δ es ς G (λus G1=>us.length=(clsF c).length/\D.ex ⟨c,us⟩ ς G1) λx G1=>D.ex x ς G1
 |.tr b c n h,D,ς,G=>jaC b { D with ex:=λx ς1 G1=>(c=0\/x.c=c)/\hsH x h (ς1.set n none) G1 λς2 G2=>D.nx (ς2.set n none) G2 } ς G
noncomputable def jaC:Ss->En->Sg->Gp->Prop
 |.nil,D,ς,G=>D.nx ς G
 |.cons s ss,D,ς,G=>denS s { D with nx:=λς' G'=>jaC ss D ς' G' } ς G
end
end
structure Fun where
 name:Str
 ps:List Str
 N:List Str
 body:Ss
structure Nst where
 P:Addr
 ff:Nat
 vi:Nat
 fi:Nat
 caps:List Nat
 wi:Nat
 fni:Nat
 least:Int
 wn:Str
 fn:Str
 at':Str
structure Tab where
 funs:List Fun
 gs:List U
 gn:List Str:=[]
 cs:List Nat:=[]
 vf:List Fun:=[]
 ns:List (Nat×Nst):=[]
noncomputable def jae  (n:Nat)(us:List U):Sg:=us.map some++Yaa (n-us.length) none
def jac  (T:Tab):Nat->Cl
 |0,_,_,_,_,_=>False
 |k+1,n,us,G,Q,X=>match (T.funs++T.vf)[n]? with
  |some d=>us.length=d.ps.length/\jaC T.gs (jac T k) d.body ⟨λ_ G'=>Q .non G',Q,λx _ G'=>X x G'⟩ (jae d.N.length us) G
  |none=>False
mutual
noncomputable def RU (K:Yab)(H:Hp):U->V->Prop
 |.non,v=>v=.non
 |.bl b,v=>v=.bl b
 |.int i,v=>v=.int i
 |.str x,v=>v=.str x
 |.tup xs,v=>∃a vs,v=.ref a/\H a=some (.tup vs)/\RUs K H xs vs
 |.loc a,v=>v=.ref a
 |.fn _,_=>False
 |.ty n,v=>v=.ty n
 |.exc _ _,_=>False
 |.own _,_=>False
 |.clo _ _,_=>False
noncomputable def RUs (K:Yab)(H:Hp):List U->List V->Prop
 |[],vs=>vs=[]
 |u::us,vs=>∃v vr,vs=v::vr/\RU K H u v/\RUs K H us vr
end
def RKs  {κ:Type}(K:Yab)(H:Hp):List (κ×U)->List (κ×V)->Prop
 |[],l=>l=[]
 |(k,u)::r,l=>∃v l',l=(k,v)::l'/\RU K H u v/\RKs K H r l'
def MOk  (K:Yab)(H:Hp)(a:Addr):MO->Prop
 |.lst us=>∃vs,H a=some (.lst vs)/\RUs K H us vs
 |.fro us=>∃o vs,H a=some (.frz o (.lst vs))/\RUs K H us vs
 |.dK kvs=>∃l,H a=some (.dK l)/\RKs K H kvs l
 |.dT kvs=>∃l,H a=some (.dT l)/\RKs K H kvs l
 |.frd o kvs=>∃l,H a=some (.frz o (.dT l))/\RKs K H kvs l
 |.frk o kvs=>∃l,H a=some (.frz o (.dK l))/\RKs K H kvs l
noncomputable def tabs  : List (Addr×Pos×Str):=[(148,⟨50,4,53,89⟩,("works_fault" : Str) ++ ".<locals>." ++ "fits"),(155,⟨57,4,64,91⟩,("span_fault" : Str) ++ ".<locals>." ++ "fits"),(176,⟨89,4,97,72⟩,("line_fault" : Str) ++ ".<locals>." ++ "fits")]
def jfz  (H:Hp):Prop:=∀t∈tabs,jkT H t.1 t.2.1 t.2.2
structure HR (K:Yab)(H:Hp)(G:Gp):Prop where
 mo:∀a o,G a=some o->MOk K H a o
 tab:jfz H
instance {K:Yab} {H:Hp} {G:Gp}:CoeFun (HR K H G) λ_=>∀a o,G a=some o->MOk K H a o:=⟨HR.mo⟩
noncomputable def noTb  : HO->Bool
 |.tbl _=>false
 |_=>true
structure Fr (H:Hp)(G:Gp)(H':Hp)(G':Gp):Prop where
 go:∀a o,H a=some o->G a=none->(nt:noTb o=true:=by rfl)->H' a=some o/\G' a=none
instance {H H':Hp} {G G':Gp}:CoeFun (Fr H G H' G') λ_=>∀a o,H a=some o->G a=none->(nt:noTb o=true:=by rfl)->H' a=some o/\G' a=none:=⟨@Fr.go H G H' G'⟩
def SR  (K:Yab)(H:Hp)(ς:Sg)(σ:St):Prop:=ς.length=σ.length/\∀(i:Nat) (u:U),ς[i]?=some (some u)->∃v,σ[i]?=some (some v)/\RU K H u v
section
variable {K:Yab}{H H' H1 H2:Hp}{G G' G1 G2:Gp}
def Fr.refl   H G:Fr H G H G:=⟨λ_ _ h g _=>⟨h,g⟩⟩
def Fr.trans  (a:Fr H G H1 G1)(b:Fr H1 G1 H2 G2):Fr H G H2 G2:=⟨λc o h g nt=>let ⟨h1,g1⟩:=a c o h g nt;b c o h1 g1 nt⟩
structure TS (H H':Hp):Prop where
 tup:∀a xs,H a=some (.tup xs)->H' a=some (.tup xs)
 cod:∀a o,H a=some (frzC o)->H' a=some (frzC o)
instance:CoeFun (TS H H') λ_=>∀a xs,H a=some (.tup xs)->H' a=some (.tup xs):=⟨TS.tup⟩
def TS.trans  (a:TS H H1)(b:TS H1 H2):TS H H2:=⟨λc xs h=>b.tup c xs (a.tup c xs h),λc o h=>b.cod c o (a.cod c o h)⟩
mutual
theorem RU.ts (t:TS H H'):∀{u:U} {v:V},RU K H u v->RU K H' u v
 |.non,_,h=>h
 |.bl _,_,h=>h
 |.int _,_,h=>h
 |.str _,_,h=>h
 |.tup xs,_,h=>by
  obtain⟨a,vs,e,q,r⟩:=h
  exact⟨a,vs,e,t _ _ q,RUs.ts t r⟩
 |.loc _,_,h=>h
 |.fn _,_,h=>h
 |.ty _,_,h=>h
 |.exc _ _,_,h=>h
 |.own _,_,h=>h
 |.clo _ _,_,h=>h
theorem RUs.ts (t:TS H H'):∀{us:List U} {vs:List V},RUs K H us vs->RUs K H' us vs
 |[],_,h=>h
 |_::_,_,h=>by
  obtain⟨v,vr,e,r,rs⟩:=h
  exact⟨v,vr,e,RU.ts t r,RUs.ts t rs⟩
end
theorem RKs.ts   (t:TS H H'):∀{kvs:List (κ×U)} {l },RKs K H kvs l->RKs K H' kvs l
 |[],_,h=>h
 |(_,_)::_,_,h=>by
  obtain⟨v,l',e,r,rs⟩:=h;exact⟨v,l',e,r.ts t,RKs.ts t rs⟩
def SR.ts    (t:TS H H')(h:SR K H ς σ):SR K H' ς σ:=⟨h.1,λi u e=>let ⟨v,e1,r⟩:=h.2 i u e;⟨v,e1,r.ts t⟩⟩
def HR.tupNone  (h:HR K H G)(e:H a=some (.tup xs)):G a=none:=by
 cases q:G a with
 |none=>rfl
 |some o=>
  have m:=h a o q;cases o with
  |lst us=>obtain⟨_,e2,_⟩:=m;lia
  |fro us=>obtain⟨_,_,e2,_⟩:=m;lia
  |dK us=>obtain⟨_,e2,_⟩:=m;lia
  |dT us=>obtain⟨_,e2,_⟩:=m;lia
  |frd _ us=>obtain⟨_,e2,_⟩:=m;lia
  |frk _ us=>obtain⟨_,e2,_⟩:=m;lia
def HR.codNone  (h:HR K H G)(e:H a=some (frzC ob)):G a=none:=by
 cases q:G a with
 |none=>rfl
 |some o=>
  have m:=h a o q;cases o with
  |lst us=>obtain⟨_,e2,_⟩:=m;lia
  |fro us=>obtain⟨_,_,e2,_⟩:=m;lia
  |dK us=>obtain⟨_,e2,_⟩:=m;lia
  |dT us=>obtain⟨_,e2,_⟩:=m;lia
  |frd _ us=>obtain⟨_,e2,_⟩:=m;lia
  |frk _ us=>obtain⟨_,e2,_⟩:=m;lia
def HR.tblNone  (h:HR K H G)(e:H a=some (.tbl ps)):G a=none:=by
 cases q:G a with
 |none=>rfl
 |some o=>
  have m:=h a o q;cases o with
  |lst us=>obtain⟨_,e2,_⟩:=m;lia
  |fro us=>obtain⟨_,_,e2,_⟩:=m;lia
  |dK us=>obtain⟨_,e2,_⟩:=m;lia
  |dT us=>obtain⟨_,e2,_⟩:=m;lia
  |frd _ us=>obtain⟨_,e2,_⟩:=m;lia
  |frk _ us=>obtain⟨_,e2,_⟩:=m;lia
def Fr.ts  (f:Fr H G H' G')(h:HR K H G):TS H H':=⟨λa xs e=>(f a _ e (h.tupNone e)).1,λa o e=>(f a _ e (h.codNone e)).1⟩
def jfz.upd  (h:jfz H)(h1:∀ps,H p≠some (.tbl ps))(h2:∀ob,H p≠some (frzC ob)):jfz (L2.upd H p o):=λt ht=>by
 rcases h t ht with e|⟨c,oc,e1,e2,q⟩
 ·exact .inl (by rw[jad (λz=>h1 _ (z ▸ e))];exact e)
 ·exact .inr ⟨c,oc,by rw[jad (λz=>h1 _ (z ▸ e1))];exact e1,by rw[jad (λz=>h2 _ (z ▸ e2))];exact e2,q⟩
def jfz.new  (h:jfz H)(e:H p=none):jfz (L2.upd H p o):=h.upd (λps z=>by lia) λob z=>by lia
def HR.tabW  (h:HR K H G){mo:MO}(g:G p=some mo):jfz (L2.upd H p o):=h.tab.upd (λps z=>by rw[h.tblNone z]at g;cases g) λob z=>by rw[h.codNone z]at g;cases g
def MOk.there    (m:MOk K H a o):∃ho,H a=some ho:=by
 cases o with
 |lst _=>obtain⟨_,e,_⟩:=m;simp_all
 |fro _=>obtain⟨_,_,e,_⟩:=m;simp_all
 |dK _=>obtain⟨_,e,_⟩:=m;simp_all
 |dT _=>obtain⟨_,e,_⟩:=m;simp_all
 |frd _ _=>obtain⟨_,e,_⟩:=m;simp_all
 |frk _ _=>obtain⟨_,e,_⟩:=m;simp_all
def MOk.keep    (m:MOk K H a o)(e:H' a=H a)(t:TS H H'):MOk K H' a o:=by
 cases o with
 |lst _=>obtain⟨vs,q,r⟩:=m;exact⟨vs,e.trans q,r.ts t⟩
 |fro _=>obtain⟨ob,vs,q,r⟩:=m;exact⟨ob,vs,e.trans q,r.ts t⟩
 |dK _=>obtain⟨l,q,r⟩:=m;exact⟨l,e.trans q,r.ts t⟩
 |dT _=>obtain⟨l,q,r⟩:=m;exact⟨l,e.trans q,r.ts t⟩
 |frd _ _=>obtain⟨l,q,r⟩:=m;exact⟨l,e.trans q,r.ts t⟩
 |frk _ _=>obtain⟨l,q,r⟩:=m;exact⟨l,e.trans q,r.ts t⟩
def HR.nope  (h:HR K H G)(e:H a=none):G a=none:=by
 cases q:G a with
 |none=>rfl
 |some o=>
  obtain⟨_,e2⟩:=(h a o q).there
  lia
def jaE    : gup G a o a=some o:=by unfold gup;lia
def jbA    (h:b≠a):gup G a o b=G b:=by unfold gup;lia
def TS.new    (e:H p=none):TS H (upd H p o):=⟨λa xs h=>by rw[jad (jai h e)];exact h,λa ob h=>by rw[jad (jai h e)];exact h⟩
def HR.newT  (h:HR K H G)(e:H p=none):HR K (upd H p (.tup xs)) G:=⟨λa o q=>by
 have m:=h a o q;obtain⟨ho,e2⟩:=m.there;exact m.keep (jad (jai e2 e)) (TS.new e),h.tab.new e⟩
def Fr.new    (e:H p=none):Fr H G (upd H p o) G:=⟨λa ob h g _=>⟨by rw[jad (jai h e)];exact h,g⟩⟩
def HR.newO  (h:HR K H G){mo:MO}(e:H p=none)(m:MOk K (upd H p o) p mo):HR K (upd H p o) (gup G p mo):=⟨λa ob q=>by
 by_cases z:a=p
 ·subst z;rw[jaE]at q
  lia
 ·rw[jbA z]at q;exact(h a ob q).keep (jad z) (TS.new e),h.tab.new e⟩
def Fr.newO     (e:H p=none):Fr H G (upd H p o) (gup G p mo):=⟨λa ob h g _=>by
 have z:a≠p:=jai h e;exact⟨by rw[jad z];exact h,by rw[jbA z];exact g⟩⟩
def TS.write  (h:HR K H G)(g:G p=some mo):TS H (upd H p o):=⟨λa xs e=>by
 have z:a≠p:=λz=>by subst z;rw[h.tupNone e]at g;cases g
 rw[jad z];exact e,λa ob e=>by
 have z:a≠p:=λz=>by subst z;rw[h.codNone e]at g;cases g
 rw[jad z];exact e⟩
def HR.write  (h:HR K H G){mo mo':MO}(g:G p=some mo)(m:MOk K (upd H p o) p mo'):HR K (upd H p o) (gup G p mo'):=⟨λa ob q=>by
 by_cases z:a=p
 ·subst z;rw[jaE]at q
  lia
 ·rw[jbA z]at q;exact(h a ob q).keep (jad z) (TS.write h g),h.tabW g⟩
def Fr.write     (g:G p=some mo):Fr H G (upd H p o) (gup G p mo'):=⟨λa ob h n _=>by
 have z:a≠p:=λz=>by lia
 exact⟨by rw[jad z];exact h,by rw[jbA z];exact n⟩⟩
theorem RUs.length  : ∀{us } {vs },RUs K H us vs->us.length=vs.length
 |[],_,h=>by cases h;rfl
 |_::_,_,h=>by
  obtain⟨v,vr,rfl,_,rs⟩:=h;simp[rs.length]
theorem RUs.append  : ∀{us ws } {vs xs },RUs K H us vs->RUs K H ws xs->RUs K H (us++ws) (vs++xs)
 |[],_,_,_,h,h'=>by cases h;exact h'
 |_::_,_,_,_,h,h'=>by
  obtain⟨v,vr,rfl,r,rs⟩:=h;exact⟨v,vr++_,rfl,r,rs.append h'⟩
theorem RUs.get  : ∀{us } {vs } {i:Nat} {u },RUs K H us vs->us[i]?=some u->∃v,vs[i]?=some v/\RU K H u v
 |[],_,_,_,_,e=>by simp at e
 |_::_,_,0,_,h,e=>by
  obtain⟨v,vr,rfl,r,_⟩:=h
  simp_all
 |_::_,_,i+1,_,h,e=>by
  obtain⟨v,vr,rfl,_,rs⟩:=h;obtain⟨w,h1,h2⟩:=rs.get (i:=i) (by simpa using e)
  simp_all
theorem RUs.take  : ∀{us } {vs } n ,RUs K H us vs->RUs K H (us.take n) (vs.take n)
 |_,_,0,_=>rfl
 |[],_,_+1,h=>by cases h;rfl
 |_::_,_,n+1,h=>by
  obtain⟨v,vr,rfl,r,rs⟩:=h;exact⟨v,vr.take n,rfl,r,rs.take n⟩
theorem RUs.drop  : ∀{us } {vs } n ,RUs K H us vs->RUs K H (us.drop n) (vs.drop n)
 |_,_,0,h=>h
 |[],_,_+1,h=>by cases h;rfl
 |_::_,_,n+1,h=>by
  obtain⟨v,vr,rfl,_,rs⟩:=h;exact rs.drop n
theorem RUs.set    (r:RU K H u v):∀{us } {vs } i ,RUs K H us vs->RUs K H (us.set i u) (vs.set i v)
 |[],_,_,h=>by cases h;rfl
 |_::_,_,0,h=>by
  obtain⟨w,vr,rfl,_,rs⟩:=h;exact⟨v,vr,rfl,r,rs⟩
 |_::_,_,i+1,h=>by
  obtain⟨w,vr,rfl,q,rs⟩:=h;exact⟨w,vr.set i v,rfl,q,rs.set r i⟩
theorem RUs.reverse  : ∀{us } {vs },RUs K H us vs->RUs K H us.reverse vs.reverse
 |[],_,h=>by cases h;rfl
 |_::_,_,h=>by
  obtain⟨v,vr,rfl,r,rs⟩:=h;rw[Ydb,Ydb];exact rs.reverse.append ⟨v,[],rfl,r,rfl⟩
theorem RUs.rep    (h:RUs K H us vs):∀k ,RUs K H (Yaa k us).flatten (Yaa k vs).flatten
 |0=>rfl
 |k+1=>by
  rw[YaS,YaS,Yb9,Yb9];exact h.append (h.rep k)
theorem RUs.atI {us:List U}{vs:List V}{i:Int}{u:U}(h:RUs K H us vs)(e:atI us i=some u):∃v,L2.atI vs i=some v/\RU K H u v:=by
 unfold L2.atI at e ⊢;rw[h.length]at e;cases q:ixN vs.length i with
 |none=>simp_all
 |some j=>
  rw[q]at e;exact h.get e
def RUs.cut    (h:RUs K H us vs) lo hi:RUs K H (Z.cut us lo hi) (cutV vs lo hi):=by
 unfold Z.cut cutV;rw[h.length];exact(h.drop _).take _
theorem RUs.isEmpty    (h:RUs K H us vs):us.isEmpty=vs.isEmpty:=by
 cases us with
 |nil=>cases h;rfl
 |cons u us=>obtain⟨v,vr,rfl,_⟩:=h;rfl
theorem RUs.strs  : ∀{us } {vs } {ns },RUs K H us vs->jc1 us=some ns->vs=ns.map V.str
 |[],_,_,h,e=>by cases h;cases e;rfl
 |u::us,_,ns,h,e=>by
  obtain⟨v,vr,rfl,r,rs⟩:=h;cases u with
  |str i=>
   cases r;rw[jc1]at e;cases q:jc1 us with
   |none=>lia
   |some l=>rw[q]at e;cases e;rw[rs.strs q];rfl
  |_=>cases e
theorem RUs.bools  : ∀{us } {vs } {ns },RUs K H us vs->jbG us=some ns->vs=ns.map V.bl
 |[],_,_,h,e=>by cases h;cases e;rfl
 |u::us,_,ns,h,e=>by
  obtain⟨v,vr,rfl,r,rs⟩:=h;cases u with
  |bl i=>
   cases r;rw[jbG]at e;cases q:jbG us with
   |none=>lia
   |some l=>rw[q]at e;cases e;rw[rs.bools q];rfl
  |_=>cases e
def HR.lst  (h:HR K H G)(e:G a=some (.lst us)):∃vs,H a=some (.lst vs)/\RUs K H us vs:=h a _ e
def HR.ls  (h:HR K H G)(e:lsG G a=some us):∃vs,SqL K H a vs/\RUs K H us vs:=by
 unfold lsG at e;split at e
 ·rename_i xs q;cases e;obtain⟨vs,q2,r⟩:=h a _ q;exact⟨vs,.inl (.inl q2),r⟩
 ·rename_i xs q;cases e;obtain⟨o,vs,q2,r⟩:=h a _ q;exact⟨vs,.inl (.inr ⟨o,q2⟩),r⟩
 lia
def HR.rd  (h:HR K H G)(e:lsG G a=some us):∃vs,Rd H a (.lst vs)/\RUs K H us vs:=by
 unfold lsG at e;split at e
 ·rename_i xs q;cases e;obtain⟨vs,q2,r⟩:=h a _ q;exact⟨vs,.inl q2,r⟩
 ·rename_i xs q;cases e;obtain⟨o,vs,q2,r⟩:=h a _ q;exact⟨vs,.inr ⟨o,q2⟩,r⟩
 lia
end
mutual
theorem DU.dv {K:Yab}{H:Hp}{G:Gp}(h:HR K H G):∀{u:U} {d:PyData} {v:V},DU G u d->RU K H u v->DV K H v d
 |_,_,_,.non,r=>by cases r;exact .non
 |_,_,_,.bl b,r=>by cases r;exact .bl b
 |_,_,_,.int i,r=>by cases r;exact .int i
 |_,_,_,.str x,r=>by cases r;exact .str x
 |_,_,_,.tup q,r=>by
  obtain⟨a,vs,rfl,s,rs⟩:=r
  exact .tup (.of s) (DUs.dv h q rs)
 |_,_,_,.lst e q,r=>by
  cases r
  obtain⟨vs,s,rs⟩:=h.rd e
  exact .lst s (DUs.dv h q rs)
 |_,_,_,.dic e,r=>by
  cases r
  obtain⟨l,q,rs⟩:=h _ _ e
  cases rs
  exact .dic q
theorem DUs.dv {K:Yab}{H:Hp}{G:Gp}(h:HR K H G):∀{us:List U} {ds:List PyData} {vs:List V},DUs G us ds->RUs K H us vs->DVs K H vs ds
 |_,_,_,.nil,r=>by cases r;exact .nil
 |_,_,_,.cons a b,r=>by
  obtain⟨v,vr,rfl,r1,rs⟩:=r
  exact .cons (DU.dv h a r1) (DUs.dv h b rs)
end
end Z

namespace L2
open PySem
def PE.imp     (h:PE X e t)(i:∀σ H Q,t' σ H Q->t σ H Q):PE X e t':=λpins s σ H Q I q=>h pins s σ H Q I (i σ H Q q)
def PT.imp     (h:PT X e t)(i:∀σ H Q,t' σ H Q->t σ H Q):PT X e t':=λpins s σ H Q I q=>h pins s σ H Q I (i σ H Q q)
def PW.imp     (h:PW X e t)(i:∀σ H Q,t' σ H Q->t σ H Q):PW X e t':=λw pins s σ H Q I q=>h w pins s σ H Q I (i σ H Q q)
def PA.imp     (h:PA X e t)(i:∀σ H Q,t' σ H Q->t σ H Q):PA X e t':=λpos pins s σ H Q I q=>h pos pins s σ H Q I (i σ H Q q)
def PO.imp     (h:PO X e t)(i:∀σ H Q,t' σ H Q->t σ H Q):PO X e t':=λpins s σ H Q I q=>h pins s σ H Q I (i σ H Q q)
def PS.imp     (h:PS X e t)(i:∀D σ H,t' D σ H->t D σ H):PS X e t':=λpins s σ H D I q=>h pins s σ H D I (i D σ H q)
def PSs.imp     (h:PSs X e t)(i:∀D σ H,t' D σ H->t D σ H):PSs X e t':=λpins s σ H D I q=>h pins s σ H D I (i D σ H q)
end L2
namespace Z
open PySem L2
noncomputable def gK  (K:Yab):Str->Option Value:=λx=>(Ybc K YaC x).join
def XD  (K:Yab)(H:Hp)(C dx:Addr)(x:XV):Prop:=1<=x.c/\x.c<6/\XCls K (gK K) (clsN x.c) (clsF x.c) C/\∃l,H dx=some (.xd l)/\l.map (·.1)=clsF x.c/\RUs K H x.fs (l.map (·.2))
def XAt  (X:Cx)(H:Hp)(s:Shared)(e:Value)(x:XV):Prop:=∃ea C dx,e=.ref ea/\Lies X.s₀.heap.objs.size X.pn H s.heap ea (.ref C) (some dx)/\XD X.K H C dx x
section
variable (X:Cx)
def LX (σ:St)(H:Hp)(G:Gp)(E:KX):Prop:=∀(pins:List (Addr×Obj)) (e:Value) (s':Shared) (x:XV) (G':Gp) (H':Hp),Inv X pins σ H' s'->XAt X H' s' e x->HR X.K H' G'->Fr H G H' G'->E x G'->X.xe e s'
def LV (H:Hp)(G:Gp)(Q:K1)(Q0:VK):Prop:=∀w v G' H',RU X.K H' w v->HR X.K H' G'->Fr H G H' G'->Q w G'->Q0 v H'
def lE (t:UE):TE:=λσ H Q0=>∃ς G Q E,SR X.K H ς σ/\HR X.K H G/\t ς G Q E/\LV X H G Q Q0/\LX X σ H G E
def lT (t:UT):TT:=λσ H Q0=>∃ς G Q E,SR X.K H ς σ/\HR X.K H G/\t ς G Q E/\(∀b G' H',HR X.K H' G'->Fr H G H' G'->Q b G'->Q0 b H')/\LX X σ H G E
def lA (t:UA):TA:=λσ H Q0=>∃ς G Q E,SR X.K H ς σ/\HR X.K H G/\t ς G Q E/\(∀ws vs G' H',RUs X.K H' ws vs->HR X.K H' G'->Fr H G H' G'->Q ws G'->Q0 vs H')/\LX X σ H G E
def lO (t:Sg->Gp->(Option Int->Gp->Prop)->KX->Prop):TO:=λσ H Q0=>∃ς G Q E,SR X.K H ς σ/\HR X.K H G/\t ς G Q E/\(∀o G' H',HR X.K H' G'->Fr H G H' G'->Q o G'->Q0 o H')/\LX X σ H G E
end
section
variable {X:Cx}{σ:St}{H H1 H2:Hp}{G G1 G2:Gp}
def LX.fr  {E:KX}(h:LX X σ H G E)(f:Fr H G H1 G1):LX X σ H1 G1 E:=λpins e s' x G' H' I a hr f' q=>h pins e s' x G' H' I a hr (f.trans f') q
def LV.fr    (h:LV X H G Q Q0)(f:Fr H G H1 G1):LV X H1 G1 Q Q0:=λw v G' H' r hr f' q=>h w v G' H' r hr (f.trans f') q
def LV.here    (h:LV X H G Q Q0)(r:RU X.K H w v)(hr:HR X.K H G)(q:Q w G):Q0 v H:=h w v G H r hr (Fr.refl _ _) q
def LV.bl    (h:LV X H G Q Q0)(hr:HR X.K H G)(q:Q (.bl b) G):Q0 (.bl b) H:=h.here (w:=.bl b) rfl hr q
def LV.int    (h:LV X H G Q Q0)(hr:HR X.K H G)(q:Q (.int b) G):Q0 (.int b) H:=h.here (w:=.int b) rfl hr q
def LV.str    (h:LV X H G Q Q0)(hr:HR X.K H G)(q:Q (.str b) G):Q0 (.str b) H:=h.here (w:=.str b) rfl hr q
def LV.tup    (h:LV X H G Q Q0)(e:H p=none)(r:RUs X.K H us vs)(hr:HR X.K H G)(q:Q (.tup us) G):Q0 (.ref p) (upd H p (.tup vs)):=
 h (.tup us) (.ref p) G _ ⟨p,vs,rfl,jag,r.ts (TS.new e)⟩ (hr.newT e) (Fr.new e) q
def LV.lst    (h:LV X H G Q Q0)(e:H p=none)(r:RUs X.K H us vs)(hr:HR X.K H G)(q:newO G (.lst us) Q):Q0 (.ref p) (upd H p (.lst vs)):=
 h (.loc p) (.ref p) _ _ rfl (hr.newO (mo:=.lst us) e ⟨vs,jag,r.ts (TS.new e)⟩) (Fr.newO e) (q.at p (hr.nope e))
def LV.wl    (h:LV X H G Q Q0)(g:G p=some mo)(r:RUs X.K H us vs)(hr:HR X.K H G)(rw':RU X.K H w v)(q:putO G p (.lst us) (Q w)):Q0 v (upd H p (.lst vs)):=
 h w v _ _ (rw'.ts (TS.write hr g)) (hr.write (mo':=.lst us) g ⟨vs,jag,r.ts (TS.write hr g)⟩) (Fr.write g) q.at
end

def lE.two  {R:V->V->Hp->Prop}{k:U->U->Gp->K1->Prop}(h:lE X (λς G Q E=>ta ς G (λx G1=>tb ς G1 (λy G2=>k x y G2 Q) E) E) σ H Q0)
  (f:∀x y v v' G H' Q,RU X.K H' x v->RU X.K H' y v'->HR X.K H' G->k x y G Q->LV X H' G Q Q0->R v v' H'):lE X ta σ H λv H1=>lE X tb σ H1 λv' H2=>R v v' H2:=by
 obtain⟨ς,G,Q,E,hς,hG,h,lv,lx⟩:=h;refine⟨ς,G,_,E,hς,hG,h,λx v G1 H1 rx hG1 f1 h1=>?_,lx⟩;refine⟨ς,G1,_,E,hς.ts (f1.ts hG),hG1,h1,λy v' G2 H2 ry hG2 f2 h2=>?_,lx.fr f1⟩;exact f x y v v' G2 H2 Q (rx.ts (f2.ts hG1)) ry hG2 h2 (lv.fr (f1.trans f2))
def lE.one  {R:V->Hp->Prop}{k:U->Gp->K1->Prop}(h:lE X (λς G Q E=>ta ς G (λx G1=>k x G1 Q) E) σ H Q0)
  (f:∀x v G H' Q,RU X.K H' x v->HR X.K H' G->k x G Q->LV X H' G Q Q0->R v H'):lE X ta σ H R:=by
 obtain⟨ς,G,Q,E,hς,hG,h,lv,lx⟩:=h;exact⟨ς,G,_,E,hς,hG,h,λx v G1 H1 rx hG1 f1 h1=>f x v G1 H1 Q rx hG1 h1 (lv.fr f1),lx⟩
def lE.many    {k:List U->Gp->K1->Prop}(h:lE X (λς G Q E=>ta ς G (λx G1=>k x G1 Q) E) σ H Q0)
  (f:∀x v G H' Q,RUs X.K H' x v->HR X.K H' G->k x G Q->LV X H' G Q Q0->R v H'):lA X ta σ H R:=by
 obtain⟨ς,G,Q,E,hς,hG,h,lv,lx⟩:=h;exact⟨ς,G,_,E,hς,hG,h,λx v G1 H1 rx hG1 f1 h1=>f x v G1 H1 Q rx hG1 h1 (lv.fr f1),lx⟩

def joV    (hN:X.N[i]?=some x)(hv:Vis X.env.scope x)(hd:(x==("__debug__" : Str))=false)(hcd:(x==("__classdict__" : Str))=false):PE X (.Name x pos) (lE X λς G Q _=>slot ς i λu=>Q u G):=by
 refine(jbo hN hv hd hcd).imp λσ H Q0 h=>?_;obtain⟨ς,G,Q,E,hς,hG,h,lv,_⟩:=h;unfold slot at h;split at h
 ·rename_i u e;obtain⟨v,e1,r⟩:=hς.2 i u e;exact⟨v,e1,lv.here r hG h⟩
 lia
def jce     (h:PE X e (tC v))(r:∀H,RU X.K H u v):PE X e (lE X λ_ G Q _=>Q u G):=
 h.imp λ_ _ _ ⟨_,_,_,_,_,hG,q,lv,_⟩=>lv.here (r _) hG q
def OpU  (X:Cx)(f:Value->Value->Sem Value)(b:U->U->Gp->K1->Prop):Prop:=
 ∃r:R2,OpR X f r/\∀x y v v' G H Q Q0,RU X.K H x v->RU X.K H y v'->HR X.K H G->b x y G Q->LV X H G Q Q0->r v v' H Q0

def jpb    (ho:OpU X (Ybg o) k)(ha:PE X a (lE X ta))(hb:PE X b (lE X tb)) :
  PE X (.BinOp a o b pos) (lE X λς G Q E=>ta ς G (λx G1=>tb ς G1 (λy G2=>k x y G2 Q) E) E):=by
 obtain⟨r,h1,h2⟩:=ho;exact(jpK h1 ha hb).imp λσ H Q0 h=>lE.two h λx y v v' G H' Q rx ry hG q lv=>h2 x y v v' G H' Q Q0 rx ry hG q lv
def jnH  : OpU X (Ybg .Add) addU:=by
 refine⟨_,jnT.or (jha.or ((jlO (X:=X)).or (jnS.or jlP))),?_⟩;intro x y v v' G H Q Q0 rx ry hG h lv;cases x<;>try exact h.elim
 ·cases y<;>try exact h.elim
  cases rx;cases ry;exact .inr (.inr (.inr (.inr ⟨_,_,rfl,rfl,lv.int hG h⟩)))
 ·cases y<;>try exact h.elim
  cases rx;cases ry;exact .inl ⟨_,_,rfl,rfl,lv.int hG h⟩
 ·cases y<;>try exact h.elim
  cases rx;cases ry;exact .inr (.inl ⟨_,_,rfl,rfl,h.1,lv.str hG h.2⟩)
 ·cases y<;>try exact h.elim
  rename_i xs ys;obtain⟨a,vs,rfl,s1,r1⟩:=rx;obtain⟨b,ws,rfl,s2,r2⟩:=ry;obtain⟨hl,q⟩:=h;refine .inr (.inr (.inl ⟨a,b,vs,ws,rfl,rfl,.of s1,.of s2,by rw[<- r1.length,<- r2.length];exact hl,λz=>?_,λ_ z=>?_,λ_ _ p hp=>?_⟩))
  ·have:xs=[]:=by have:=r1.length;simp_all
   subst this;exact lv.here (w:=.tup ys) ⟨b,ws,rfl,s2,r2⟩ hG q
  ·have:ys=[]:=by have:=r2.length;simp_all
   subst this;rw[YbM]at q;exact lv.here (w:=.tup xs) ⟨a,vs,rfl,s1,r1⟩ hG q
  ·exact lv.tup hp (r1.append r2) hG q
 ·cases y<;>try exact h.elim
  cases rx;cases ry;obtain⟨xs,ys,g1,g2,hl,q⟩:=h;obtain⟨vs,e1,r1⟩:=hG.lst g1;obtain⟨ws,e2,r2⟩:=hG.lst g2;exact .inr (.inr (.inr (.inl ⟨_,_,vs,ws,rfl,rfl,e1,e2,by rw[<- r1.length,<- r2.length];exact hl,λp hp=>lv.lst hp (r1.append r2) hG q⟩)))
def jnC  : OpU X (Ybg .Sub) subU:=by
 refine⟨_,jnI.or (jlJ (X:=X)),?_⟩;intro x y v v' G H Q Q0 rx ry hG h lv;cases x<;>try exact h.elim
 all_goals cases y<;>try exact h.elim
 all_goals cases rx;cases ry
 ·exact .inr (.inl ⟨_,_,rfl,rfl,lv.int hG h⟩)
 ·exact .inr (.inr ⟨_,_,rfl,rfl,lv.int hG h⟩)
 ·exact .inl ⟨_,_,rfl,rfl,lv.int hG h⟩
def jnE  : OpU X (Ybg .Mult) mulU:=by
 refine⟨_,jnM.or (jnJ.or ((jlK (X:=X)).or jlL)),?_⟩;intro x y v v' G H Q Q0 rx ry hG h lv;cases x<;>try exact h.elim
 all_goals cases y<;>try exact h.elim
 ·cases rx;cases ry;exact .inl ⟨_,_,rfl,rfl,h.1,lv.int hG h.2⟩
 ·cases rx;cases ry;exact .inr (.inr (.inr ⟨_,_,rfl,rfl,h.1,h.2.1,h.2.2.1,lv.str hG h.2.2.2⟩))
 ·rename_i xs k;obtain⟨a,vs,rfl,s1,r1⟩:=rx;cases ry;obtain⟨h0,h1,h2,hl,q⟩:=h;refine .inr (.inr (.inl ⟨a,k,vs,rfl,rfl,.of s1,?_,h1,h2,by rw[<- r1.length];exact hl,λz=>?_,λ_ p hp=>lv.tup hp (r1.rep _) hG q⟩))
  ·intro z;subst z;exact h0 (by have:=r1.length;simp_all)
  ·subst z;have e:(Yaa (Int.toNat 1) xs).flatten=xs:=by simp
   rw[e]at q;exact lv.here (w:=.tup xs) ⟨a,vs,rfl,s1,r1⟩ hG q
 ·cases rx;cases ry;obtain⟨xs,g1,h1,h2,hl,q⟩:=h;obtain⟨vs,e1,r1⟩:=hG.lst g1;exact .inr (.inl ⟨_,_,vs,rfl,rfl,e1,h1,h2,by rw[<- r1.length];exact hl,λp hp=>lv.lst hp (r1.rep _) hG q⟩)
def jlI  : OpU X (Ybg .FloorDiv) jox:=by
 refine⟨_,jlM,?_⟩;intro x y v v' G H Q Q0 rx ry hG h lv;cases x<;>try exact h.elim
 cases y<;>try exact h.elim
 ·cases rx;cases ry;exact⟨_,_,rfl,rfl,⟨h.1,h.2.1⟩,lv.int hG h.2.2⟩
def jnF  : OpU X (Ybg .Mod) modU:=by
 refine⟨_,jnN,?_⟩;intro x y v v' G H Q Q0 rx ry hG h lv;cases x<;>try exact h.elim
 cases y<;>try exact h.elim
 ·cases rx;cases ry;exact⟨_,_,rfl,rfl,h.1,lv.int hG h.2⟩
def jnD  : OpU X (Ybg .Pow) powU:=by
 refine⟨_,jnK,?_⟩;intro x y v v' G H Q Q0 rx ry hG h lv;cases x<;>try exact h.elim
 cases y<;>try exact h.elim
 ·cases rx;cases ry;exact⟨_,_,rfl,rfl,h.1,lv.int hG h.2⟩
def jnG   o:OpU X (Ybg o) (binU o):=by
 cases o with
 |Add=>exact jnH
 |Sub=>exact jnC
 |Mult=>exact jnE
 |FloorDiv=>exact jlI
 |Mod=>exact jnF
 |Pow=>exact jnD
 |_=>exact⟨λ_ _ _ _=>False,λ_ _ _ _ _ _ _ _ _ _ _ _ h=>h.elim,λ_ _ _ _ _ _ _ _ _ _ _ h _=>h⟩
def jo2  (ha:PE X a (lE X ta)):PE X (.UnaryOp .USub a pos) (lE X λς G Q E=>ta ς G (λx G1=>negU x G1 Q) E):=by
 refine(jpI jmE ha).imp λσ H Q0 h=>lE.one h λx v G H' Q rx hG q lv=>?_;cases x<;>try exact q.elim
 cases rx;exact⟨_,rfl,lv.int hG q⟩
def CmU  (X:Cx)(o:CmpOp):Prop:=
 ∃r:R2,OpR X (YaN o) r/\∀x y v v' G H (k:Bool->Prop) (Q0:VK),RU X.K H x v->RU X.K H y v'->HR X.K H G->cmpU o x y G k->(∀c,k c->Q0 (.bl c) H)->r v v' H Q0

def rIs  (neg:Bool):R2:=λx y H Q=>((x=.non\/∃b,x=.bl b)\/(y=.non\/∃b,y=.bl b))/\Q (.bl (if neg then !decide (x=y) else decide (x=y))) H
def jgy    (rx:RelV x v)(ry:RelV y u)(h:(x=.non\/∃b,x=.bl b)\/(y=.non\/∃b,y=.bl b)):plainIs v u=true/\(v==u)=decide (x=y):=by
 rcases h with(rfl|⟨b,rfl⟩)|(rfl|⟨b,rfl⟩)
 ·cases rx;cases y with
  |non=>cases ry;exact⟨rfl,by simp⟩
  |bl c=>cases ry;exact⟨rfl,by simp⟩
  |int _=>obtain⟨t,rfl⟩:=ry;exact⟨rfl,by simp⟩
  |str _=>obtain⟨t,rfl⟩:=ry;exact⟨rfl,by simp⟩
  |byt _=>obtain⟨t,rfl⟩:=ry;exact⟨rfl,by simp⟩
  |flt _=>obtain⟨t,rfl⟩:=ry;exact⟨rfl,by simp⟩
  |ref _=>cases ry;exact⟨rfl,by simp⟩
  |ty _=>cases ry;exact⟨rfl,by simp⟩
 ·cases rx;cases y with
  |non=>cases ry;exact⟨rfl,by simp⟩
  |bl c=>cases ry;exact⟨rfl,by lia⟩
  |int _=>obtain⟨t,rfl⟩:=ry;exact⟨rfl,by simp⟩
  |str _=>obtain⟨t,rfl⟩:=ry;exact⟨rfl,by simp⟩
  |byt _=>obtain⟨t,rfl⟩:=ry;exact⟨rfl,by simp⟩
  |flt _=>obtain⟨t,rfl⟩:=ry;exact⟨rfl,by simp⟩
  |ref _=>cases ry;exact⟨rfl,by simp⟩
  |ty _=>cases ry;exact⟨rfl,by simp⟩
 ·cases ry;cases x with
  |non=>cases rx;exact⟨rfl,by simp⟩
  |bl c=>cases rx;exact⟨rfl,by simp⟩
  |int _=>obtain⟨t,rfl⟩:=rx;exact⟨rfl,by simp⟩
  |str _=>obtain⟨t,rfl⟩:=rx;exact⟨rfl,by simp⟩
  |byt _=>obtain⟨t,rfl⟩:=rx;exact⟨rfl,by simp⟩
  |flt _=>obtain⟨t,rfl⟩:=rx;exact⟨rfl,by simp⟩
  |ref _=>cases rx;exact⟨rfl,by simp⟩
  |ty _=>cases rx;exact⟨rfl,by simp⟩
 ·cases ry;cases x with
  |non=>cases rx;exact⟨rfl,by simp⟩
  |bl c=>cases rx;exact⟨rfl,by lia⟩
  |int _=>obtain⟨t,rfl⟩:=rx;exact⟨rfl,by simp⟩
  |str _=>obtain⟨t,rfl⟩:=rx;exact⟨rfl,by simp⟩
  |byt _=>obtain⟨t,rfl⟩:=rx;exact⟨rfl,by simp⟩
  |flt _=>obtain⟨t,rfl⟩:=rx;exact⟨rfl,by simp⟩
  |ref _=>cases rx;exact⟨rfl,by simp⟩
  |ty _=>cases rx;exact⟨rfl,by simp⟩
def jnO  : OpR X (YaN .Is) (rIs false):=by
 intro pins s σ H x y v u Q I rx ry h;obtain⟨c,q⟩:=h;obtain⟨h1,h2⟩:=jgy rx ry c;refine wpAny_is_plain h1 ⟨.bl _,H,I,?_,q⟩;rw[h2];rfl
def jh2  : OpR X (YaN .IsNot) (rIs true):=by
 intro pins s σ H x y v u Q I rx ry h;obtain⟨c,q⟩:=h;obtain⟨h1,h2⟩:=jgy rx ry c;refine wpAny_isNot_plain h1 ⟨.bl _,H,I,?_,q⟩;rw[h2];rfl
def jkF       (rx:RU K H x v)(ry:RU K H y v')(h:isU x y k):((v=.non\/∃b,v=.bl b)\/(v'=.non\/∃b,v'=.bl b))/\k (decide (v=v')):=by
 have e:∀{a b:V},a≠b->k false->k (decide (a=b)):=λn q=>by lia
 cases x<;>try exact h.elim
 ·cases y
  case non=>have h':k true:=h;cases rx;cases ry;lia
  all_goals first
   |exact h.elim
   |(cases rx;obtain⟨a,vs,rfl,_⟩:=ry;exact⟨.inl (.inl rfl),e (λz=>nomatch z) h⟩)
   |(cases rx;cases ry;exact⟨.inl (.inl rfl),e (λz=>nomatch z) h⟩)
 ·cases y<;>first
   |exact h.elim
   |(cases rx;cases ry;exact⟨.inr (.inl rfl),e (λz=>nomatch z) h⟩)
   |(cases rx;cases ry;rename_i b c;exact⟨.inl (.inr ⟨_,rfl⟩),by rw[decide_eq_decide.mpr (⟨λz=>V.bl.inj z,λz=>z ▸ rfl⟩:V.bl b=.bl c↔b=c)];exact h⟩)
 ·cases y<;>first
   |exact h.elim
   |(cases rx;cases ry;exact⟨.inr (.inl rfl),e (λz=>nomatch z) h⟩)
   |(cases rx;cases ry;exact⟨.inr (.inr ⟨_,rfl⟩),e (λz=>nomatch z) h⟩)
 ·cases y<;>first
   |exact h.elim
   |(cases rx;cases ry;exact⟨.inr (.inl rfl),e (λz=>nomatch z) h⟩)
   |(cases rx;cases ry;exact⟨.inr (.inr ⟨_,rfl⟩),e (λz=>nomatch z) h⟩)
 ·cases y<;>first
   |exact h.elim
   |(cases ry;obtain⟨a,vs,rfl,_⟩:=rx;exact⟨.inr (.inl rfl),e (λz=>nomatch z) h⟩)
   |(cases ry;obtain⟨a,vs,rfl,_⟩:=rx;exact⟨.inr (.inr ⟨_,rfl⟩),e (λz=>nomatch z) h⟩)
 ·cases y<;>first
   |exact h.elim
   |(cases rx;cases ry;exact⟨.inr (.inl rfl),e (λz=>nomatch z) h⟩)
   |(cases rx;cases ry;exact⟨.inr (.inr ⟨_,rfl⟩),e (λz=>nomatch z) h⟩)
def jkM  {X: Cx}(rx:RU X.K H x v)(ry:RU X.K H y v')(hG:HR X.K H G)(h:eqU x y G k) :
  (scal v v'=true/\k (decide (v=v')))\/∃d e,DV X.K H v d/\DV X.K H v' e/\d.canLay0=true/\e.canLay0=true/\d.depth<=100/\k (YaJ d e):=by
 have g:(∃d e,DU G x d/\DU G y e/\Small d/\Small e/\k (YaJ d e))->(scal v v'=true/\k (decide (v=v')))\/∃d e,DV X.K H v d/\DV X.K H v' e/\d.canLay0=true/\e.canLay0=true/\d.depth<=100/\k (YaJ d e):=
  λ⟨d,e,h1,h2,⟨s1,s2⟩,⟨s3,_⟩,q⟩=>.inr ⟨d,e,h1.dv hG rx,h2.dv hG ry,s1,s3,s2,q⟩
 have e:∀{p:Prop} [Decidable p],¬p->k false->k (decide p):=λn q=>by lia
 cases x<;>try exact g h
 all_goals
  cases y<;>first
   |exact g h
   |(cases rx;cases ry;exact .inl ⟨rfl,e (λz=>V.noConfusion z) h⟩)
   |(cases rx;cases ry;exact .inl ⟨rfl,by simp only[V.bl.injEq,V.int.injEq,V.str.injEq];exact h⟩)
def jhI      (r:RUs K H us vs):vs.isEmpty=us.isEmpty:=by
 have:=r.length;cases us<;>cases vs<;>simp_all
def jmq  {X: Cx}(rx:RU X.K H x v)(ry:RU X.K H y v')(hG:HR X.K H G)(h:eqQ x y G k):eqU x y G k\/(∃a z kvs,v=.ref a/\v'=.str z/\H a=some (.dK kvs)/\k false)\/(∃a b xs,v=.ref a/\v'=.ref b/\SqT X.K H a xs/\SqT X.K H b []/\k xs.isEmpty)\/∃a z xs,v=.ref a/\v'=.str z/\(SqT X.K H a xs\/SqL X.K H a xs)/\k false:=by
 cases x<;>try exact .inl h
 all_goals cases y<;>try exact .inl h
 ·obtain⟨a,vs,rfl,s1,r1⟩:=rx;cases ry;exact .inr (.inr (.inr ⟨a,_,vs,rfl,rfl,.inl (.of s1),h⟩))
 ·rename_i ys;cases ys<;>try exact .inl h
  obtain⟨a,vs,rfl,s1,r1⟩:=rx;obtain⟨b,ws,rfl,s2,r2⟩:=ry;cases r2;refine .inr (.inr (.inl ⟨a,b,vs,rfl,rfl,.of s1,.of s2,?_⟩));rw[jhI r1];exact h
 ·rcases h with⟨kvs,g,q⟩|⟨xs,g,q⟩|h
  ·cases rx;cases ry;obtain⟨l,e,rs⟩:=hG _ _ g;exact .inr (.inl ⟨_,_,l,rfl,rfl,e,q⟩)
  ·cases rx;cases ry;obtain⟨vs,e,rs⟩:=hG.lst g;exact .inr (.inr (.inr ⟨_,_,vs,rfl,rfl,.inr (.of e),q⟩))
  ·exact .inl h
def jey       (r:RU K H x v)(e:kU x=some k):v=kV k:=by
 cases x with
 |int i=>cases r;cases e;rfl
 |str i=>cases r;cases e;rfl
 |_=>cases e
theorem jgK    : ∀{xs } {vs } {ks },RUs K H xs vs->kUs xs=some ks->vs=ks.map kV
 |[],_,_,r,e=>by cases r;cases e;rfl
 |x::xs,_,ks,r,e=>by
  obtain⟨v,vr,rfl,r1,rs⟩:=r;rw[kUs]at e;cases h1:kU x with
  |none=>lia
  |some k=>
   cases h2:kUs xs with
   |none=>lia
   |some l=>
    rw[h1,h2]at e;cases e;rw[jey r1 h1,jgK rs h2];rfl
def jeA      (r:RU K H x v)(e:flat x=true):flatV v=true:=by
 cases x<;>first|(cases r;rfl)|exact absurd (show false=true from e) (by decide)
theorem jcV    : ∀{xs } {vs },RUs K H xs vs->xs.all flat=true->vs.all flatV=true
 |[],_,r,_=>by cases r;rfl
 |x::xs,_,r,e=>by
  obtain⟨v,vr,rfl,r1,rs⟩:=r;rw[YbE,Yao]at e;rw[YbE,jeA r1 e.1,jcV rs e.2];rfl
def joz      (r:RU K H x v)(r':RU K H y v')(e:flat x=true)(e':flat y=true):eqV v v'=eqF x y:=by
 cases x<;>first|(exact absurd (show false=true from e) (by decide))|(cases y<;>first|(exact absurd (show false=true from e') (by decide))|(cases r;cases r';rfl))
theorem jg0      (r:RU K H x v)(e:flat x=true):∀{xs } {vs },RUs K H xs vs->xs.all flat=true->inV v vs=xs.any λy=>eqF y x
 |[],_,rs,_=>by cases rs;rfl
 |y::xs,_,rs,e'=>by
  obtain⟨v',vr,rfl,r1,rs⟩:=rs;rw[YbE,Yao]at e';have ih:=jg0 r e rs e'.2;unfold inV at ih ⊢;rw[Ybn,Ybn,joz r1 r e'.1 e,ih]
theorem jbO {κ:Type}[DecidableEq κ]{K:Yab}{H:Hp}(k:κ):∀{kvs:List (κ×U)} {l:List (κ×V)},RKs K H kvs l->match dGet kvs k with|some u=>∃v,valV l k=some v/\RU K H u v|none=>valV l k=none
 |[],_,r=>by cases r;exact rfl
 |(k',u)::kvs,_,r=>by
  obtain⟨v,l',rfl,r1,rs⟩:=r;by_cases e:k'=k
  ·subst e;have:dGet ((k',u)::kvs) k'=some u:=by simp[dGet,Ybr]
   rw[this];exact⟨v,jcL rfl,r1⟩
  ·have:dGet ((k',u)::kvs) k=dGet kvs k:=by simp[dGet,Ybr,e]
   rw[this,jcM (p:=(k',v)) e];exact jbO k rs
def jdm   [DecidableEq κ](k:κ)(r:RKs K H kvs l):(valV l k).isSome=(dGet kvs k).isSome:=by
 have:=jbO k r
 grind
def rDIn  (neg:Bool):R2:=λx y H Q=>∃a o,y=.ref a/\DGet H a x o/\Q (.bl (if neg then !o.isSome else o.isSome)) H
def jnR  (hu:X.A.units+1<cLine):OpR X (YaN .In) (rDIn false):=by
 intro pins s σ H x y v u Q I rx ry h;obtain⟨a,o,rfl,g,q⟩:=h;cases ry;exact d_in hu I g rx λs' I'=>⟨.bl o.isSome,H,I',rfl,q⟩
def jh5  (hu:X.A.units+1<cLine):OpR X (YaN .NotIn) (rDIn true):=by
 intro pins s σ H x y v u Q I rx ry h;obtain⟨a,o,rfl,g,q⟩:=h;cases ry;exact jmt hu I g rx λs' I'=>⟨.bl (!o.isSome),H,I',rfl,q⟩
def jkG  {X: Cx}(rx:RU X.K H x v)(ry:RU X.K H y v')(hG:HR X.K H G)(h:inU x y G k) :
  (∃i j,v=.str i/\v'=.str j/\k (!(Yaw j i 0 j.length 1).isEmpty))\/(∃p xs,v'=.ref p/\(SqL X.K H p xs\/SqT X.K H p xs)/\flatV v=true/\xs.all flatV=true/\k (inV v xs))\/
   (∃a o,v'=.ref a/\DGet H a v o/\k o.isSome)\/∃(p:Addr) (vs:List V) (d:PyData) (ds:List PyData),v'=.ref p/\(SqL X.K H p vs\/SqT X.K H p vs)/\DV X.K H v d/\DVs X.K H vs ds/\d.canLay0=true/\d.depth<=100/\(∀e∈ds,e.canLay0=true)/\k (ds.any λe=>YaJ e d):=by
 unfold inU at h;split at h
 ·cases rx;cases ry;exact .inl ⟨_,_,rfl,rfl,h⟩
 ·obtain⟨a,vs,rfl,e,rs⟩:=ry;obtain⟨d,ds,hd,hds,sd,sds,q⟩:=h;exact .inr (.inr (.inr ⟨a,vs,d,ds,rfl,.inr (.of e),hd.dv hG rx,hds.dv hG rs,sd.1,sd.2,λe he=>(sds e he).1,q⟩))
 ·obtain⟨a,vs,rfl,e,rs⟩:=ry;obtain⟨f1,f2,q⟩:=h;exact .inr (.inl ⟨a,vs,rfl,.inr (.of e),jeA rx f1,jcV rs f2,by rw[jg0 rx f1 rs f2];exact q⟩)
 ·cases ry;rename_i a;split at h
  ·rename_i ys g;obtain⟨vs,e,rs⟩:=hG.lst g;rcases h with⟨f1,f2,q⟩|⟨d,ds,hd,hds,sd,sds,q⟩
   ·exact .inr (.inl ⟨a,vs,rfl,.inl (.of e),jeA rx f1,jcV rs f2,by rw[jg0 rx f1 rs f2];exact q⟩)
   ·exact .inr (.inr (.inr ⟨a,vs,d,ds,rfl,.inl (.of e),hd.dv hG rx,hds.dv hG rs,sd.1,sd.2,λe he=>(sds e he).1,q⟩))
  ·rename_i ys g;obtain⟨ob,vs,e,rs⟩:=hG a _ g;obtain⟨f1,f2,q⟩:=h;exact .inr (.inl ⟨a,vs,rfl,.inl (.inl (.inr ⟨ob,e⟩)),jeA rx f1,jcV rs f2,by rw[jg0 rx f1 rs f2];exact q⟩)
  ·rename_i kvs g;obtain⟨l,e,rs⟩:=hG a _ g;split at h
   ·rename_i y ek;have:=jey rx ek;subst this;exact .inr (.inr (.inl ⟨a,_,rfl,DGet.k e,by rw[jdm y rs];exact h⟩))
   lia
  ·rename_i kvs g;obtain⟨l,e,rs⟩:=hG a _ g;split at h
   ·rename_i xs;obtain⟨b,vs,rfl,eb,rb⟩:=rx;split at h
    ·rename_i y ek;have:=jgK rb ek;subst this;exact .inr (.inr (.inl ⟨a,_,rfl,DGet.t e eb,by rw[jdm y rs];exact h⟩))
    lia
   lia
  ·rename_i o kvs g;obtain⟨l,e,rs⟩:=hG a _ g;split at h
   ·rename_i y ek;have:=jey rx ek;subst this;exact .inr (.inr (.inl ⟨a,_,rfl,.inl ⟨l,y,.inr ⟨o,e⟩,rfl,rfl⟩,by rw[jdm y rs];exact h⟩))
   lia
  lia
 lia
def jek     (h:ordU o x y k):(∃i j,x=.int i/\y=.int j)\/(o=.LtE/\∃i j,x=.str i/\y=.str j):=by
 cases o<;>try exact h.elim
 all_goals cases x<;>try exact h.elim
 all_goals cases y<;>try exact h.elim
 all_goals lia
def jd5   (hr:Room k X.A) o:CmU X o:=by
 have hu:X.A.units+1<cLine:=by have:=hr.un;lia
 cases o with
 |Eq=>
  refine⟨_,jpS.or ((jnQ hr).or ((jel hr).or ((jg9 hr).or (jeY hr)))),λx y v v' G H k Q0 rx ry hG h q=>?_⟩;rcases jmq rx ry hG h with h|⟨a,z,kvs,h1,h2,h3,h4⟩|⟨a,b,xs,h1,h2,h3,h4,h5⟩|⟨a,z,xs,h1,h2,h3,h4⟩
  ·rcases jkM rx ry hG h with⟨h1,h2⟩|⟨d,e,h1,h2,h3,h4,h5,h6⟩
   ·exact .inl ⟨h1,q _ h2⟩
   ·exact .inr (.inl ⟨d,e,h1,h2,h3,h4,h5,q _ h6⟩)
  ·exact .inr (.inr (.inl ⟨a,z,kvs,h1,h2,h3,q _ h4⟩))
  ·exact .inr (.inr (.inr (.inl ⟨a,b,xs,h1,h2,h3,h4,q _ h5⟩)))
  ·exact .inr (.inr (.inr (.inr ⟨a,z,xs,h1,h2,h3,q _ h4⟩)))
 |NotEq=>
  refine⟨_,jpN.or (jnL hr),λx y v v' G H k Q0 rx ry hG h q=>?_⟩;rcases jkM rx ry hG h with⟨h1,h2⟩|⟨d,e,h1,h2,h3,h4,h5,h6⟩
  ·exact .inl ⟨h1,q _ h2⟩
  ·exact .inr ⟨d,e,h1,h2,h3,h4,h5,q _ h6⟩
 |Is=>
  refine⟨_,jnO,λx y v v' G H k Q0 rx ry hG h q=>?_⟩;obtain⟨h1,h2⟩:=jkF rx ry h;exact⟨h1,q _ h2⟩
 |IsNot=>
  refine⟨_,jh2,λx y v v' G H k Q0 rx ry hG h q=>?_⟩;obtain⟨h1,h2⟩:=jkF rx ry h;exact⟨h1,q _ h2⟩
 |In=>
  refine⟨_,jh3.or ((jh4 (X:=X)).or ((jnR hu).or (jnP hr))),λx y v v' G H k Q0 rx ry hG h q=>?_⟩;rcases jkG rx ry hG h with⟨i,j,h1,h2,h3⟩|⟨p,xs,h1,h2,h3,h4,h5⟩|⟨a,o,h1,h2,h3⟩|⟨p,vs,d,ds,h1,h2,h3,h4,h5,h6,h7,h8⟩
  ·grind
  ·exact .inr (.inl ⟨p,xs,h1,h2,h3,h4,q _ h5⟩)
  ·exact .inr (.inr (.inl ⟨a,o,h1,h2,q _ h3⟩))
  ·exact .inr (.inr (.inr ⟨p,vs,d,ds,h1,h2,h3,h4,h5,h6,h7,q _ h8⟩))
 |NotIn=>
  refine⟨_,jeW.or ((jeX (X:=X)).or ((jh5 hu).or (jh0 hr))),λx y v v' G H k Q0 rx ry hG h q=>?_⟩;rcases jkG rx ry hG h with⟨i,j,h1,h2,h3⟩|⟨p,xs,h1,h2,h3,h4,h5⟩|⟨a,o,h1,h2,h3⟩|⟨p,vs,d,ds,h1,h2,h3,h4,h5,h6,h7,h8⟩
  ·grind
  ·exact .inr (.inl ⟨p,xs,h1,h2,h3,h4,q _ h5⟩)
  ·exact .inr (.inr (.inl ⟨a,o,h1,h2,q _ h3⟩))
  ·exact .inr (.inr (.inr ⟨p,vs,d,ds,h1,h2,h3,h4,h5,h6,h7,q _ h8⟩))
 |Lt=>
  refine⟨_,jpO,λx y v v' G H k Q0 rx ry hG h q=>?_⟩;obtain⟨i,j,rfl,rfl⟩|⟨z,_⟩:=jek h
  rotate_left
  ·cases z
  cases rx;cases ry;exact⟨_,_,rfl,rfl,q _ h⟩
 |LtE=>
  refine⟨_,jpP.or jh1,λx y v v' G H k Q0 rx ry hG h q=>?_⟩;obtain⟨i,j,rfl,rfl⟩|⟨_,i,j,rfl,rfl⟩:=jek h
  ·cases rx;cases ry;exact .inl ⟨_,_,rfl,rfl,q _ h⟩
  ·cases rx;cases ry;exact .inr ⟨_,_,rfl,rfl,q _ h⟩
 |Gt=>
  refine⟨_,jpQ,λx y v v' G H k Q0 rx ry hG h q=>?_⟩;obtain⟨i,j,rfl,rfl⟩|⟨z,_⟩:=jek h
  rotate_left
  ·cases z
  cases rx;cases ry;exact⟨_,_,rfl,rfl,q _ h⟩
 |GtE=>
  refine⟨_,jpR,λx y v v' G H k Q0 rx ry hG h q=>?_⟩;obtain⟨i,j,rfl,rfl⟩|⟨z,_⟩:=jek h
  rotate_left
  ·cases z
  cases rx;cases ry;exact⟨_,_,rfl,rfl,q _ h⟩

def jo9   (ho:CmU X o)(ha:PE X a (lE X ta))(hb:PE X b (lE X tb))(hm:Yen o b=false) :
  PE X (.Compare a [o] [b] pos) (lE X λς G Q E=>ta ς G (λx G1=>tb ς G1 (λy G2=>cmpU o x y G2 λc=>Q (.bl c) G2) E) E):=by
 obtain⟨r,h1,h2⟩:=ho;exact(jlG h1 ha hb hm).imp λσ H Q0 h=>lE.two h λx y v v' G H' Q rx ry hG q lv=>h2 x y v v' G H' _ Q0 rx ry hG q λc q=>lv.bl hG q
def jmL   (ho:CmU X o)(ho':CmU X o')(ha:PE X a (lE X ta))(hb:PE X b (lE X tb))(hc:PE X c (lE X tc))(hm:Ygj [o,o'] [b,c]=false) :
  PE X (.Compare a [o,o'] [b,c] pos) (lE X λς G Q E=>ta ς G (λx G1=>tb ς G1 (λy G2=>cmpU o x y G2 λt=>if t=true then tc ς G2 (λz G3=>cmpU o' y z G3 λt'=>Q (.bl t') G3) E else Q (.bl false) G2) E) E):=by
 obtain⟨r,h1,h2⟩:=ho;obtain⟨r',h1',h2'⟩:=ho';refine(jjM h1 h1' ha hb hc hm).imp λσ H Q0 h=>?_;obtain⟨ς,G,Q,E,hς,hG,h,lv,lx⟩:=h;refine⟨ς,G,_,E,hς,hG,h,λx v G1 H1 rx hG1 f1 h1=>?_,lx⟩;refine⟨ς,G1,_,E,hς.ts (f1.ts hG),hG1,h1,λy v' G2 H2 ry hG2 f2 h3=>?_,lx.fr f1⟩;refine h2 x y v v' G2 H2 _ _ (rx.ts (f2.ts hG1)) ry hG2 h3 λt q=>⟨t,rfl,?_⟩;cases t with
 |false=>
  rw[if_neg Yal]at q ⊢;exact(lv.fr (f1.trans f2)).bl hG2 q
 |true=>
  rw[if_pos rfl]at q ⊢;refine⟨ς,G2,_,E,(hς.ts (f1.ts hG)).ts (f2.ts hG1),hG2,q,λz v3 G3 H3 rz hG3 f3 h4=>?_,lx.fr (f1.trans f2)⟩;exact h2' y z v' v3 G3 H3 _ Q0 (ry.ts (f3.ts hG2)) rz hG3 h4 λc q=>(lv.fr ((f1.trans f2).trans f3)).bl hG3 q
def jeb  {X: Cx}(rx:RU X.K H x v)(hG:HR X.K H G)(h:truU x G k):∃b,TruV X.K v H b/\k b:=by
 cases x<;>try exact h.elim
 ·cases rx;exact⟨_,rfl,h⟩
 ·cases rx;exact⟨_,rfl,h⟩
 ·cases rx;exact⟨_,rfl,h⟩
 ·cases rx;exact⟨_,⟨h.1,rfl⟩,h.2⟩
 ·obtain⟨a,vs,rfl,e,rs⟩:=rx;exact⟨_,.inr (.inl ⟨vs,.of e,rfl⟩),by rw[<- rs.isEmpty];exact h⟩
 ·cases rx;unfold truU at h;dsimp only at h;split at h
  ·rename_i g;obtain⟨vs,e,rs⟩:=hG.lst g;exact⟨_,.inl ⟨vs,.of e,rfl⟩,by rw[<- rs.isEmpty];exact h⟩
  ·rename_i g;obtain⟨ob,vs,e,rs⟩:=hG _ _ g;exact⟨_,.inl ⟨vs,.inl (.inr ⟨ob,e⟩),rfl⟩,by rw[<- rs.isEmpty];exact h⟩
  ·rename_i kvs g;obtain⟨l,e,rs⟩:=hG _ _ g;refine⟨_,.inr (.inr ⟨l,e,rfl⟩),?_⟩;cases kvs with
   |nil=>cases rs;exact h
   |cons p r=>obtain⟨v,l',rfl,_⟩:=rs;exact h
  lia
def jmF  (ha:PE X a (lE X ta))(he:∀whole,isTrue a X.env whole=(do let v <- whole;standAt a.pos;holding [v] (truthy v))):PT X a (lT X λς G Q E=>ta ς G (λx G1=>truU x G1 λb=>Q b G1) E):=by
 refine(jjz ha he).imp λσ H Q0 h=>?_;obtain⟨ς,G,Q,E,hς,hG,h,lv,lx⟩:=h;refine⟨ς,G,_,E,hς,hG,h,λx v G1 H1 rx hG1 f1 h1=>?_,lx⟩;obtain⟨b,h2,h3⟩:=jeb rx hG1 h1
 grind
def jmK   (ho:CmU X o)(ha:PE X a (lE X ta))(hb:PE X b (lE X tb))(hm:Yen o b=false) :
  PT X (.Compare a [o] [b] pos) (lT X λς G Q E=>ta ς G (λx G1=>tb ς G1 (λy G2=>cmpU o x y G2 λc=>truU (.bl c) G2 λc=>Q c G2) E) E):=by
 obtain⟨r,h1,h2⟩:=ho;refine(jlr h1 ha hb hm).imp λσ H Q0 h=>?_;obtain⟨ς,G,Q,E,hς,hG,h,lv,lx⟩:=h;refine⟨ς,G,_,E,hς,hG,h,λx v G1 H1 rx hG1 f1 h1=>?_,lx⟩;refine⟨ς,G1,_,E,hς.ts (f1.ts hG),hG1,h1,λy v' G2 H2 ry hG2 f2 h3=>?_,lx.fr f1⟩;exact h2 x y v v' G2 H2 _ _ (rx.ts (f2.ts hG1)) ry hG2 h3 λt q=>⟨t,rfl,lv t G2 H2 hG2 (f1.trans f2) q⟩
def jk4   (ho:CmU X o)(ho':CmU X o')(ha:PE X a (lE X ta))(hb:PE X b (lE X tb))(hc:PE X c (lE X tc))(hm:Ygj [o,o'] [b,c]=false) :
  PT X (.Compare a [o,o'] [b,c] pos) (lT X λς G Q E=>ta ς G (λx G1=>tb ς G1 (λy G2=>cmpU o x y G2 λt=>if t=true then tc ς G2 (λz G3=>cmpU o' y z G3 λt'=>truU (.bl t') G3 λc=>Q c G3) E else truU (.bl false) G2 λc=>Q c G2) E) E):=by
 obtain⟨r,h1,h2⟩:=ho;obtain⟨r',h1',h2'⟩:=ho';refine(jjA h1 h1' ha hb hc hm).imp λσ H Q0 h=>?_;obtain⟨ς,G,Q,E,hς,hG,h,lv,lx⟩:=h;refine⟨ς,G,_,E,hς,hG,h,λx v G1 H1 rx hG1 f1 h1=>?_,lx⟩;refine⟨ς,G1,_,E,hς.ts (f1.ts hG),hG1,h1,λy v' G2 H2 ry hG2 f2 h3=>?_,lx.fr f1⟩;refine h2 x y v v' G2 H2 _ _ (rx.ts (f2.ts hG1)) ry hG2 h3 λt q=>⟨t,rfl,?_⟩;cases t with
 |false=>
  rw[if_neg Yal]at q ⊢;exact⟨false,rfl,lv false G2 H2 hG2 (f1.trans f2) q⟩
 |true=>
  rw[if_pos rfl]at q ⊢;refine⟨ς,G2,_,E,(hς.ts (f1.ts hG)).ts (f2.ts hG1),hG2,q,λz v3 G3 H3 rz hG3 f3 h4=>?_,lx.fr (f1.trans f2)⟩;exact h2' y z v' v3 G3 H3 _ _ (ry.ts (f3.ts hG2)) rz hG3 h4 λc q=>⟨c,rfl,lv c G3 H3 hG3 ((f1.trans f2).trans f3) q⟩
def jlH  {rest:List Expr}(ha:PE X a sa)(hb:PE X (.BoolOp .And (b::rest) pos) sb):PE X (.BoolOp .And (a::b::rest) pos) (λσ H Q=>sa σ H λx H1=>∃k,TruV X.K x H1 k/\if k=true then sb σ H1 Q else Q x H1):=by
 intro pins s σ H Q I h;refine PyProof.Rows.BoolOp_and (thn (ha pins s σ H _ I h) λv s1 ⟨x,H1,I1,r1,k,hk,q1⟩=>?_);refine thn (jgn pins s1 σ H1 x v (λc H2=>c=k/\H2=H1) I1 r1 ⟨k,hk,rfl,rfl⟩) λc s2 ⟨H2,I2,e1,e2⟩=>?_;subst e1 e2;cases c with
 |true=>exact hb pins s2 σ H2 Q I2 q1
 |false=>exact⟨x,H2,I2,r1,q1⟩
def jnu  {rest:List Expr}(ha:PE X a sa)(hb:PE X (.BoolOp .Or (b::rest) pos) sb):PE X (.BoolOp .Or (a::b::rest) pos) (λσ H Q=>sa σ H λx H1=>∃k,TruV X.K x H1 k/\if k=true then Q x H1 else sb σ H1 Q):=by
 intro pins s σ H Q I h;refine PyProof.Rows.BoolOp_or (thn (ha pins s σ H _ I h) λv s1 ⟨x,H1,I1,r1,k,hk,q1⟩=>?_);refine thn (jgn pins s1 σ H1 x v (λc H2=>c=k/\H2=H1) I1 r1 ⟨k,hk,rfl,rfl⟩) λc s2 ⟨H2,I2,e1,e2⟩=>?_;subst e1 e2;cases c with
 |true=>exact⟨x,H2,I2,r1,q1⟩
 |false=>exact hb pins s2 σ H2 Q I2 q1
def jpd  {rest:List Expr}(ha:PE X a (lE X ta))(hb:PE X (.BoolOp .And (b::rest) pos) (lE X tb)):PE X (.BoolOp .And (a::b::rest) pos) (lE X λς G Q E=>ta ς G (λx G1=>truU x G1 λc=>if c=true then tb ς G1 Q E else Q x G1) E):=by
 refine(jlH ha hb).imp λσ H Q0 h=>?_;obtain⟨ς,G,Q,E,hς,hG,h,lv,lx⟩:=h;refine⟨ς,G,_,E,hς,hG,h,λx v G1 H1 rx hG1 f1 h1=>?_,lx⟩;obtain⟨k,h2,h3⟩:=jeb rx hG1 h1;refine⟨k,h2,?_⟩;cases k with
 |true=>rw[if_pos rfl]at h3 ⊢;exact⟨ς,G1,Q,E,hς.ts (f1.ts hG),hG1,h3,lv.fr f1,lx.fr f1⟩
 |false=>rw[if_neg Yal]at h3 ⊢;exact(lv.fr f1).here rx hG1 h3
def u_or  {rest:List Expr}(ha:PE X a (lE X ta))(hb:PE X (.BoolOp .Or (b::rest) pos) (lE X tb)):PE X (.BoolOp .Or (a::b::rest) pos) (lE X λς G Q E=>ta ς G (λx G1=>truU x G1 λc=>if c=true then Q x G1 else tb ς G1 Q E) E):=by
 refine(jnu ha hb).imp λσ H Q0 h=>?_;obtain⟨ς,G,Q,E,hς,hG,h,lv,lx⟩:=h;refine⟨ς,G,_,E,hς,hG,h,λx v G1 H1 rx hG1 f1 h1=>?_,lx⟩;obtain⟨k,h2,h3⟩:=jeb rx hG1 h1;refine⟨k,h2,?_⟩;cases k with
 |true=>rw[if_pos rfl]at h3 ⊢;exact(lv.fr f1).here rx hG1 h3
 |false=>rw[if_neg Yal]at h3 ⊢;exact⟨ς,G1,Q,E,hς.ts (f1.ts hG),hG1,h3,lv.fr f1,lx.fr f1⟩
def jo1  (ha:PE X a (lE X ta)):PE X (.UnaryOp .Not a pos) (lE X λς G Q E=>ta ς G (λx G1=>truU x G1 λb=>Q (.bl (!b)) G1) E):=by
 intro pins s σ H Q0 I h;obtain⟨ς,G,Q,E,hς,hG,h,lv,lx⟩:=h;refine PyProof.Rows.UnaryOp_ (thn (ha pins s σ H (λv H1=>∃k,TruV X.K v H1 k/\Q0 (.bl (!k)) H1) I ⟨ς,G,_,E,hς,hG,h,λx v G1 H1 rx hG1 f1 h1=>?_,lx⟩) λv s1 ⟨x,H1,I1,r1,k,hk,q1⟩=>?_)
 ·obtain⟨k,h2,h3⟩:=jeb rx hG1 h1;exact⟨k,h2,(lv.fr f1).bl hG1 h3⟩
 ·refine PyProof.Rows.not_of (thn (jgn pins s1 σ H1 x v (λc H2=>c=k/\H2=H1) I1 r1 ⟨k,hk,rfl,rfl⟩) λc s2 ⟨H2,I2,e1,e2⟩=>?_);subst e1 e2;exact⟨.bl (!c),H2,I2,rfl,q1⟩
def jmH  {tB: UT}(hc:PT X c (lT X tA)){tC:UT}(ha:PT X a (lT X tB))(hb:PT X b (lT X tC)):PT X (.IfExp c a b pos) (lT X λς G Q E=>tA ς G (λt G1=>if t=true then tB ς G1 Q E else tC ς G1 Q E) E):=by
 intro pins s σ H Q0 I h;obtain⟨ς,G,Q,E,hς,hG,h,lv,lx⟩:=h;show wpAny _ _ (do if <- isTrue c X.env (eval c X.env) then isTrue a X.env (eval a X.env) else isTrue b X.env (eval b X.env)) _ _ s
 refine Yac (thn (hc pins s σ H (λt H1=>∃G1,HR X.K H1 G1/\Fr H G H1 G1/\if t=true then tB ς G1 Q E else tC ς G1 Q E) I ⟨ς,G,_,E,hς,hG,h,λt G1 H1 hG1 f1 h1=>⟨G1,hG1,f1,h1⟩,lx⟩) λt s1 ⟨H1,I1,G1,hG1,f1,h1⟩=>?_)
 cases t with
 |true=>exact ha pins s1 σ H1 Q0 I1 ⟨ς,G1,Q,E,hς.ts (f1.ts hG),hG1,h1,λb G2 H2 hG2 f2 h2=>lv b G2 H2 hG2 (f1.trans f2) h2,lx.fr f1⟩
 |false=>exact hb pins s1 σ H1 Q0 I1 ⟨ς,G1,Q,E,hς.ts (f1.ts hG),hG1,h1,λb G2 H2 hG2 f2 h2=>lv b G2 H2 hG2 (f1.trans f2) h2,lx.fr f1⟩
def jkj  (ha:PT X a (lT X tA)):PT X (.UnaryOp .Not a pos) (lT X λς G Q E=>tA ς G (λb G1=>Q (!b) G1) E):=by
 refine(jks ha).imp λσ H Q0 h=>?_;obtain⟨ς,G,Q,E,hς,hG,h,lv,lx⟩:=h;exact⟨ς,G,_,E,hς,hG,h,λb G1 H1 hG1 f1 h1=>lv (!b) G1 H1 hG1 f1 h1,lx⟩
def jmN  {tB: UT}{rest:List Expr}(ha:PT X a (lT X tA))(hb:PW X (.BoolOp .And (b::rest) pos) (lT X tB)):PW X (.BoolOp .And (a::b::rest) pos) (lT X λς G Q E=>tA ς G (λc G1=>if c=true then tB ς G1 Q E else Q false G1) E):=by
 refine(pw_and ha hb).imp λσ H Q0 h=>?_;obtain⟨ς,G,Q,E,hς,hG,h,lv,lx⟩:=h;refine⟨ς,G,_,E,hς,hG,h,λc G1 H1 hG1 f1 h1=>?_,lx⟩;cases c with
 |false=>grind
 |true=>rw[if_pos rfl]at h1 ⊢;exact⟨ς,G1,Q,E,hς.ts (f1.ts hG),hG1,h1,λb G2 H2 hG2 f2 h2=>lv b G2 H2 hG2 (f1.trans f2) h2,lx.fr f1⟩
def jo0  {tB: UT}{rest:List Expr}(ha:PT X a (lT X tA))(hb:PW X (.BoolOp .Or (b::rest) pos) (lT X tB)):PW X (.BoolOp .Or (a::b::rest) pos) (lT X λς G Q E=>tA ς G (λc G1=>if c=true then Q true G1 else tB ς G1 Q E) E):=by
 refine(pw_or ha hb).imp λσ H Q0 h=>?_;obtain⟨ς,G,Q,E,hς,hG,h,lv,lx⟩:=h;refine⟨ς,G,_,E,hς,hG,h,λc G1 H1 hG1 f1 h1=>?_,lx⟩;cases c with
 |true=>grind
 |false=>rw[if_neg Yal]at h1 ⊢;exact⟨ς,G1,Q,E,hς.ts (f1.ts hG),hG1,h1,λb G2 H2 hG2 f2 h2=>lv b G2 H2 hG2 (f1.trans f2) h2,lx.fr f1⟩
def jo7  (hc:PT X c (lT X tA))(ha:PE X a (lE X ta))(hb:PE X b (lE X tb)):PE X (.IfExp c a b pos) (lE X λς G Q E=>tA ς G (λt G1=>if t=true then ta ς G1 Q E else tb ς G1 Q E) E):=by
 refine(jjK hc ha hb).imp λσ H Q0 h=>?_;obtain⟨ς,G,Q,E,hς,hG,h,lv,lx⟩:=h;refine⟨ς,G,_,E,hς,hG,h,λc G1 H1 hG1 f1 h1=>?_,lx⟩;cases c with
 |true=>rw[if_pos rfl]at h1 ⊢;exact⟨ς,G1,Q,E,hς.ts (f1.ts hG),hG1,h1,lv.fr f1,lx.fr f1⟩
 |false=>rw[if_neg Yal]at h1 ⊢;exact⟨ς,G1,Q,E,hς.ts (f1.ts hG),hG1,h1,lv.fr f1,lx.fr f1⟩
end Z

namespace L2
open PySem PySem.Spec PyProof.Rows

def jpg  (K:Yab)(te tst:TE):TE:=λσ H Q=>te σ H λx H1=>tst σ H1 λy H2=>(∃a xs,x=.ref a/\SqL K H2 a xs/\
 ((y=.int 1/\∀p,H2 p=none->Q (.ref p) (upd H2 p (.lst xs)))\/(y=.int (-1)/\∀p,H2 p=none->Q (.ref p) (upd H2 p (.lst xs.reverse)))))\/
 (∃a xs,x=.ref a/\SqT K H2 a xs/\y=.int (-1)/\∀p,H2 p=none->Q (.ref p) (upd H2 p (.tup xs.reverse)))\/
 ∃z:Str,x=.str z/\y=.int (-1)/\z.length<=Yaf/\∀t:Tok,Q (.str (YdO z none none (-1,t))) H2
def jlE  {st: Expr}(he:PE X e te)(hs:PE X st tst):PE X (.Subscript e (.Slice none none (some st) p2) pos) (jpg X.K te tst):=by
 intro pins s σ H Q I h;refine Subscript_ (thn (he pins s σ H _ I h) λv s1 ⟨x,H1,I1,r1,q1⟩=>?_);refine wpAny_Slice ?_;rw[YfT,evalPart_some];refine Yaj (Yaj ?_);refine thn (hs pins s1 σ H1 _ I1 q1) λu s3 ⟨y,H3,I3,r3,q3⟩=>?_;have I4:Inv X pins σ H3 { s3 with heap:=s3.heap.push { cls:=.type "slice",data:=.fields #[.none,.none,u] } }:=I3.kept (t':=s3.toks) λb ob q=>Yad _ q
 rcases q3 with⟨a,xs,rfl,hx,q3⟩|⟨a,xs,rfl,hx,rfl,q⟩|⟨z,rfl,rfl,hz,q⟩
 ·cases r1;obtain⟨its,r,ht,hz⟩:=I4.list hx;have hlen:=r.length;show wpAny (model X.prog X.w) X.A (Ydu e (.Slice none none (some st) p2) (.ref a) (.ref s3.heap.objs.size)) (EP X pins σ Q) X.xe { s3 with heap:=s3.heap.push { cls:=.type "slice",data:=.fields #[.none,.none,u] } }
  refine YfQ (ops:=[.ref a,.ref s3.heap.objs.size]) ht.isList.typeIs slot_list_getitem.lookup ?_ (by with_unfolding_all rfl)
  rcases q3 with⟨rfl,q⟩|⟨rfl,q⟩
  ·obtain⟨t,rfl⟩:=r3;refine Ydp ht.isList (Heap.IsSliceOf.new ..) .none .none (.int 1 t) (by decide) ?_ (by simp_all)
   rw[jke];refine⟨.ref _,_,I4.laid (t':=s3.toks) (o:=.lst xs) (λb ob q=>Yad _ q) (Yag _) ?_,rfl,q _ (I4.hok.fresh (Yag _))⟩;exact⟨hz,_,0,r,Yaq _ rfl⟩
  ·obtain⟨t,rfl⟩:=r3;refine Ydp ht.isList (Heap.IsSliceOf.new ..) .none .none (.int (-1) t) (by decide) ?_ (by simp_all)
   rw[jjw];refine⟨.ref _,_,I4.laid (t':=s3.toks) (o:=.lst xs.reverse) (λb ob q=>Yad _ q) (Yag _) ?_,rfl,q _ (I4.hok.fresh (Yag _))⟩;exact⟨by simp_all,_,0,r.rev,Yaq _ rfl⟩
 ·cases r1;obtain⟨t,rfl⟩:=r3;obtain⟨its,r,ht,hz⟩:=I4.tuple hx;have hlen:=r.length;show wpAny (model X.prog X.w) X.A (Ydu e (.Slice none none (some st) p2) (.ref a) (.ref s3.heap.objs.size)) (EP X pins σ Q) X.xe { s3 with heap:=s3.heap.push { cls:=.type "slice",data:=.fields #[.none,.none,.int (-1) t] } }
  refine YfQ (ops:=[.ref a,.ref s3.heap.objs.size]) ht.typeIs YaW.lookup ?_ (by with_unfolding_all rfl)
  refine HT.getItem_tuple_rev ht (Heap.IsSliceOf.new ..) ?_ (by lia)
  refine⟨.ref _,_,I4.laid (t':=s3.toks) (o:=.tup xs.reverse) (λb ob q=>Yad _ q) (Yag _) ?_,rfl,q _ (I4.hok.fresh (Yag _))⟩;exact⟨by simp_all,_,r.rev,TupD.new _ _⟩
 ·obtain⟨tz,rfl⟩:=r1;obtain⟨t,rfl⟩:=r3;show wpAny (model X.prog X.w) X.A (Ydu e (.Slice none none (some st) p2) (.str z tz) (.ref s3.heap.objs.size)) (EP X pins σ Q) X.xe { s3 with heap:=s3.heap.push { cls:=.type "slice",data:=.fields #[.none,.none,.int (-1) t] } }
  refine YfQ (ops:=[.str z tz,.ref s3.heap.objs.size]) (Ycy _ _ _) F.slot_str_getitem.lookup ?_ (by with_unfolding_all rfl)
  exact YbV (l:=none) (u:=none) (st:=some (-1,t)) ⟨_,Yaq _ rfl,rfl,rfl⟩ rfl (Yc4 ⟨Yai (Txt.sliceBy_le z none none (-1,t) (show(-1:Int)≠0 by decide)) hz,λt' k=>⟨.str _,_,I4.tok k,⟨_,rfl⟩,q t⟩⟩)
end L2
namespace Z
open PySem L2
section
variable {X:Cx}{pos:Pos}{a b e:Expr}{es:List Expr}{ta tb te:UE}{ts:UA}
def jfE  : PA X [] (lA X λ_ G Q _=>Q [] G):=by
 refine jc4.imp λσ H Q0 h=>?_;obtain⟨ς,G,Q,E,hς,hG,h,lv,lx⟩:=h;exact lv [] [] G H rfl hG (Fr.refl _ _) h
def jcw  (ha:PE X e (lE X te))(hr:PA X es (lA X ts))(hs:Yax (e::es) X.env=(false,eval e X.env)::Yax es X.env):PA X (e::es) (lA X λς G Q E=>te ς G (λx G1=>ts ς G1 (λxs G2=>Q (x::xs) G2) E) E):=by
 refine(jaN ha hr hs).imp λσ H Q0 h=>?_;obtain⟨ς,G,Q,E,hς,hG,h,lv,lx⟩:=h;refine⟨ς,G,_,E,hς,hG,h,λx v G1 H1 rx hG1 f1 h1=>?_,lx⟩;refine⟨ς,G1,_,E,hς.ts (f1.ts hG),hG1,h1,λxs vs G2 H2 rxs hG2 f2 h2=>?_,lx.fr f1⟩;exact lv (x::xs) (v::vs) G2 H2 ⟨v,vs,rfl,rx.ts (f2.ts hG1),rxs⟩ hG2 (f1.trans f2) h2
def joW   (h:PA X es (lA X ts)):PE X (.Tuple es k pos) (lE X λς G Q E=>ts ς G (λus G1=>us.length<=Yaf/\Q (.tup us) G1) E):=
 (jhV h).imp λσ H Q0 h=>lE.many h λus vs G H' Q r hG q lv=>⟨by rw[<- r.length];exact q.1,λp hp=>lv.tup hp r hG q.2⟩
def jo6  (h:PA X es (lA X ts)):PE X (.List es pos) (lE X λς G Q E=>ts ς G (λus G1=>us.length<=Yaf/\newO G1 (.lst us) Q) E):=
 (jku h).imp λσ H Q0 h=>lE.many h λus vs G H' Q r hG q lv=>⟨by rw[<- r.length];exact q.1,λp hp=>lv.lst hp r hG q.2⟩
def rDix  : R2:=λx y H Q=>∃a v,x=.ref a/\DGet H a y (some v)/\Q v H
def jmb  (hu:X.A.units+1<cLine):IxR X rDix:=by
 intro value slice pins s σ H x y v u Q I rx ry h hs;obtain⟨a,w,rfl,g,q⟩:=h;cases rx;exact PyProof.Rows.tail_any (jf9 I g) PySem.F.slot_dict_getitem.lookup (jiS hu I g ry λw' s3 I3 rw'=>⟨w,H,I3,rw',q⟩) hs
def jkE {H:Hp}{G:Gp}{y:U}{v':V}{Q:K1}{Q0:VK}{a:Addr}{xs:List U}{vs:List V}(h:match y with|.int i=>(match atI xs i with|some u=>Q u G|none=>False)|_=>False)
  (ry:RU X.K H y v') (hG:HR X.K H G) (lv:LV X H G Q Q0) (sq:SqL X.K H a vs) (rs:RUs X.K H xs vs):rIx X.K (.ref a) v' H Q0:=by
 cases y with
 |int i=>
  cases ry;dsimp only at h;split at h
  ·rename_i u e;obtain⟨w,e2,r⟩:=rs.atI e;exact .inl ⟨_,vs,_,w,rfl,rfl,sq,e2,lv.here r hG h⟩
  lia
 |_=>lia
def jok        (rx:RU X.K H x v)(ry:RU X.K H y v')(hG:HR X.K H G)(h:ixU x y G Q)(lv:LV X H G Q Q0):rIx X.K v v' H Q0\/rDix v v' H Q0:=by
 cases x<;>try exact h.elim
 ·cases y<;>try exact h.elim
  cases rx;cases ry;obtain⟨h1,h⟩:=h;split at h
  ·rename_i c e1;exact .inl (.inr (.inr ⟨_,_,c,rfl,rfl,h1,e1,lv.str hG h⟩))
  lia
 ·cases y<;>try exact h.elim
  obtain⟨a,vs,rfl,e,rs⟩:=rx;cases ry;unfold ixU at h;dsimp only at h;split at h
  ·rename_i u e1;obtain⟨w,e2,r⟩:=rs.atI e1;exact .inl (.inr (.inl ⟨a,vs,_,w,rfl,rfl,.of e,e2,lv.here r hG h⟩))
  lia
 ·cases rx;unfold ixU at h;dsimp only at h;split at h
  ·rename_i g;obtain⟨vs,e,rs⟩:=hG.lst g;exact .inl (jkE h ry hG lv (.of e) rs)
  ·rename_i g;obtain⟨ob,vs,e,rs⟩:=hG _ _ g;exact .inl (jkE h ry hG lv (.inl (.inr ⟨ob,e⟩)) rs)
  ·rename_i kvs g;obtain⟨l,e,rs⟩:=hG _ _ g;split at h
   ·rename_i k ek;have:=jey ry ek;subst this;split at h
    ·rename_i u eu;have:=jbO k rs;rw[eu]at this;obtain⟨w,e2,r⟩:=this;exact .inr ⟨_,w,rfl,by rw[<- e2];exact DGet.k e,lv.here r hG h⟩
    lia
   lia
  ·rename_i kvs g;obtain⟨l,e,rs⟩:=hG _ _ g;split at h
   ·rename_i ys;obtain⟨b,bs,rfl,eb,rb⟩:=ry;split at h
    ·rename_i k ek;have:=jgK rb ek;subst this;split at h
     ·rename_i u eu;have:=jbO k rs;rw[eu]at this;obtain⟨w,e2,r⟩:=this;exact .inr ⟨_,w,rfl,by rw[<- e2];exact DGet.t e eb,lv.here r hG h⟩
     lia
    lia
   lia
  ·rename_i o kvs g;obtain⟨l,e,rs⟩:=hG _ _ g;split at h
   ·rename_i k ek;have:=jey ry ek;subst this;split at h
    ·rename_i u eu;have:=jbO k rs;rw[eu]at this;obtain⟨w,e2,r⟩:=this;exact .inr ⟨_,w,rfl,by rw[<- e2];exact .inl ⟨l,k,.inr ⟨o,e⟩,rfl,rfl⟩,lv.here r hG h⟩
    lia
   lia
  lia
def u_ix  (hu:X.A.units+1<cLine)(ha:PE X a (lE X ta))(hb:PE X b (lE X tb))(hs:jgi b):PE X (.Subscript a b pos) (lE X λς G Q E=>ta ς G (λx G1=>tb ς G1 (λy G2=>ixU x y G2 Q) E) E):=
 (jpM ((joj (X:=X)).or (jmb hu)) ha hb hs).imp λσ H Q0 h=>lE.two h λx y v v' G H' Q rx ry hG q lv=>jok rx ry hG q lv
def u_no  : PO X none (lO X λ_ G Q _=>Q none G):=jly.imp λσ H Q0 h=>by
 obtain⟨ς,G,Q,E,hς,hG,h,lv,lx⟩:=h;exact lv none G H hG (Fr.refl _ _) h
def u_so (ha:PE X e (lE X te)):PO X (some e) (lO X λς G Q E=>te ς G (λx G1=>match x with|.int i=>Q (some i) G1|_=>False) E):=(jlx ha).imp λσ H Q0 h=>by
 obtain⟨ς,G,Q,E,hς,hG,h,lv,lx⟩:=h;refine⟨ς,G,_,E,hς,hG,h,λx v G1 H1 rx hG1 f1 h1=>?_,lx⟩;dsimp only at h1;split at h1
 ·cases rx
  grind
 lia
def u_sl     (ha:PE X e (lE X te))(hl:PO X lo (lO X tl))(hh:PO X hi (lO X th)) :
  PE X (.Subscript e (.Slice lo hi none p2) pos) (lE X λς G Q E=>te ς G (λx G1=>tl ς G1 (λl G2=>th ς G2 (λh G3=>slU x l h G3 Q) E) E) E):=by
 refine(jjJ (SlR.or (jlh (X:=X)) (SlR.or jli jm0)) ha hl hh).imp λσ H Q0 h=>?_;obtain⟨ς,G,Q,E,hς,hG,h,lv,lx⟩:=h;refine⟨ς,G,_,E,hς,hG,h,λx v G1 H1 rx hG1 f1 h1=>?_,lx⟩;refine⟨ς,G1,_,E,hς.ts (f1.ts hG),hG1,h1,λl G2 H2 hG2 f2 h2=>?_,lx.fr f1⟩;refine⟨ς,G2,_,E,(hς.ts (f1.ts hG)).ts (f2.ts hG1),hG2,h2,λu G3 H3 hG3 f3 h3=>?_,lx.fr (f1.trans f2)⟩;have lv3:=lv.fr ((f1.trans f2).trans f3);have rx3:=rx.ts ((f2.ts hG1).trans (f3.ts hG2));cases x<;>try exact h3.elim
 ·cases rx3;exact .inr (.inr ⟨_,rfl,h3.1,lv3.str hG3 h3.2⟩)
 ·obtain⟨a,vs,rfl,ea,rs⟩:=rx3;by_cases z:HT.sIx vs.length 0 l=0/\HT.sIx vs.length vs.length u=vs.length
  ·refine .inl (.inr ⟨a,vs,rfl,.of ea,z,?_⟩);refine lv3.here (w:=.tup _) ⟨a,vs,rfl,ea,?_⟩ hG3 h3;have e2:cutV vs l u=vs:=by unfold cutV;simp_all
   have:=rs.cut l u
   lia
  ·exact .inl (.inl ⟨a,vs,rfl,.of ea,z,λp hp=>lv3.tup hp (rs.cut l u) hG3 h3⟩)
 ·cases rx3;unfold slU at h3;dsimp only at h3;split at h3
  ·rename_i us eu;obtain⟨vs,sq,rs⟩:=hG3.ls eu;exact .inr (.inl ⟨_,vs,rfl,sq,λp hp=>lv3.lst hp (rs.cut l u) hG3 h3⟩)
  lia
def joZ    (ha:PE X a (lE X ta))(hb:PE X st (lE X tb)):PE X (.Subscript a (.Slice none none (some st) p2) pos) (lE X λς G Q E=>ta ς G (λx G1=>tb ς G1 (λy G2=>revU x y G2 Q) E) E):=by
 refine(jlE ha hb).imp λσ H Q0 h=>lE.two h λx y v v' G H' Q rx ry hG q lv=>?_;cases x<;>try exact q.elim
 all_goals cases y<;>try exact q.elim
 ·cases rx;cases ry;obtain⟨rfl,hz,q⟩:=q;exact .inr (.inr ⟨_,rfl,rfl,hz,λt=>lv.str hG (q t)⟩)
 ·obtain⟨a,vs,rfl,ea,rs⟩:=rx;cases ry;obtain⟨rfl,q⟩:=q;exact .inr (.inl ⟨a,vs,rfl,.of ea,rfl,λp hp=>lv.tup hp rs.reverse hG q⟩)
 ·cases rx;cases ry;unfold revU at q;dsimp only at q;split at q
  ·rename_i us eu;obtain⟨vs,sq,rs⟩:=hG.ls eu;obtain⟨hi,q⟩:=q;rcases hi with rfl|rfl
   ·exact .inl ⟨_,vs,rfl,sq,.inl ⟨rfl,λp hp=>lv.lst hp rs hG q⟩⟩
   ·exact .inl ⟨_,vs,rfl,sq,.inr ⟨rfl,λp hp=>lv.lst hp rs.reverse hG q⟩⟩
  lia
end
end Z

namespace L2
open PySem PySem.Spec PyProof.Rows
section
variable {X:Cx}
def jkb  (hc:X.calm=true):jaU X (.builtin "all") (λxs H Q=>∃(p:Addr) (bs:List Bool),xs=[.ref p]/\SqL X.K H p (bs.map V.bl)/\Q (.bl (bs.all id)) H):=by
 rintro pins s σ H xs us Q I r ⟨p,bs,rfl,hq,q⟩;obtain⟨u,rfl,rx⟩:=jcc r;cases rx;obtain⟨its,fp,wr,P,S,hl,W,st,tr,kp⟩:=jhp hc I hq true;exact call_all_walk (Ydo hl ⟨_,fp,wr,_,P,S,_,rfl,W,st,tr,λh' tk hk=>⟨.bl _,H,I.kept (kp h' hk),congrArg YeN (LSm.range_all bs),q⟩⟩)
end
end L2
namespace Z
open PySem L2
noncomputable def bltN  : Blt->Str
 |.len => "len" |.repr => "repr" |.min => "min" |.max => "max" |.sum => "sum" |.all => "all" |.any => "any" |.sorted => "sorted" |.int => "int" |.str => "str" |.isi => "isinstance"
noncomputable def bltV  : Blt->Value
 |.len=>.builtin "len" |.repr=>.builtin "repr" |.min=>.builtin "min" |.max=>.builtin "max" |.sum=>.builtin "sum" |.all=>.builtin "all" |.any=>.builtin "any" |.sorted=>.builtin "sorted" |.int=>.type "int" |.str=>.type "str" |.isi=>.builtin "isinstance"
theorem jgM    : ∀ns:List Int,RUs K H (ns.map .int) (ns.map V.int)
 |[]=>rfl
 |_::r=>⟨_,_,rfl,rfl,jgM r⟩
theorem jhM     : ∀{kvs:List (κ×U)} {l },RKs K H kvs l->kvs.map (·.1)=l.map (·.1)
 |[],_,h=>by cases h;rfl
 |(k,u)::r,_,h=>by
  obtain⟨v,l',rfl,_,rs⟩:=h;rw[Yas,Yas,jhM rs]

def RUs.one      (r:RUs K H [u] vs):∃v,vs=[v]/\RU K H u v:=by
 obtain⟨v,vr,rfl,r1,rs⟩:=r;cases rs
 lia
def RUs.two      (r:RUs K H [u,w] vs):∃v v',vs=[v,v']/\RU K H u v/\RU K H w v':=by
 obtain⟨v,vr,rfl,r1,rs⟩:=r;obtain⟨v',rfl,r2⟩:=rs.one
 lia
def jl7   K:∀t∈["NoneType", "bool", "int", "str", "list", "tuple", "dict"],∀c∈["bool", "int", "str", "list", "tuple", "dict"],Yds K (.type t) (.type c)=some (t==c||(t == "bool" && c == "int")):=by
 simp only[List.forall_mem_cons,Yar,false_implies,implies_true,and_true];refine⟨?_,?_,?_,?_,?_,?_,?_⟩<;>refine⟨?_,?_,?_,?_,?_,?_⟩<;>rfl
def jk6     (h:tyN x G=some n):n∈["NoneType", "bool", "int", "str", "list", "tuple", "dict"]:=by
 unfold tyN at h;split at h<;>first|(cases h;decide)|(split at h<;>first|(cases h;decide)|cases h)|cases h
def jmd  {X: Cx}(r:RU X.K H x v)(hG:HR X.K H G)(h:isiU x G t=some b):∃tv,TyOf X.K H v tv/\Yds X.K tv (.type t)=some b:=by
 unfold isiU at h;split at h
 ·rename_i n en;split at h
  ·rename_i ht;cases h;refine⟨.type n,?_,jl7 X.K n (jk6 en) t ht⟩;unfold tyN at en;split at en
   ·cases en;cases r;exact .non
   ·cases en;cases r;exact .bl _
   ·cases en;cases r;exact .int _
   ·cases en;cases r;exact .str _
   ·cases en;obtain⟨a,ws,rfl,e,_⟩:=r;exact .tup e
   ·cases r;split at en
    ·rename_i g;cases en;obtain⟨ws,e,_⟩:=hG.lst g;exact .lst e
    ·rename_i g;cases en;obtain⟨ws,e,_⟩:=hG _ _ g;exact .dK e
    ·rename_i g;cases en;obtain⟨ws,e,_⟩:=hG _ _ g;exact .dT e
    lia
   lia
  lia
 lia
def BlU  (X:Cx)(b:Blt):Prop:=∃r,jaU X (bltV b) r/\∀us vs G H Q Q0,RUs X.K H us vs->HR X.K H G->bltU b us G Q->LV X H G Q Q0->r vs H Q0
def joL   (hr:Room k X.A)(hc:X.calm=true) b:BlU X b:=by
 cases b with
 |len=>
  refine⟨_,jaU.or (jka (X:=X)) ji4,λus vs G H Q Q0 r hG h lv=>?_⟩
  change lenU us G Q at h
  obtain _|⟨x,t⟩:=us<;>try exact h.elim
  cases x<;>try exact h.elim
  all_goals obtain _|⟨_,_⟩:=t<;>try exact h.elim
  all_goals obtain⟨v,rfl,r1⟩:=r.one
  ·cases r1;exact .inl ⟨_,_,rfl,⟨h.1,rfl⟩,lv.int hG h.2⟩
  ·obtain⟨a,ws,rfl,e,rs⟩:=r1;exact .inl ⟨_,_,rfl,.inr ⟨ws,.of e,rfl⟩,by rw[<- rs.length];exact lv.int hG h⟩
  ·cases r1;unfold lenU at h;dsimp only at h;split at h
   ·rename_i g;obtain⟨ws,e,rs⟩:=hG.lst g;exact .inl ⟨_,_,rfl,.inl ⟨ws,.of e,rfl⟩,by rw[<- rs.length];exact lv.int hG h⟩
   ·rename_i g;obtain⟨ob,ws,e,rs⟩:=hG _ _ g;exact .inl ⟨_,_,rfl,.inl ⟨ws,.inl (.inr ⟨ob,e⟩),rfl⟩,by rw[<- rs.length];exact lv.int hG h⟩
   ·rename_i kvs g;obtain⟨l,e,rs⟩:=hG _ _ g;refine .inr ⟨_,l,rfl,e,?_⟩;have:∀{kvs:List (Key×U)} {l:List (Key×V)},RKs X.K H kvs l->kvs.length=l.length:=by
     intro kvs
     induction kvs with
     |nil=>intro l r;cases r;rfl
     |cons p q ih=>intro l r;obtain⟨v,l',rfl,_,rs⟩:=r;simp[ih rs]
    rw[<- this rs];exact lv.int hG h
   ·exact h.elim
 |repr=>
  refine⟨_,jhn hr,λus vs G H Q Q0 r hG h lv=>?_⟩
  change jfK us G Q at h
  obtain _|⟨x,_|⟨_,_⟩⟩:=us<;>try exact h.elim
  obtain⟨v,rfl,r1⟩:=r.one;obtain⟨d,h1,h2,h3⟩:=h;exact⟨v,d,rfl,h1.dv hG r1,h2,lv.str hG h3⟩
 |min=>
  refine⟨_,ji3 hc,λus vs G H Q Q0 r hG h lv=>?_⟩
  change minU us G Q at h
  obtain _|⟨x,t⟩:=us<;>try exact h.elim
  cases x<;>try exact h.elim
  obtain _|⟨y,t⟩:=t<;>try exact h.elim
  cases y<;>try exact h.elim
  obtain _|⟨_,_⟩:=t<;>try exact h.elim
  obtain⟨v,v',rfl,r1,r2⟩:=r.two;cases r1;cases r2;exact⟨_,_,rfl,lv.int hG h⟩
 |max=>exact⟨λ_ _ _=>False,λ_ _ _ _ _ _ _ _ _ h=>h.elim,λ_ _ _ _ _ _ _ _ h _=>h.elim⟩
 |sum=>exact⟨λ_ _ _=>False,λ_ _ _ _ _ _ _ _ _ h=>h.elim,λ_ _ _ _ _ _ _ _ h _=>h.elim⟩
 |any=>exact⟨λ_ _ _=>False,λ_ _ _ _ _ _ _ _ _ h=>h.elim,λ_ _ _ _ _ _ _ _ h _=>h.elim⟩
 |all=>
  refine⟨_,jkb hc,λus vs G H Q Q0 r hG h lv=>?_⟩
  change allU us G Q at h
  obtain _|⟨x,t⟩:=us<;>try exact h.elim
  cases x<;>try exact h.elim
  all_goals obtain _|⟨_,_⟩:=t<;>try exact h.elim
  obtain⟨v,rfl,r1⟩:=r.one;cases r1;unfold allU at h;dsimp only at h;split at h
  ·rename_i g;obtain⟨ws,e,rs⟩:=hG.lst g;split at h
   ·rename_i ns en;have:=rs.bools en;subst this;exact⟨_,ns,rfl,.of e,lv.bl hG h⟩
   ·exact h.elim
  ·exact h.elim
 |sorted=>exact⟨λ_ _ _=>False,λ_ _ _ _ _ _ _ _ _ h=>h.elim,λ_ _ _ _ _ _ _ _ h _=>h.elim⟩
 |int=>
  refine⟨_,ji8.or jeJ,λus vs G H Q Q0 r hG h lv=>?_⟩
  change intU us G Q at h
  obtain _|⟨x,t⟩:=us<;>try exact h.elim
  cases x<;>try exact h.elim
  all_goals obtain _|⟨_,_⟩:=t<;>try exact h.elim
  all_goals obtain⟨v,rfl,r1⟩:=r.one
  all_goals cases r1
  ·exact .inl (.inr ⟨_,rfl,lv.int hG h⟩)
  ·exact .inl (.inl ⟨_,rfl,lv.int hG h⟩)
  ·obtain⟨n,h1,h2,h⟩:=h;exact .inr ⟨_,n,rfl,h1,h2,lv.int hG h⟩
 |str=>
  refine⟨_,jfr.or (ji2 (X:=X)),λus vs G H Q Q0 r hG h lv=>?_⟩
  change strU us G Q at h
  obtain _|⟨x,t⟩:=us<;>try exact h.elim
  cases x<;>try exact h.elim
  all_goals obtain _|⟨_,_⟩:=t<;>try exact h.elim
  all_goals obtain⟨v,rfl,r1⟩:=r.one
  all_goals cases r1
  ·exact .inr ⟨_,rfl,lv.str hG h⟩
  ·exact .inl ⟨_,rfl,h.1,lv.str hG h.2⟩
 |isi=>
  refine⟨_,jgb,λus vs G H Q Q0 r hG h lv=>?_⟩
  change jff us G Q at h
  obtain _|⟨x,_|⟨y,t⟩⟩:=us<;>try exact h.elim
  cases y<;>try exact h.elim
  obtain _|⟨_,_⟩:=t<;>try exact h.elim
  rename_i t;obtain⟨v,v',rfl,r1,r2⟩:=r.two;cases r2;unfold jff at h;dsimp only at h;split at h
  ·rename_i b eb;obtain⟨tv,h1,h2⟩:=jmd r1 hG eb;exact⟨v,t,tv,b,rfl,h1,h2,lv.bl hG h⟩
  ·exact h.elim
def jkc   b:YbT (bltN b)=some (bltV b):=by
 cases b with
 |len=>exact PySem.boot_len
 |repr=>exact(by with_unfolding_all rfl)
 |min=>exact PyProof.Rows.boot_min
 |max=>exact PyProof.Rows.boot_max
 |sum=>exact PyProof.Rows.boot_sum
 |any=>exact PyProof.Rows.boot_any
 |all=>exact PyProof.Rows.boot_all
 |sorted=>exact PyProof.Rows.boot_sorted
 |int=>exact PyProof.Rows.boot_int
 |str=>exact PyProof.Rows.boot_str
 |isi=>exact YdD
def joM   b:bltN b ≠ "__name__" /\ (bltN b==("__debug__" : Str))=false:=by cases b<;>decide
def jpa       (hb:BlU X b)(hg:Gl X (bltN b))(hm:X.mg (bltN b)=none)(ha:PA X (e::es) (lA X ts))
  (he:Yax (e::es) X.env=(false,eval e X.env)::Yax es X.env) (hpl:(backTo pos (Yax es X.env)).any (·.1)=false) :
  PE X (.Call (.Name (bltN b) p) (e::es) [] pos) (lE X λς G Q E=>ts ς G (λus G1=>bltU b us G1 Q) E):=by
 obtain⟨r,h1,h2⟩:=hb;have fin:∀σ H Q0,lE X (λς G Q E=>ts ς G (λus G1=>bltU b us G1 Q) E) σ H Q0->tCB r (lA X ts) σ H Q0:=λσ H Q0 h=>lE.many h λus vs G H' Q rs hG q lv=>h2 us vs G H' Q Q0 rs hG q lv;have hv:=jkc b;obtain⟨n1,n2⟩:=joM b;cases b
 all_goals first
  |exact(jcR h1 hg hm hv ha n1 n2 he hpl).imp fin
  |exact(jb0 h1 hg hm hv ha n1 n2 he hpl).imp fin
noncomputable def mthN  : Mth->Str
 |.append => "append" |.extend => "extend" |.insert => "insert" |.pop => "pop" |.reverse => "reverse" |.index => "index" |.join => "join" |.get => "get" |.split => "split" |.setd => "setdefault" |.clear => "clear"
section
variable {X:Cx}
def RUs.mk        (r:RU K H u v)(rs:RUs K H us vs):RUs K H (u::us) (v::vs):=⟨v,vs,rfl,r,rs⟩
structure MtK (X:Cx)(m:Mth)(T id:String):Prop where
 pa:PlainAttrs T
 sl:Slot T (mthN m) id
 ty:typeOf (.builtin id)=pure (.type "method_descriptor")
def MtU  (X:Cx)(m:Mth):Prop:=∀x G1 T id,mtU m x G1=some (T,id)->MtK X m T id/\(∀v H1,RU X.K H1 x v->HR X.K H1 G1->tyV X.K T v H1)/\
 ∃r,MtR X id r/\∀us v vs G H Q Q0,RU X.K H x v->RUs X.K H us vs->HR X.K H G->jau m x us G Q->LV X H G Q Q0->r v vs H Q0
def jhw     (g:G a=some (.lst us)):∀v H1,RU X.K H1 (.loc a) v->HR X.K H1 G->tyV X.K "list" v H1:=λv H1 r hG=>by
 cases r;obtain⟨vs,e,_⟩:=hG.lst g;exact .inl ⟨rfl,vs,.of e⟩
def jih  : MtU X .append:=by
 intro x G1 T id h;dsimp only[mtU]at h;cases x<;>try (cases h;done)
 dsimp only at h;split at h
 ·rename_i g;cases h;refine⟨⟨Yc8,PySem.F.slot_list_append,PySem.F.type_list_append⟩,jhw g,_,je8,λus v vs G H Q Q0 rx rs hG h lv=>?_⟩;cases rx;dsimp only[jau]at h;obtain _|⟨_,_|⟨_,_⟩⟩:=us<;>try exact h.elim
  unfold jgg at h;dsimp only at h;split at h
  ·rename_i g2;obtain⟨ws,e,r⟩:=hG.lst g2;obtain⟨y,rfl,ry⟩:=rs.one;refine⟨_,ws,y,rfl,rfl,e,by rw[<- r.length];exact h.1,?_⟩
   exact lv.wl g2 (r.append (RUs.mk (us:=[]) (vs:=[]) ry rfl)) hG (w:=.non) rfl h.2
  ·exact h.elim
 ·cases h
def jjX  : MtU X .index:=by
 intro x G1 T id h;dsimp only[mtU]at h;split at h<;>first|contradiction|skip
 ·split at h
  ·rename_i g;cases h;refine⟨⟨Yc8,PySem.F.slot_list_index,PySem.F.type_list_index⟩,jhw g,_,jij,λus v vs G H Q Q0 rx rs hG h lv=>?_⟩;cases rx;dsimp only[jau]at h;unfold jgN at h;split at h<;>first|exact h.elim|contradiction|skip
   rename_i e2;cases e2;split at h
   ·rename_i g2;obtain⟨ws,e,r⟩:=hG.lst g2;obtain⟨y,rfl,ry⟩:=rs.one;cases ry;split at h
    ·rename_i ys ey;have:=r.strs ey;subst this;exact⟨_,ys,_,rfl,rfl,.of e,h.1,lv.int hG h.2⟩
    ·exact h.elim
   ·exact h.elim
  ·cases h
 ·cases h;refine⟨⟨PySem.F.plainAttrs_tuple,PySem.F.slot_tuple_index,PySem.F.type_tuple_index⟩,λv H1 r hG=>?_,_,jii,λus v vs G H Q Q0 rx rs hG h lv=>?_⟩
  ·obtain⟨a,ws,rfl,e,_⟩:=r;exact .inr (.inr (.inr (.inr ⟨rfl,ws,e⟩)))
  ·obtain⟨a,ws,rfl,e,r⟩:=rx;dsimp only[jau]at h;unfold jgN at h;split at h<;>first|exact h.elim|contradiction|skip
   rename_i e2;cases e2;obtain⟨y,rfl,ry⟩:=rs.one;cases ry;split at h
   ·rename_i ys ey;have:=r.strs ey;subst this;exact⟨_,ys,_,rfl,rfl,.of e,h.1,lv.int hG h.2⟩
   ·exact h.elim
def jlZ  : MtU X .join:=by
 intro x G1 T id h;dsimp only[mtU]at h;split at h<;>first|contradiction|skip
 cases h;refine⟨⟨YeQ,PySem.F.slot_str_join,PySem.F.type_str_join⟩,λv H1 r hG=>by cases r;rfl,_,mt_join,λus v vs G H Q Q0 rx rs hG h lv=>?_⟩
 cases rx;dsimp only[jau]at h;unfold jl9 at h;split at h<;>first|exact h.elim|skip
 ·rename_i e2;cases e2;obtain⟨y,rfl,ry⟩:=rs.one;cases ry;split at h
  ·rename_i g2;obtain⟨ws,e,r⟩:=hG.lst g2;split at h
   ·rename_i ys ey;have:=r.strs ey;subst this;exact⟨_,_,ys,rfl,rfl,.inl (.of e),h.1,h.2.1,lv.str hG h.2.2⟩
   ·exact h.elim
  ·exact h.elim
theorem jhB    : ∀ys:List Str,RUs K H (ys.map .str) (ys.map V.str)
 |[]=>rfl
 |_::r=>⟨_,_,rfl,rfl,jhB r⟩
def jjW  : MtU X .split:=by
 intro x G1 T id h;dsimp only[mtU]at h;split at h<;>first|contradiction|skip
 cases h;refine⟨⟨YeQ,PySem.F.slot_str_split,PySem.F.type_str_split⟩,λv H1 r hG=>by cases r;rfl,_,jjZ,λus v vs G H Q Q0 rx rs hG h lv=>?_⟩
 cases rx;dsimp only[jau]at h;unfold jkq at h;split at h<;>first|exact h.elim|skip
 rename_i e2;cases e2;obtain⟨y,rfl,ry⟩:=rs.one;cases ry;exact⟨_,_,rfl,rfl,h.1,h.2.1,h.2.2.1,λl hl=>lv.lst hl (jhB _) hG h.2.2.2⟩
def RKs.put   [DecidableEq κ](r:RU K H u v):∀{kvs } {l:List (κ×V)},RKs K H kvs l->RKs K H (dPut kvs k u) (putK l k v):=by
 intro kvs l h;have any:∀{kvs:List (κ×U)} {l:List (κ×V)},RKs K H kvs l->(kvs.any λkv=>decide (kv.1=k))=l.any λkv=>decide (kv.1=k):=by
  intro kvs
  induction kvs with
  |nil=>intro l h;cases h;rfl
  |cons p q ih=>intro l h;obtain⟨w,l',rfl,_,rs⟩:=h;grind
 have repl:∀{kvs:List (κ×U)} {l:List (κ×V)},RKs K H kvs l->RKs K H (kvs.map λkv=>if kv.1=k then (kv.1,u) else kv) (l.map λkv=>if kv.1=k then (kv.1,v) else kv):=by
  intro kvs
  induction kvs with
  |nil=>intro l h;cases h;rfl
  |cons p q ih=>
   intro l h;obtain⟨k',u'⟩:=p;obtain⟨w,l',rfl,rw',rs⟩:=h;simp only[Yas];by_cases e:k'=k
   ·rw[if_pos e,if_pos e];exact⟨v,_,rfl,r,ih rs⟩
   ·rw[if_neg e,if_neg e];exact⟨w,_,rfl,rw',ih rs⟩
 have snoc:∀{kvs:List (κ×U)} {l:List (κ×V)},RKs K H kvs l->RKs K H (kvs++[(k,u)]) (l++[(k,v)]):=by
  intro kvs
  induction kvs with
  |nil=>intro l h;cases h;exact⟨v,[],rfl,r,rfl⟩
  |cons p q ih=>intro l h;obtain⟨k',u'⟩:=p;obtain⟨w,l',rfl,rw',rs⟩:=h;exact⟨w,_,rfl,rw',ih rs⟩
 unfold dPut putK
 grind
theorem RKs.length     : ∀{kvs:List (κ×U)} {l },RKs K H kvs l->kvs.length=l.length
 |[],_,h=>by cases h;rfl
 |(_,_)::_,_,h=>by obtain⟨v,l',rfl,_,rs⟩:=h;simp[rs.length]
theorem jfZ    : ∀{k:List Key} {bs },RUs K H (k.map Ku) bs->bs=k.map kV
 |[],_,h=>h
 |.inl z::k,_,h=>by
  obtain⟨v,vr,rfl,r,rs⟩:=h;rw[show v=.int z from r,jfZ rs];rfl
 |.inr x::k,_,h=>by
  obtain⟨v,vr,rfl,r,rs⟩:=h;rw[show v=.str x from r,jfZ rs];rfl
def rGet  : V->List V->Hp->VK->Prop:=λx vs H Q=>∃a y d o,x=.ref a/\vs=[y,d]/\DGet H a y o/\Q (o.getD d) H
def jkB  (hu:X.A.units+1<cLine):MtR X "dict.get" rGet:=by
 intro pins s σ H x vs v0 us Q I rx rv h;obtain⟨a,y,d,o,rfl,rfl,g,q⟩:=h;cases(show v0=YaQ a from rx);obtain⟨u,r,rfl,ru,rr⟩:=Vals.two rv;exact joH hu I g ru rr λw' s' I' r'=>⟨_,_,I',r',q⟩
def jhN   [DecidableEq κ](k:κ)(rk:RKs K H kvs l)(rd:RU K H d w):RU K H ((dGet kvs k).getD d) ((valV l k).getD w):=by
 have hv:=jbO k rk;cases e:dGet kvs k with
 |none=>rw[e]at hv;rw[show valV l k=none from hv];exact rd
 |some u=>rw[e]at hv;obtain⟨v,h1,h2⟩:=hv;rw[h1];exact h2
def jnY  (hu:X.A.units+1<cLine):MtU X .get:=by
 intro x G1 T id h;dsimp only[mtU]at h;split at h<;>first|contradiction|skip
 have fin:∀(us:List U) (v:V) (vs:List V) (G:Gp) (H:Hp) (Q:K1) (Q0:VK) (a:Addr),RU X.K H (.loc a) v->RUs X.K H us vs->HR X.K H G->getU (.loc a) us G Q->LV X H G Q Q0->rGet v vs H Q0:=λus v vs G H Q Q0 a rx rs hG h lv=>by
  cases rx;obtain _|⟨y,_|⟨w,_|⟨_,_⟩⟩⟩:=us<;>try exact h.elim
  unfold getU at h;dsimp only at h;obtain⟨y',vs1,rfl,ry,rs1⟩:=rs;obtain⟨w',rfl,rw'⟩:=rs1.one;split at h<;>first|exact h.elim|skip
  ·rename_i kvs g2;split at h<;>first|exact h.elim|skip
   rename_i k ek;obtain⟨l,e,rk⟩:=hG _ _ g2;have:=jey ry ek;subst this;exact⟨_,_,_,_,rfl,rfl,.k e,lv.here (jhN k rk rw') hG h⟩
  ·rename_i kvs g2;obtain⟨k,rfl,h⟩:=h;obtain⟨l,e,rk⟩:=hG _ _ g2;obtain⟨b,bs,rfl,eb,rb⟩:=ry;rw[jfZ rb]at eb;exact⟨_,_,_,_,rfl,rfl,.t e eb,lv.here (jhN k rk rw') hG h⟩
 split at h<;>first|contradiction|skip
 ·rename_i g;cases h;refine⟨⟨Yc9,Ycz,Ye1⟩,λv H1 r hG=>?_,_,jkB hu,λus v vs G H Q Q0 rx rs hG h lv=>fin us v vs G H Q Q0 _ rx rs hG h lv⟩;cases r;obtain⟨l,e,_⟩:=hG _ _ g;exact .inr (.inr (.inl ⟨rfl,.inl ⟨l,e⟩⟩))
 ·rename_i g;cases h;refine⟨⟨Yc9,Ycz,Ye1⟩,λv H1 r hG=>?_,_,jkB hu,λus v vs G H Q Q0 rx rs hG h lv=>fin us v vs G H Q Q0 _ rx rs hG h lv⟩;cases r;obtain⟨l,e,_⟩:=hG _ _ g;exact .inr (.inr (.inl ⟨rfl,.inr ⟨l,e⟩⟩))
def jlY  : MtU X .setd:=by
 intro x G1 T id h;dsimp only[mtU]at h;split at h<;>first|contradiction|skip
 split at h
 ·rename_i g;cases h;refine⟨⟨Yc9,PySem.F.slot_dict_setdefault,PySem.F.type_dict_setdefault⟩,λv H1 r hG=>?_,_,jl0,λus v vs G H Q Q0 rx rs hG h lv=>?_⟩
  ·cases r;obtain⟨l,e,_⟩:=hG _ _ g;exact .inr (.inr (.inl ⟨rfl,.inl ⟨l,e⟩⟩))
  ·cases rx;dsimp only[jau]at h;unfold jjs at h;split at h<;>first|exact h.elim|skip
   rename_i y w e2;cases e2;split at h<;>first|exact h.elim|skip
   rename_i kvs g2;split at h<;>first|exact h.elim|skip
   rename_i k ek;obtain⟨l,e,rk⟩:=hG _ _ g2;obtain⟨y',vs1,rfl,ry,rs1⟩:=rs;obtain⟨w',rfl,rw'⟩:=rs1.one;have:=jey ry ek;subst this;have hv:=jbO k rk;refine⟨_,l,k,w',rfl,rfl,e,by rw[<- rk.length];exact h.1,?_⟩
   cases hd:dGet kvs k with
   |some u=>
    rw[hd]at hv;obtain⟨v,e3,rv⟩:=hv;rw[e3];have h2:=h.2;rw[hd]at h2;exact lv.here rv hG h2
   |none=>
    rw[hd]at hv;rw[show valV l k=none from hv];have h2:=h.2;rw[hd]at h2;exact lv _ _ _ _ (rw'.ts (TS.write hG g2)) (hG.write (mo':=.dK (dPut kvs k w)) g2 ⟨_,jag,(rk.put rw').ts (TS.write hG g2)⟩) (Fr.write g2) h2.at
 ·cases h
def jjY  : MtU X .clear:=by
 intro x G1 T id h;dsimp only[mtU]at h;cases x<;>try (cases h;done)
 dsimp only at h;split at h
 ·rename_i g;cases h;refine⟨⟨Yc8,PySem.F.slot_list_clear,PySem.F.type_list_clear⟩,jhw g,_,jj0,λus v vs G H Q Q0 rx rs hG h lv=>?_⟩;cases rx;dsimp only[jau]at h;obtain _|⟨_,_⟩:=us<;>try exact h.elim
  unfold ji1 at h;dsimp only at h;split at h
  ·rename_i g2;obtain⟨ws,e,r⟩:=hG.lst g2;cases rs;exact⟨_,ws,rfl,rfl,e,lv.wl g2 (us:=[]) rfl hG (w:=.non) rfl h⟩
  ·exact h.elim
 ·cases h
def jkA  (hu:X.A.units+1<cLine) m:MtU X m:=by
 cases m with
 |append=>exact jih
 |extend=>intro x G1 T id h;cases h
 |insert=>intro x G1 T id h;cases h
 |pop=>intro x G1 T id h;cases h
 |reverse=>intro x G1 T id h;cases h
 |index=>exact jjX
 |join=>exact jlZ
 |split=>exact jjW
 |setd=>exact jlY
 |clear=>exact jjY
 |get=>exact jnY hu
variable {m:Mth}{o e:Expr}{es:List Expr}{to:UE}{ts:UA}{apos cpos:Pos}
def jmG (hm:MtU X m)(ho:PE X o (lE X to))(ha:PA X (e::es) (lA X ts))(hbase:YcV o (mthN m) X.env (eval o X.env)=eval o X.env)
  (hfew:((backTo cpos (Yax (e::es) X.env)).all (λx=>!x.1)&&(backToKw cpos (keywordEach [] X.env)).all (λx=>x.1.isSome)
   && decide ((e::es).length+([]:List Keyword).length+(if ([]:List Keyword).isEmpty then 0 else 1)<30))=true)
  (hline:(apos.endLine==cpos.line)=true) (hs:Yax (e::es) X.env=(false,eval e X.env)::Yax es X.env) (hplain:(backTo cpos (Yax es X.env)).any (·.1)=false) :
  PE X (.Call (.Attribute o (mthN m) apos) (e::es) [] cpos) (lE X λς G Q E=>to ς G (λx G1=>match mtU m x G1 with|some _=>ts ς G1 (λus G2=>jau m x us G2 Q) E|none=>False) E):=by
 intro pins s σ H Q0 I h;obtain⟨ς,G,Q,E,hς,hG,h,lv,lx⟩:=h;refine PySem.wpAny_Call_method_late hbase hfew hline rfl (thn (ho pins s σ H (λv H1=>∃x G1 T id,RU X.K H1 x v/\HR X.K H1 G1/\Fr H G H1 G1/\mtU m x G1=some (T,id)/\ts ς G1 (λus G2=>jau m x us G2 Q) E) I
  ⟨ς,G,_,E,hς,hG,h,λx v G1 H1 rx hG1 f1 h1=>?_,lx⟩) λv s1 ⟨xv,H1,I1,r1,x,G1,T,id,rx,hG1,f1,em,h1⟩=>?_)
 ·dsimp only at h1;split at h1
  ·rename_i p ep;exact⟨x,G1,p.1,p.2,rx,hG1,f1,ep,h1⟩
  ·exact h1.elim
 ·obtain⟨k,hty,r,hr1,hr2⟩:=hm x G1 T id em;obtain⟨t1,t2⟩:=jkk I1 r1 (hty xv H1 rx hG1);refine⟨T,id,k.pa,k.sl,k.ty,t1,t2,?_⟩;have hA:=ha cpos pins s1 σ H1 (λvs H2=>∃us G2,RUs X.K H2 us vs/\HR X.K H2 G2/\Fr H1 G1 H2 G2/\jau m x us G2 Q) I1 ⟨ς,G1,_,E,hς.ts (f1.ts hG),hG1,h1,λus vs G2 H2 rs hG2 f2 h2=>⟨us,G2,rs,hG2,f2,h2⟩,lx.fr f1⟩;rw[hs]at hA ⊢;refine Ye8 (by simp_all) (Calls.evalArgs_plain ?_)
  exact thn hA λus s2 ⟨vs,H2,I2,r2,ws,G2,rs,hG2,f2,h2⟩=>hr1 pins s2 σ H2 xv vs v us Q0 I2 r1 r2 (hr2 ws xv vs G2 H2 Q Q0 (rx.ts (f2.ts hG1)) rs hG2 h2 (lv.fr (f1.trans f2)))
def jk3 (hm:MtU X m)(ho:PE X o (lE X to))(hbase:YcV o (mthN m) X.env (eval o X.env)=eval o X.env)(hline:(apos.endLine==cpos.line)=true) :
  PE X (.Call (.Attribute o (mthN m) apos) [] [] cpos) (lE X λς G Q E=>to ς G (λx G1=>match mtU m x G1 with|some _=>jau m x [] G1 Q|none=>False) E):=by
 intro pins s σ H Q0 I h;obtain⟨ς,G,Q,E,hς,hG,h,lv,lx⟩:=h;refine PySem.wpAny_Call_method0_late hbase hline (thn (ho pins s σ H (λv H1=>∃x G1 T id,RU X.K H1 x v/\HR X.K H1 G1/\Fr H G H1 G1/\mtU m x G1=some (T,id)/\jau m x [] G1 Q) I
  ⟨ς,G,_,E,hς,hG,h,λx v G1 H1 rx hG1 f1 h1=>?_,lx⟩) λv s1 ⟨xv,H1,I1,r1,x,G1,T,id,rx,hG1,f1,em,h1⟩=>?_)
 ·dsimp only at h1;split at h1
  ·rename_i p ep;exact⟨x,G1,p.1,p.2,rx,hG1,f1,ep,h1⟩
  ·exact h1.elim
 ·obtain⟨k,hty,r,hr1,hr2⟩:=hm x G1 T id em;obtain⟨t1,t2⟩:=jkk I1 r1 (hty xv H1 rx hG1);exact⟨T,id,k.pa,k.sl,k.ty,t1,t2,Ye8 rfl (PySem.evalArgs_none (hr1 pins s1 σ H1 xv [] v [] Q0 I1 r1 .nil (hr2 [] xv [] G1 H1 Q Q0 rx rfl hG1 h1 (lv.fr f1))))⟩
end
end Z

namespace L2
open PySem PySem.Spec PyProof.Rows

def iSeq  (K:Yab)(tl:TE):TI:=λσ H R=>tl σ H λx H1=>∃a,x=.ref a/\(((∃xs,SqL K H1 a xs)/\R (Itl K a) H1)\/((∃xs,SqT K H1 a xs)/\R (Itt K a) H1))
def jnq    (hl:PE X l tl):PI X tg l (iSeq X.K tl):=by
 intro pins s σ H R I h;refine thn (hl pins s σ H _ I h) λv s1 ⟨x,H1,I1,r1,q1⟩=>?_;obtain⟨a,e,⟨⟨xs,hq⟩,q⟩|⟨⟨xs,hq⟩,q⟩⟩:=q1
 ·subst e;cases r1;obtain⟨its,rv,p,hz⟩:=I1.list hq;refine Ydo p.isList ?_;refine⟨s1.heap.objs.size,[s1.heap.objs.size],_,_,H1,rfl,I1.kept (t':=s1.toks) λb o e=>Yad _ e,jhy a _,⟨_,Yaq _ rfl,rfl,rfl⟩,λb hb=>?_,q⟩;have e:b=s1.heap.objs.size:=by simp_all
  subst e;exact I1.fpOk (Yag _) (I1.hok.fresh (Yag _))
 ·subst e;cases r1;obtain⟨its,rv,p,hz⟩:=I1.tuple hq;refine wpAny_pyIter_tuple (show s1.heap.IsTuple a its.toArray from p) ?_;refine⟨s1.heap.objs.size,[s1.heap.objs.size],_,_,H1,rfl,I1.kept (t':=s1.toks) λb o e=>Yad _ e,jg1 a _,⟨_,Yaq _ rfl,rfl,rfl⟩,λb hb=>?_,q⟩;have e:b=s1.heap.objs.size:=by simp_all
  subst e;exact I1.fpOk (Yag _) (I1.hok.fresh (Yag _))
def PI.imp    (h:PI X tg iter t)(i:∀σ H R,t' σ H R->t σ H R):PI X tg iter t':=λpins s σ H R I q=>h pins s σ H R I (i σ H R q)
def PG.imp    (h:PG X target t)(i:∀v σ H Q,t' v σ H Q->t v σ H Q):PG X target t':=λpins s σ H v u Q I r q=>h pins s σ H v u Q I r (i v σ H Q q)
def PGs.imp    (h:PGs X ts t)(i:∀v σ H Q,t' v σ H Q->t v σ H Q):PGs X ts t':=λpins s σ H v u Q I r q=>h pins s σ H v u Q I r (i v σ H Q q)
def PIfs.imp    (h:PIfs X ifs t)(i:∀σ H Q,t' σ H Q->t σ H Q):PIfs X ifs t':=λpins s σ H Q I q=>h pins s σ H Q I (i σ H Q q)
end L2
namespace Z
open PySem L2
abbrev UI:=Sg->Gp->(List U->(Gp->Prop)->Gp->Prop)->KX->Prop
def jhr  (K:Yab)(J:L2.It)(H:Hp)(G:Gp)(xs:List U)(ok:Gp->Prop):Prop:=∀i H' G',TS H H'->HR K H' G'->ok G'->
 (∀u,xs[i]?=some u->J.go i H'/\∀v H'',J.yld i H' v H''->RU K H'' u v/\HR K H'' G'/\Fr H' G' H'' G')/\(i=xs.length->J.stop i H')
def jhr.mono        (h:jhr K J H G xs ok)(t:TS H H2):jhr K J H2 G2 xs ok:=λi H' G' t'=>h i H' G' (t.trans t')
section
variable (X:Cx)
def lI (t:UI):TI:=λσ H R=>∃ς G Q E,SR X.K H ς σ/\HR X.K H G/\t ς G Q E/\(∀xs ok G' H' J,HR X.K H' G'->Fr H G H' G'->jhr X.K J H' G' xs ok->Q xs ok G'->R J H')/\LX X σ H G E
def lG  (K:Yab)(t:U->Sg->(Sg->Prop)->Prop):TG:=λv σ H Q0=>∃u ς k,RU K H u v/\SR K H ς σ/\t u ς k/\∀ς' σ',SR K H ς' σ'->k ς'->Q0 σ' H
def lGs  (K:Yab)(t:List U->Sg->(Sg->Prop)->Prop):TGs:=λvs σ H Q0=>∃us ς k,RUs K H us vs/\SR K H ς σ/\t us ς k/\∀ς' σ',SR K H ς' σ'->k ς'->Q0 σ' H
end
section
variable {X:Cx}{tg:Expr}{pos:Pos}{te ta tb:UE}
def u_ie   (hl:PE X l (lE X te)):PI X tg l (lI X λς G Q E=>te ς G (λx G1=>itU x G1 λxs ok=>Q xs ok G1) E):=by
 refine(jnq hl).imp λσ H R h=>?_;obtain⟨ς,G,Q,E,hς,hG,h,lv,lx⟩:=h;refine⟨ς,G,_,E,hς,hG,h,λx v G1 H1 rx hG1 f1 h1=>?_,lx⟩;dsimp only at h1;unfold itU at h1;split at h1
 ·obtain⟨a,vs,rfl,ea,rs⟩:=rx;refine⟨a,rfl,.inr ⟨⟨vs,.of ea⟩,lv _ _ _ H1 _ hG1 f1 (λi H' G' f hr _=>?_) h1⟩⟩;have e':H' a=some (.tup vs):=f a _ ea;refine⟨λu eu=>?_,λe=>⟨vs,.of e',by rw[e,rs.length];lia⟩⟩
  obtain⟨w,ew,rw'⟩:=rs.get eu;refine⟨⟨vs,w,.of e',ew⟩,λv H'' y=>?_⟩;obtain⟨rfl,y⟩:=y;have:=y vs (.of e');rw[ew]at this;cases this;exact⟨rw'.ts f,hr,Fr.refl _ _⟩
 ·cases rx;rename_i a;split at h1
  ·rename_i us eu;obtain⟨vs,sq,rs⟩:=hG1.ls eu;refine⟨_,rfl,.inl ⟨⟨vs,sq⟩,lv _ _ _ H1 _ hG1 f1 (λi H' G' f hr ok=>?_) h1⟩⟩;obtain⟨vs',sq',rs'⟩:=hr.ls ok;refine⟨λu eu=>?_,λe=>⟨vs',sq',by rw[e,rs'.length];lia⟩⟩
   obtain⟨w,ew,rw'⟩:=rs'.get eu;refine⟨⟨vs',w,sq',ew⟩,λv H'' y=>?_⟩;obtain⟨rfl,y⟩:=y;have:=y vs' sq';rw[ew]at this;cases this;exact⟨rw',hr,Fr.refl _ _⟩
  lia
 lia
def jgt      lo n:jhr K (Itr lo n) H G (rngU lo n) λ_=>True:=by
 intro i H' G' f hr _;have hl:(rngU lo n).length=n:=by simp[rngU]
 refine⟨λu eu=>?_,λe=>by rw[hl]at e;exact Yej e.symm⟩
 have hi:i<n:=by grind
 refine⟨hi,λv H'' y=>?_⟩;obtain⟨rfl,rfl⟩:=y;have:(rngU lo n)[i]?=some (.int (lo+i)):=by simp[rngU,Yay,YdI hi]
 rw[this]at eu;cases eu;exact⟨rfl,hr,Fr.refl _ _⟩
def u_r1 {a:Expr}{p:Pos}(hg:Gl X "range")(hm:X.mg "range" = none)(ha:PE X a (lE X ta))(hs:Yax [a] X.env=[(false,eval a X.env)]):PI X tg (.Call (.Name "range" p) [a] [] pos) (lI X λς G Q E=>ta ς G (λx G1=>match x with
   |.int j=>-(2 ^ 62)<=j/\j<2 ^ 62/\Q (rngU 0 j.toNat) (λ_=>True) G1
   |_=>False) E):=by
 refine(jhU hg hm (jcw ha jfE hs) hs).imp λσ H R h=>?_;obtain⟨ς,G,Q,E,hς,hG,h,lv,lx⟩:=h;refine⟨ς,G,λus G1=>match us with|[x]=>(match x with|.int j=>-(2 ^ 62)<=j/\j<2 ^ 62/\Q (rngU 0 j.toNat) (λ_=>True) G1|_=>False)|_=>False,E,hς,hG,h,λus vs G1 H1 rs hG1 f1 h1=>?_,lx⟩
 dsimp only at h1;split at h1
 ·obtain⟨v,rfl,r⟩:=rs.one;split at h1
  ·cases r;exact⟨_,rfl,h1.1,h1.2.1,lv _ _ G1 H1 _ hG1 f1 (jgt 0 _) h1.2.2⟩
  lia
 lia
def u_r2 {a b:Expr}{p:Pos}(hg:Gl X "range")(hm:X.mg "range" = none)(ha:PE X a (lE X ta))(hb:PE X b (lE X tb))(hs:Yax [a,b] X.env=[(false,eval a X.env),(false,eval b X.env)])(hs2:Yax [b] X.env=[(false,eval b X.env)]) :
  PI X tg (.Call (.Name "range" p) [a,b] [] pos) (lI X λς G Q E=>ta ς G (λx G1=>tb ς G1 (λy G2=>match x,y with
   |.int i,.int j=>-(2 ^ 62)<=i/\i<2 ^ 62/\-(2 ^ 62)<=j/\j<2 ^ 62/\Q (rngU i (j-i).toNat) (λ_=>True) G2
   |_,_=>False) E) E):=by
 refine(jhT hg hm (jcw ha (jcw hb jfE hs2) (by lia)) hs hs2).imp λσ H R h=>?_
 obtain⟨ς,G,Q,E,hς,hG,h,lv,lx⟩:=h;refine⟨ς,G,λus G1=>match us with|[x,y]=>(match x,y with|.int i,.int j=>-(2 ^ 62)<=i/\i<2 ^ 62/\-(2 ^ 62)<=j/\j<2 ^ 62/\Q (rngU i (j-i).toNat) (λ_=>True) G1|_,_=>False)|_=>False,E,hς,hG,h,λus vs G1 H1 rs hG1 f1 h1=>?_,lx⟩
 dsimp only at h1;split at h1
 ·obtain⟨v,v',rfl,r,r'⟩:=rs.two;split at h1
  ·cases r;cases r';exact⟨_,_,rfl,⟨h1.1,h1.2.1,h1.2.2.1,h1.2.2.2.1⟩,lv _ _ G1 H1 _ hG1 f1 (jgt _ _) h1.2.2.2.2⟩
  lia
 lia
theorem jeC  : ∀{n i } {xs } {u:U},(jeD n xs)[i]?=some u->∃x,xs[i]?=some x/\u=.tup [.int ((n+i:Nat):Int),x]
 |_,_,[],_,h=>by simp[jeD]at h
 |n,0,x::xs,_,h=>by
  simp[jeD]at h
  simp_all
 |n,i+1,_::xs,_,h=>by
  obtain⟨x,e1,e2⟩:=jeC (n:=n+1) (i:=i) (xs:=xs) (by simpa[jeD]using h)
  grind
theorem jeB  : ∀n (xs:List U),(jeD n xs).length=xs.length
 |_,[]=>rfl
 |n,_::xs=>by simp[jeD,jeB (n+1) xs]
def jmI      (hg:Gl X "enumerate")(hm:X.mg "enumerate" = none)(ha:PE X l (lE X ta))(hs:Yax [l] X.env=[(false,eval l X.env)]) :
  PI X (.Tuple elts x1 tpos) (.Call (.Name "enumerate" p) [l] [] pos) (lI X λς G Q E=>ta ς G (λx G1=>enI x G1 λxs ok=>Q xs ok G1) E):=by
 refine(jjH hg hm (jcw ha jfE hs) hs).imp λσ H R h=>?_;obtain⟨ς,G,Q,E,hς,hG,h,lv,lx⟩:=h;refine⟨ς,G,λus G1=>match us with|[x]=>enI x G1 λxs ok=>Q xs ok G1|_=>False,E,hς,hG,h,λus vs G1 H1 rs hG1 f1 h1=>?_,lx⟩
 dsimp only at h1;split at h1
 ·obtain⟨v,rfl,r⟩:=rs.one;unfold enI at h1;split at h1
  ·cases r;split at h1
   ·rename_i us eu;obtain⟨vs,sq,rs⟩:=hG1.ls eu;refine⟨_,rfl,⟨vs,sq⟩,lv _ _ _ H1 _ hG1 f1 (λi H' G' f hr ok=>?_) h1⟩;obtain⟨vs',sq',rr⟩:=hr.ls ok;refine⟨λu eu=>?_,λe=>⟨vs',sq',by rw[e,jeB,rr.length]⟩⟩
    obtain⟨x,ex,rfl⟩:=jeC eu;obtain⟨w,ew,rw'⟩:=rr.get ex;refine⟨⟨vs',w,sq',ew⟩,λv H'' y=>?_⟩;obtain⟨z,q,hz,rfl,hn,rfl⟩:=y;have hz:=hz vs' sq';rw[ew]at hz;cases hz;refine⟨⟨q,_,rfl,jag,⟨_,_,rfl,by rw[YcI];rfl,⟨_,_,rfl,rw'.ts (TS.new hn),rfl⟩⟩⟩,hr.newT hn,Fr.new hn⟩
   lia
  lia
 lia
def u_is   (hl:PE X l (lE X te)):PI X tg l (lI X λς G Q E=>te ς G (λx G1=>sgU x λxs=>Q xs (λ_=>True) G1) E):=by
 refine(jnp hl).imp λσ H R h=>?_;obtain⟨ς,G,Q,E,hς,hG,h,lv,lx⟩:=h;refine⟨ς,G,_,E,hς,hG,h,λx v G1 H1 rx hG1 f1 h1=>?_,lx⟩;cases x with
 |str z=>
  cases rx;obtain⟨ha,h1⟩:=h1;refine⟨z,rfl,ha,lv _ _ _ H1 _ hG1 f1 (λi H' G' f hr _=>⟨λu eu=>?_,λe=>?_⟩) h1⟩
  ·rw[Yay]at eu;cases ec:z.cps.toList[i]? with
   |none=>simp_all
   |some c=>
    rw[ec]at eu;cases eu;have ec':z.cps[i]?=some c:=by simp_all
    refine⟨(Array.getElem?_eq_some_iff.mp ec').1,λv H'' y=>?_⟩;obtain⟨rfl,d,ed,rfl⟩:=y;rw[ec']at ed;cases ed;exact⟨rfl,hr,Fr.refl _ _⟩
  ·rw[e];simp[Its]
 |_=>exact h1.elim
def SR.set        (h:SR K H ς σ)(r:RU K H u v) i:SR K H (ς.set i (some u)) (σ.set i (some v)):=by
 refine⟨by simp[h.1],λj w e=>?_⟩
 by_cases hj:j=i
 ·subst hj;by_cases hl:j<ς.length
  ·rw[Ybu hl]at e;cases e;exact⟨v,Ybu (by rw[<- h.1];exact hl),r⟩
  simp_all
 ·rw[Ya3 (Ne.symm hj)]at e ⊢;exact h.2 j w e
def u_tn    (hN:X.N.Nodup)(hi:X.N[i]?=some x)(hx:Loc X.env.scope x)(hf:X.fn x=true\/X.env.scope.names.lookup x=some .local):PG X (.Name x pos) (lG X.K (tgU (.n i))):=by
 refine(jfO hN hi hx hf).imp λv σ H Q h=>?_;obtain⟨u,ς,k,r,hς,h,q⟩:=h;exact q _ _ (hς.set r i) h
def u_tt {es:List Expr}{k n:Nat}{ts:Tgs}(hc:X.calm=true)(h:PGs X es (lGs X.K (tgsU ts)))(hn:(YaZ es X.env).length=n)(hst:(YaZ es X.env).findIdx? (·.1)=none)(hl:∀us ς k,tgsU ts us ς k->us.length=n) :
  PG X (.Tuple es k pos) (lG X.K (tgU (.t ts))):=by
 refine(jnr hc h hn hst).imp λv σ H Q h=>?_;obtain⟨u,ς,k,r,hς,h,q⟩:=h;cases u with
 |tup us=>
  obtain⟨a,vs,rfl,e,rs⟩:=r;have h':tgsU ts us ς k:=h;exact⟨a,vs,rfl,.of e,by rw[<- rs.length];grind,us,ς,k,rs,hς,h',q⟩
 |_=>exact h.elim
def joX  : PGs X [] (lGs X.K (tgsU .nil)):=by
 refine jlC.imp λvs σ H Q h=>?_;obtain⟨us,ς,k,r,hς,h,q⟩:=h;obtain⟨rfl,h⟩:=h;cases r;exact⟨rfl,q _ _ hς h⟩
def joY {e:Expr}{es:List Expr}{t:Tg}{ts:Tgs}(h1:PG X e (lG X.K (tgU t)))(h2:PGs X es (lGs X.K (tgsU ts)))(hs:(YaZ (e::es) X.env).map (·.2)=assign e X.env::(YaZ es X.env).map (·.2)) :
  PGs X (e::es) (lGs X.K (tgsU (.cons t ts))):=by
 refine(jjI h1 h2 hs).imp λvs σ H Q h=>?_;obtain⟨us,ς,k,r,hς,h,q⟩:=h;cases us with
 |nil=>exact h.elim
 |cons u us=>
  obtain⟨v,vr,rfl,r1,rs⟩:=r;exact⟨v,vr,rfl,u,ς,_,r1,hς,h,λς' σ' hs' h'=>⟨us,ς',k,rs,hs',h',q⟩⟩
end
def lE0  (K:Yab)(t:UE):TE:=λτ H Q0=>∃ς G Q,SR K H ς τ/\HR K H G/\t ς G Q (λ_ _=>False)/\∀w v G' H',RU K H' w v->HR K H' G'->Fr H G H' G'->Q w G'->Q0 v H'
def lT0  (K:Yab)(t:Sg->Gp->(Bool->Gp->Prop)->Prop):TT:=λτ H Q0=>∃ς G Q,SR K H ς τ/\HR K H G/\t ς G Q/\∀b G' H',HR K H' G'->Fr H G H' G'->Q b G'->Q0 b H'
def LX.no      : LX X σ H G λ_ _=>False:=λ_ _ _ _ _ _ _ _ _ _ h=>h.elim
def lE0.of     (h:PE X e (lE X t)):PE X e (lE0 X.K t):=h.imp λσ H Q0 ⟨ς,G,Q,h1,h2,h3,h4⟩=>⟨ς,G,Q,_,h1,h2,h3,h4,LX.no⟩
def lT0.of     (h:PT X e (lT X t)):PT X e (lT0 X.K λς G Q=>t ς G Q λ_ _=>False):=h.imp λσ H Q0 ⟨ς,G,Q,h1,h2,h3,h4⟩=>⟨ς,G,Q,_,h1,h2,h3,h4,LX.no⟩
mutual
noncomputable def tgS:Tg->List Nat
 |.n i=>[i]
 |.t ts=>tgsS ts
noncomputable def tgsS:Tgs->List Nat
 |.nil=>[]
 |.cons t ts=>tgS t++tgsS ts
end
def Ext  (ς0 ς:Sg):Prop:=ς0.length=ς.length/\∀(j:Nat) (w:U),ς0[j]?=some (some w)->ς[j]?=some (some w)
mutual
theorem jkl {ς0:Sg}:∀{t:Tg} {u:U} {ς:Sg} {k:Sg->Prop},(∀i∈tgS t,∀w,ς0[i]?≠some (some w))->Ext ς0 ς->tgU t u ς k->tgU t u ς λς'=>k ς'/\Ext ς0 ς'
 |.n i,u,ς,k,hf,he,h=>by
  refine⟨h,by simp[he.1],λj w e=>?_⟩
  have hj:j≠i:=λz=>hf i (by simp[tgS]) w (z ▸ e)
  rw[Ya3 (Ne.symm hj)]
  exact he.2 j w e
 |.t ts,u,ς,k,hf,he,h=>by
  cases u with
  |tup us=>exact jhz (ts:=ts) (us:=us) (λi hi=>hf i hi) he h
  |_=>exact h
theorem jhz {ς0:Sg}:∀{ts:Tgs} {us:List U} {ς:Sg} {k:Sg->Prop},(∀i∈tgsS ts,∀w,ς0[i]?≠some (some w))->Ext ς0 ς->tgsU ts us ς k->tgsU ts us ς λς'=>k ς'/\Ext ς0 ς'
 |.nil,us,ς,k,_,he,h=>⟨h.1,h.2,he⟩
 |.cons t ts,us,ς,k,hf,he,h=>by
  cases us with
  |nil=>exact h
  |cons u r=>
   have:=jkl (t:=t) (u:=u) (λi hi=>hf i (by simp[tgsS,hi])) he h
   refine jec this λς' ⟨h1,h2⟩=>jhz (λi hi=>hf i (by simp[tgsS,hi])) h2 h1
theorem jec:∀{t:Tg} {u:U} {ς:Sg} {k k':Sg->Prop},tgU t u ς k->(∀ς,k ς->k' ς)->tgU t u ς k'
 |.n _,_,_,_,_,h,i=>i _ h
 |.t ts,u,ς,_,_,h,i=>by
  cases u with
  |tup us=>exact jgo (ts:=ts) (us:=us) h i
  |_=>exact h
theorem jgo:∀{ts:Tgs} {us:List U} {ς:Sg} {k k':Sg->Prop},tgsU ts us ς k->(∀ς,k ς->k' ς)->tgsU ts us ς k'
 |.nil,_,_,_,_,h,i=>⟨h.1,i _ h.2⟩
 |.cons t ts,us,ς,_,_,h,i=>by
  cases us with
  |nil=>exact h
  |cons u r=>exact jec (t:=t) h λς' h'=>jgo h' i
end
def SR.ext      (h:SR K H ς σ)(e:Ext ς0 ς):SR K H ς0 σ:=⟨e.1.trans h.1,λi u q=>h.2 i u (e.2 i u q)⟩
theorem SR.pick      (h:SR K H ς σ)(pick:List (Option Nat)):SR K H (jci pick ς) (pick.map λo=>o.bind λj=>(σ[j]?).join):=by
 refine⟨by simp[jci],λi u e=>?_⟩
 unfold jci at e;rw[Yay]at e ⊢;cases q:pick[i]? with
 |none=>simp_all
 |some o=>
  rw[q]at e;cases o with
  |none=>simp at e
  |some j=>
   simp only[Option.map_some,Option.bind_some,Option.some.injEq]at e ⊢;have e':ς[j]?=some (some u):=by
    grind
   obtain⟨v,ev,r⟩:=h.2 j u e'
   simp_all
section
variable {K:Yab}{H:Hp}{G:Gp}
def HR.newH  (h:HR K H G)(e:H p=none):HR K (upd H p o) G:=⟨λa ob q=>by
 have m:=h a ob q;obtain⟨ho,e2⟩:=m.there;exact m.keep (jad (jai e2 e)) (TS.new e),h.tab.new e⟩
def TS.hid     (e:H p=some (.lst ys)):TS H (upd H p o):=⟨λa xs h=>by
 have:a≠p:=λz=>by lia
 rw[jad this];exact h,λa ob h=>by
 have:a≠p:=λz=>by lia
 rw[jad this];exact h⟩
def HR.hid  (h:HR K H G)(e:H p=some (.lst ys))(g:G p=none):HR K (upd H p o) G:=⟨λa ob q=>by
 have:a≠p:=λz=>by lia
 exact(h a ob q).keep (jad this) (TS.hid e),h.tab.upd (λps z=>by lia) λob z=>by lia⟩
def HR.know  (h:HR K H G)(e:H p=some (.lst ys))(r:RUs K H us ys):HR K H (gup G p (.lst us)):=⟨λa ob q=>by
 by_cases z:a=p
 ·subst z;rw[jaE]at q;cases q;exact⟨ys,e,r⟩
 ·rw[jbA z]at q;exact h a ob q,h.tab⟩
end
section
variable {X:Cx}{pick:List (Option Nat)}{ti:UI}{t:Tg}{tc:Sg->Gp->(Bool->Gp->Prop)->Prop}{te:UE}{σ:St}{H:Hp}{Q0:VK}
abbrev lcD  (pick:List (Option Nat))(ti:UI)(t:Tg)(tc:Sg->Gp->(Bool->Gp->Prop)->Prop)(te:UE):UE:=λς G Q E=>ti ς G (λxs ok G1=>xs.length<=Yaf/\jcI ok (λx G2 k=>tgU t x (jci pick ς) λτ=>tc τ G2 (λb G3=>if b=true then te τ G3 (λu G4=>k (some u) G4) (λ_ _=>False) else k none G3)) xs [] G1
   λus G5=>newO G5 (.lst us) Q) E
structure FrX (D:Addr)(H:Hp)(G:Gp)(H':Hp)(G':Gp):Prop where
 go:∀a o,a≠D->H a=some o->G a=none->(nt:noTb o=true:=by rfl)->H' a=some o/\G' a=none
instance {D:Addr} {H H':Hp} {G G':Gp}:CoeFun (FrX D H G H' G') λ_=>∀a o,a≠D->H a=some o->G a=none->(nt:noTb o=true:=by rfl)->H' a=some o/\G' a=none:=⟨@FrX.go D H G H' G'⟩
def jn4            {kk:List U->Gp->Prop}{QQ:St->List V->Hp->Prop}
  (free:∀i∈tgS t,∀w,τu[i]?≠some (some w)) (wk:jhr X.K J H1 G1 xs ok) (hG1:HR X.K H1 G1) (eD1:H1 D=some (.lst ys0)) (gD1:G1 D=none) (ra1:RUs X.K H1 acc0 ys0) (sr1:SR X.K H1 τu τ0) (hl:acc0.length+xs.length<=Yaf)
  (h1:jcI ok (λx G2 k=>tgU t x τu λτ=>tc τ G2 (λb G3=>if b=true then te τ G3 (λu G4=>k (some u) G4) (λ_ _=>False) else k none G3)) xs acc0 G1 kk)
  (fin:∀τ' acc' ys' G' H',SR X.K H' τu τ'->HR X.K H' G'->FrX D H1 G1 H' G'->H' D=some (.lst ys')->G' D=none->RUs X.K H' acc' ys'->kk acc' G'->QQ τ' ys' H') :
  jjd J (lG X.K (tgU t)) (lT0 X.K tc) (emA (lE0 X.K te) D) QQ τ0 ys0 H1:=by
 refine⟨λi m τ ys H'=>m=xs.length-i/\i<=xs.length/\∃acc G',SR X.K H' τu τ/\HR X.K H' G'/\FrX D H1 G1 H' G'/\H' D=some (.lst ys)/\G' D=none/\RUs X.K H' acc ys/\acc.length<=acc0.length+i/\
  jcI ok (λx G2 k=>tgU t x τu λτ=>tc τ G2 (λb G3=>if b=true then te τ G3 (λu G4=>k (some u) G4) (λ_ _=>False) else k none G3)) (xs.drop i) acc G' kk,⟨xs.length,by simp,Ybh _,acc0,G1,sr1,hG1,⟨λ_ _ _ a b _=>⟨a,b⟩⟩,eD1,gD1,ra1,by lia,by simp_all⟩,?_⟩
 rintro i m τ ys H' ⟨rfl,hi,acc,G',sr,hr,f,eD,gD',ra,hal,hc⟩;have ts:TS H1 H':=⟨λa zs e=>(f a _ (λz=>by lia) e (hG1.tupNone e)).1,λa zs e=>(f a _ (λz=>by lia) e (hG1.codNone e)).1⟩
 by_cases hlt:i<xs.length
 ·rw[Ybi hlt]at hc;obtain⟨hok,hb⟩:=hc;obtain⟨w1,_⟩:=wk i H' G' ts hr hok;obtain⟨go,yl⟩:=w1 xs[i] (by simp[hlt])
  refine .inr ⟨go,λv H'' y=>?_⟩;obtain⟨rx,hr2,f2⟩:=yl v H'' y;have sr2:=sr.ts (f2.ts hr);refine⟨xs[i],τu,_,rx,sr2,jkl free ⟨rfl,λ_ _ e=>e⟩ hb,λτv σ' hs' ⟨hk,he⟩=>?_⟩;refine⟨τv,G',_,hs',hr2,hk,λb G3 H3 hr3 f3 h3=>?_⟩;have f13:FrX D H1 G1 H3 G3:=⟨λa o n h g nt=>let ⟨a1,a2⟩:=f a o n h g nt;let ⟨b1,b2⟩:=f2 a o a1 a2 nt;f3 a o b1 b2 nt⟩
  have hs3:SR X.K H3 τu σ':=(hs'.ext he).ts (f3.ts hr2);obtain⟨eD2,gD2⟩:=f2 D _ eD gD';obtain⟨eD3,gD3⟩:=f3 D _ eD2 gD2;have ra3:=(ra.ts (f2.ts hr)).ts (f3.ts hr2);cases b with
  |false=>
   rw[if_neg Yal]at h3;dsimp only;rw[if_neg Yal];exact⟨xs.length-(i+1),by lia,rfl,hlt,acc,G3,hs3,hr3,f13,eD3,gD3,ra3,by lia,h3⟩
  |true=>
   rw[if_pos rfl]at h3;dsimp only;rw[if_pos rfl];refine⟨τv,G3,_,hs'.ts (f3.ts hr2),hr3,h3,λu v G4 H4 ru hr4 f4 h4=>?_⟩;obtain⟨eD4,gD4⟩:=f4 D _ eD3 gD3;have ra4:=ra3.ts (f4.ts hr3);have tsn:=TS.hid (o:=.lst (ys++[v])) eD4;refine⟨eD4,by rw[<- ra.length];lia,xs.length-(i+1),by lia,rfl,hlt,acc++[u],G4,(hs3.ts (f4.ts hr3)).ts tsn,hr4.hid eD4 gD4,?_,jag,gD4,(ra4.append (RUs.mk (us:=[]) (vs:=[]) ru rfl)).ts tsn,by grind,h4⟩
   refine⟨λa o n ha ga nt=>?_⟩;obtain⟨x1,x2⟩:=f13 a o n ha ga nt;obtain⟨y1,y2⟩:=f4 a o x1 x2 nt;exact⟨by rw[jad n];exact y1,y2⟩
 ·have e:i=xs.length:=by lia
  subst e;rw[Ygr]at hc;obtain⟨hok,q⟩:=hc;obtain⟨_,w2⟩:=wk xs.length H' G' ts hr hok;exact .inl ⟨w2 rfl,fin τ acc ys G' H' sr hr f eD gD' ra q⟩
def jhS  {is:List Nat}(hp:is.all (λi=>(pick[i]?).join.isNone)=true) ς:∀i∈is,∀w,(jci pick ς)[i]?≠some (some w):=λi hi w e=>by
 have:=Ydk.mp hp i hi;unfold jci at e;rw[Yay]at e;cases q:pick[i]? with
 |none=>simp_all
 |some o=>
  simp_all
def jkC  (hp:(tgS t).all (λi=>(pick[i]?).join.isNone)=true)(h:lE X (lcD pick ti t tc te) σ H Q0):tLc pick (lI X ti) (lG X.K (tgU t)) (lT0 X.K tc) (lE0 X.K te) σ H Q0:=by
 obtain⟨ς,G,Q,E,hς,hG,h,lv,lx⟩:=h;refine⟨ς,G,_,E,hς,hG,h,λxs ok G1 H1 J hG1 f1 wk h1=>?_,lx⟩;obtain⟨hl,h1⟩:=h1;intro D hD;refine jn4 (acc0:=[]) (jhS hp ς) (wk.mono (TS.new hD)) (hG1.newH hD) jag (hG1.nope hD) rfl (((hς.ts (f1.ts hG)).ts (TS.new hD)).pick pick) (by simp_all) h1 λτ' acc' ys' G' H' sr hr f eD gD' ra q=>?_
 refine lv (.loc D) (.ref D) _ H' rfl (hr.know eD ra) ?_ (q.at D gD');refine⟨λa o ha ga nt=>?_⟩;obtain⟨x1,x2⟩:=f1 a o ha ga nt;obtain⟨y1,y2⟩:=f a o (jai x1 hD) (by rw[jad (jai x1 hD)];exact x1) x2 nt
 exact⟨y1,by rw[jbA (jai x1 hD)];exact y2⟩

def u_lc  (hc:X.calm=true)(S:CScope X N pick scope)(hw:PI X tg iter (lI X ti))(hp:(tgS t).all (λi=>(pick[i]?).join.isNone)=true)
  (hg:∀cl C s₀ H₀ fp,PG (jao X N scope cl C s₀ H₀ fp) tg (lG X.K (tgU t))) (hi:∀cl C s₀ H₀ fp,PIfs (jao X N scope cl C s₀ H₀ fp) ifs (lT0 X.K tc)) (he:∀cl C s₀ H₀ fp,PE (jao X N scope cl C s₀ H₀ fp) elt (lE0 X.K te))
  (hs:∀x,Ya4 iter X.env x=pure x):PE X (.ListComp elt [⟨tg,iter,ifs,0⟩] scope pos) (lE X (lcD pick ti t tc te)):=
 (jpL hc S hw hg hi he hs).imp λ_ _ _ h=>jkC hp h
end
section
variable {X:Cx}{e:Expr}{te ta tb:UE}{p pos:Pos}
def jo5  (hc:X.calm=true)(hg:Gl X "list")(hm:X.mg "list" = none)(ha:PE X e (lE X te))(he:Yax [e] X.env=[(false,eval e X.env)]) :
  PE X (.Call (.Name "list" p) [e] [] pos) (lE X λς G Q E=>te ς G (λx G1=>mkDU x G1 Q) E):=by
 refine(jb0 (jho hc) hg hm Yed (jcw ha jfE he) (by decide) (by decide) he rfl).imp λσ H Q0 h=>?_
 obtain⟨ς,G,Q,E,hς,hG,h,lv,lx⟩:=h;refine⟨ς,G,λus G1=>match us with|[x]=>mkDU x G1 Q|_=>False,E,hς,hG,h,λus vs G1 H1 rs hG1 f1 h1=>?_,lx⟩
 dsimp only at h1;split at h1
 ·obtain⟨v,rfl,r⟩:=rs.one;unfold mkDU at h1;split at h1
  ·cases r;split at h1
   ·rename_i kvs g;obtain⟨ns,hk,q⟩:=h1;obtain⟨l,e,rk⟩:=hG1 _ _ g;refine⟨_,l,ns,rfl,e,?_,λp hp=>(lv.fr f1).lst hp (jgM _) hG1 q⟩;rw[<- jhM rk];exact hk
   lia
  lia
 lia
def jo4  (hg:Gl X "list")(hm:X.mg "list" = none)(ha:PE X e (lE X te))(he:Yax [e] X.env=[(false,eval e X.env)]) :
  PE X (.Call (.Name "list" p) [e] [] pos) (lE X λς G Q E=>te ς G (λx G1=>itU x G1 λxs _=>newO G1 (.lst xs) Q) E):=by
 refine(jb0 (jfs (X:=X)) hg hm Yed (jcw ha jfE he) (by decide) (by decide) he rfl).imp λσ H Q0 h=>?_
 obtain⟨ς,G,Q,E,hς,hG,h,lv,lx⟩:=h;refine⟨ς,G,λus G1=>match us with|[x]=>(itU x G1 λxs _=>newO G1 (.lst xs) Q)|_=>False,E,hς,hG,h,λus vs G1 H1 rs hG1 f1 h1=>?_,lx⟩
 dsimp only at h1;split at h1
 ·obtain⟨v,rfl,r⟩:=rs.one;unfold itU at h1;split at h1
  ·obtain⟨a,ws,rfl,ea,rr⟩:=r;exact⟨a,ws,rfl,.inr (.of ea),λl hl=>(lv.fr f1).lst hl rr hG1 h1⟩
  ·cases r;split at h1
   ·rename_i us eu;obtain⟨ws,sq,rr⟩:=hG1.ls eu;exact⟨_,ws,rfl,.inl sq,λl hl=>(lv.fr f1).lst hl rr hG1 h1⟩
   lia
  lia
 lia
def jo3  (hg:Gl X "tuple")(hm:X.mg "tuple" = none)(ha:PE X e (lE X te))(he:Yax [e] X.env=[(false,eval e X.env)]) :
  PE X (.Call (.Name "tuple" p) [e] [] pos) (lE X λς G Q E=>te ς G (λx G1=>itU x G1 λxs _=>Q (.tup xs) G1) E):=by
 refine(jb0 (jeI (X:=X)) hg hm PyProof.Rows.boot_tuple (jcw ha jfE he) (by decide) (by decide) he rfl).imp λσ H Q0 h=>?_
 obtain⟨ς,G,Q,E,hς,hG,h,lv,lx⟩:=h;refine⟨ς,G,λus G1=>match us with|[x]=>(itU x G1 λxs _=>Q (.tup xs) G1)|_=>False,E,hς,hG,h,λus vs G1 H1 rs hG1 f1 h1=>?_,lx⟩
 dsimp only at h1;split at h1
 ·obtain⟨v,rfl,r⟩:=rs.one;unfold itU at h1;split at h1
  ·obtain⟨a,ws,rfl,ea,rr⟩:=r;exact⟨a,ws,rfl,.inr ⟨.of ea,(lv.fr f1).here (w:=.tup _) ⟨a,ws,rfl,ea,rr⟩ hG1 h1⟩⟩
  ·cases r;split at h1
   ·rename_i us eu;obtain⟨ws,sq,rr⟩:=hG1.ls eu;exact⟨_,ws,rfl,.inl ⟨sq,λl hl=>(lv.fr f1).tup hl rr hG1 h1⟩⟩
   lia
  lia
 lia
def u_ty    (hg:Gl X x)(hm:X.mg x=none)(hv:YbT x=some (.type n))(hn:x ≠ "__name__")(hd:(x==("__debug__" : Str))=false):PE X (.Name x pos) (lE X λ_ G Q _=>Q (.ty n) G):=
 jce (u:=.ty n) (jhX (v:=.ty n) hg hm hv rfl hn hd) λ_=>rfl
def u_gl      (hg:Gl X x)(hm:X.mg x=some w)(r:RelV v w)(hr:∀H,RU X.K H u v)(hd:(x==("__debug__" : Str))=false):PE X (.Name x pos) (lE X λ_ G Q _=>Q u G):=
 jce (jhW hg hm r hd) hr
def jmJ  : PE X (.Dict [] [] pos) (lE X λ_ G Q _=>newO G (.dK []) Q):=by
 refine jjL.imp λσ H Q0 h p hp=>?_;obtain⟨ς,G,Q,E,hς,hG,h,lv,lx⟩:=h;exact lv (.loc p) (.ref p) _ _ rfl (hG.newO (mo:=.dK []) hp ⟨[],jag,rfl⟩) (Fr.newO hp) (h.at p (hG.nope hp))
theorem RKs.merge    : ∀{more } {m },RKs K H more m->∀{kvs } {l },RKs K H kvs l->RKs K H (more.foldl (λacc kv=>dPut acc kv.1 kv.2) kvs) (jdi l m)
 |[],_,h,_,_,h'=>by cases h;exact h'
 |(k,u)::more,_,h,_,_,h'=>by
  obtain⟨v,l',rfl,r,rs⟩:=h;exact RKs.merge rs (h'.put r)
def lD  (X:Cx)(t:Sg->Gp->(List (Key×U)->Gp->Prop)->KX->Prop)(trs:List (TE×TE)):Prop:=
 ∀σ H ς G Q E (Q0:List (V×V)->Hp->Prop),SR X.K H ς σ->HR X.K H G->t ς G Q E->LX X σ H G E->
  (∀kvs (l:List (Key×V)) G' H',RKs X.K H' kvs l->HR X.K H' G'->Fr H G H' G'->Q kvs G'->Q0 (l.map λkv=>(kV kv.1,kv.2)) H')->jgp trs σ H Q0
def jo8      (hp:PPs X pos keys values trs)(hd:lD X t trs)(hall:keys.all (·.isSome)=true)(hl:keys.length=values.length)(h0:keys≠[])
  (h15:keys.length<=15):PE X (.Dict keys values pos) (lE X λς G Q E=>t ς G (λkvs G1=>kvs.length<=15/\newO G1 (.dK (jdy kvs)) Q) E):=by
 refine(jlF hp hall hl h0 h15).imp λσ H Q0 h p hp=>?_;obtain⟨ς,G,Q,E,hς,hG,h,lv,lx⟩:=h;have gp:=hG.nope hp;refine hd σ _ ς G _ E _ (hς.ts (TS.new hp)) (hG.newH hp) h (lx.fr (Fr.new hp)) λkvs l G' H' r hG' f q=>?_;obtain⟨e,g⟩:=f p _ jag gp;refine⟨e,l,rfl,by rw[<- r.length];exact q.1,?_⟩
 have ts:TS H' (upd H' p (.dK (jdi [] l))):=⟨λa xs h=>by
  have:a≠p:=λz=>by lia
  rw[jad this];exact h,λa xs h=>by
  have:a≠p:=λz=>by lia
  rw[jad this];exact h⟩
 refine lv (.loc p) (.ref p) (gup G' p (.dK (jdy kvs))) _ rfl ⟨λa ob z=>?_,hG'.tab.upd (λps z=>by lia) λob z=>by lia⟩ ⟨λa o ha ga nt=>?_⟩ (q.2.at p g)
 ·by_cases ea:a=p
  ·subst ea;rw[jaE]at z;cases z;exact⟨_,jag,(RKs.merge r (kvs:=[]) (l:=[]) rfl).ts ts⟩
  ·rw[jbA ea]at z;exact(hG' a ob z).keep (jad ea) ts
 ·have ea:a≠p:=jai ha hp;obtain⟨x1,x2⟩:=f a o (by rw[jad ea];exact ha) ga nt
  exact⟨by rw[jad ea];exact x1,by rw[jbA ea];exact x2⟩
def jn9  : lD X (λ_ G Q _=>Q [] G) []:=λσ H ς G Q E Q0 hς hG h lx q=>q [] [] G H rfl hG (Fr.refl _ _) h
def jl6 {tk tv:UE}{t:Sg->Gp->(List (Key×U)->Gp->Prop)->KX->Prop}{trs:List (TE×TE)}(hr:lD X t trs):lD X (λς G Q E=>tk ς G (λx G1=>tv ς G1 (λy G2=>match kU x with
   |some k=>t ς G2 (λkvs G3=>Q ((k,y)::kvs) G3) E
   |none=>False) E) E) ((lE X tk,lE X tv)::trs):=by
 intro σ H ς G Q E Q0 hς hG h lx q;refine⟨ς,G,_,E,hς,hG,h,λx v G1 H1 rx hG1 f1 h1=>?_,lx⟩;refine⟨ς,G1,_,E,hς.ts (f1.ts hG),hG1,h1,λy v' G2 H2 ry hG2 f2 h2=>?_,lx.fr f1⟩;dsimp only at h2;split at h2
 ·rename_i k ek;have:=jey rx ek;subst this;refine hr σ H2 ς G2 _ E _ ((hς.ts (f1.ts hG)).ts (f2.ts hG1)) hG2 h2 (lx.fr (f1.trans f2)) λkvs l G3 H3 r hG3 f3 h3=>?_;exact q ((k,y)::kvs) ((k,v')::l) G3 H3 ⟨v',l,rfl,ry.ts (f3.ts hG2),r⟩ hG3 ((f1.trans f2).trans f3) h3
 lia
end
end Z

namespace L2
open PySem
end L2
namespace Z
open PySem L2
structure LD (X:Cx)(H:Hp)(G:Gp)(De:En)(D:Ends):Prop where
 nx:∀ς' σ' G' H',SR X.K H' ς' σ'->HR X.K H' G'->Fr H G H' G'->De.nx ς' G'->D.nx σ' H'
 rt:∀w v G' H',RU X.K H' w v->HR X.K H' G'->Fr H G H' G'->De.rt w G'->D.rt v H'
 ex:∀(pins:List (Addr×Obj)) (e:Value) (s':Shared) (x:XV) ς' σ' G' H',Inv X pins σ' H' s'->SR X.K H' ς' σ'->XAt X H' s' e x->HR X.K H' G'->Fr H G H' G'->De.ex x ς' G'->X.xe e s'
abbrev US:=En->Sg->Gp->Prop
def lS  (X:Cx)(t:US):L2.TS:=λD σ H=>∃De ς G,SR X.K H ς σ/\HR X.K H G/\t De ς G/\LD X H G De D

def LD.fr  (h:LD X H G De D)(f:Fr H G H1 G1):LD X H1 G1 De D:=
 ⟨λς' σ' G' H' a b c=>h.nx ς' σ' G' H' a b (f.trans c),λw v G' H' a b c=>h.rt w v G' H' a b (f.trans c),λpins e s' x ς' σ' G' H' i a b c d=>h.ex pins e s' x ς' σ' G' H' i a b c (f.trans d)⟩
def LD.lx  (h:LD X H G De D)(hς:SR X.K H ς σ)(hG:HR X.K H G):LX X σ H G λx G1=>De.ex x ς G1:=λpins e s' x G' H' I a hr f q=>h.ex pins e s' x ς σ G' H' I (hς.ts (f.ts hG)) a hr f q
def LD.here  (h:LD X H G De D)(hς:SR X.K H ς σ)(hG:HR X.K H G)(q:De.nx ς G):D.nx σ H:=h.nx ς σ G H hς hG (Fr.refl _ _) q
def LD.with    (h:LD X H G De D)(hn:∀ς' σ' G' H',SR X.K H' ς' σ'->HR X.K H' G'->Fr H G H' G'->k ς' G'->D'.nx σ' H')(hr:D'.rt=D.rt):LD X H G { De with nx:=k } D':=
 ⟨hn,λw v G' H' a b c d=>by rw[hr];exact h.rt w v G' H' a b c d,h.ex⟩
section
variable {X:Cx}{st:Stmt}{rest:List Stmt}{pos:Pos}{e:Expr}{te:UE}{t u:US}
def s_nil  : PSs X [] (lS X λD ς G=>D.nx ς G):=jfN.imp λD σ H ⟨De,ς,G,hς,hG,h,ld⟩=>ld.here hς hG h
def s_cons  (h1:PS X st (lS X t))(h2:PSs X rest (lS X u)):PSs X (st::rest) (lS X λD ς G=>t { D with nx:=λς' G'=>u D ς' G' } ς G):=by
 refine(jeh h1 h2).imp λD σ H ⟨De,ς,G,hς,hG,h,ld⟩=>?_;exact⟨_,ς,G,hς,hG,h,ld.with (λς' σ' G' H' a b c d=>⟨De,ς',G',a,b,d,ld.fr c⟩) rfl⟩
def s_expr  (he:PE X e (lE X te))(hs:Ycr e none pos.line X.env=pure false):PS X (.Expr e pos) (lS X λD ς G=>te ς G (λ_ G1=>D.nx ς G1) λx G1=>D.ex x ς G1):=
 (jlu he hs).imp λD σ H ⟨De,ς,G,hς,hG,h,ld⟩=>⟨ς,G,_,_,hς,hG,h,λw v G' H' _ hr f q=>ld.nx ς σ G' H' (hς.ts (f.ts hG)) hr f q,ld.lx hς hG⟩
def s_ret  (he:PE X e (lE X te)):PS X (.Return (some e) pos) (lS X λD ς G=>te ς G D.rt λx G1=>D.ex x ς G1):=
 (jnl he).imp λD σ H ⟨De,ς,G,hς,hG,h,ld⟩=>⟨ς,G,_,_,hς,hG,h,λw v G' H' r hr f q=>ld.rt w v G' H' r hr f q,ld.lx hς hG⟩
def s_if     (hc:PT X c (lT X tc))(ha:PSs X a (lS X t))(hb:PSs X b (lS X u)):PS X (.If c a b pos) (lS X λD ς G=>tc ς G (λx G1=>if x=true then t D ς G1 else u D ς G1) λx G1=>D.ex x ς G1):=by
 refine(jnn hc ha hb).imp λD σ H ⟨De,ς,G,hς,hG,h,ld⟩=>⟨ς,G,_,_,hς,hG,h,λb G' H' hr f q=>?_,ld.lx hς hG⟩;cases b with
 |true=>rw[if_pos rfl]at q ⊢;exact⟨De,ς,G',hς.ts (f.ts hG),hr,q,ld.fr f⟩
 |false=>rw[if_neg Yal]at q ⊢;exact⟨De,ς,G',hς.ts (f.ts hG),hr,q,ld.fr f⟩
def jmz      (h:lS X (λD ς G=>te ς G (λu G1=>tgU g u ς λς'=>D.nx ς' G1) λx G1=>D.ex x ς G1) D σ H) :
  lE X te σ H λx H1=>lG X.K (tgU g) x σ H1 D.nx:=by
 obtain⟨De,ς,G,hς,hG,h,ld⟩:=h;exact⟨ς,G,_,_,hς,hG,h,λw v G' H' r hr f q=>⟨w,ς,_,r,hς.ts (f.ts hG),q,λς' σ' hs hk=>ld.nx ς' σ' G' H' hs hr f hk⟩,ld.lx hς hG⟩
def s_unp {ts:Tgs}{es:List Expr}{k n:Nat}{p:Pos}(hc:X.calm=true)(he:PE X e (lE X te))(hg:PGs X es (lGs X.K (tgsU ts)))(hn:(YaZ es X.env).length=n)(hst:(YaZ es X.env).findIdx? (·.1)=none)(hl:∀us ς k,tgsU ts us ς k->us.length=n)
  (hs:YbH [.Tuple es k p] e pos.line X.env=pure false) (hw:Ybs [.Tuple es k p] e X.env=pure none) (h1:(YaZ [.Tuple es k p] X.env).map (·.2)=[assign (.Tuple es k p) X.env]) :
  PS X (.Assign [.Tuple es k p] e pos) (lS X λD ς G=>te ς G (λu G1=>unpU ts u G1 ς λς'=>D.nx ς' G1) λx G1=>D.ex x ς G1):=by
 refine(jgw he (jnt hc hg hn hst) hs hw h1).imp λD σ H h=>?_;obtain⟨De,ς,G,hς,hG,h,ld⟩:=h;refine⟨ς,G,_,_,hς,hG,h,λw v G' H' r hr f q=>?_,ld.lx hς hG⟩;cases w with
 |loc a=>
  cases r;unfold unpU at q;dsimp only at q;split at q
  ·rename_i us eu;obtain⟨vs,sq,rs⟩:=hr.ls eu;exact⟨a,vs,rfl,sq,by rw[<- rs.length];grind,us,ς,_,rs,hς.ts (f.ts hG),q,λς' σ' hs hk=>ld.nx ς' σ' G' H' hs hr f hk⟩
  lia
 |_=>exact q.elim
def s_asg {tg:Expr}{g:Tg}(he:PE X e (lE X te))(hg:PG X tg (lG X.K (tgU g)))(hs:YbH [tg] e pos.line X.env=pure false)(hw:Ybs [tg] e X.env=pure none)
  (h1:(YaZ [tg] X.env).map (·.2)=[assign tg X.env]):PS X (.Assign [tg] e pos) (lS X λD ς G=>te ς G (λu G1=>tgU g u ς λς'=>D.nx ς' G1) λx G1=>D.ex x ς G1):=
 (jgw he hg hs hw h1).imp λ_ _ _ h=>jmz h
def s_lc            
  (hN:X.N.Nodup) (hi':X.N[i]?=some y) (hy:X.env.scope.names.lookup y=some .local) (hc:X.calm=true) (S:CScope X N pick scope) (hw:PI X tg iter (lI X ti)) (hp:(tgS g).all (λi=>(pick[i]?).join.isNone)=true)
  (hg:∀cl C s₀ H₀ fp,PG (jao X N scope cl C s₀ H₀ fp) tg (lG X.K (tgU g))) (hi:∀cl C s₀ H₀ fp,PIfs (jao X N scope cl C s₀ H₀ fp) ifs (lT0 X.K tc)) (he:∀cl C s₀ H₀ fp,PE (jao X N scope cl C s₀ H₀ fp) elt (lE0 X.K te))
  (hsw:Ycr (.ListComp elt [⟨tg,iter,ifs,0⟩] scope pos) (some (.Name y py)) spos.line X.env=pure true) (hs:∀x,Ya4 iter X.env x=pure x) :
  PS X (.Assign [.Name y py] (.ListComp elt [⟨tg,iter,ifs,0⟩] scope pos) spos) (lS X λD ς G=>lcD pick ti g tc te ς G (λu G1=>tgU (.n i) u ς λς'=>D.nx ς' G1) λx G1=>D.ex x ς G1):=by
 refine(jpH hN hi' hy hc S hw hg hi he hsw hs).imp λD σ H h=>?_;obtain⟨De,ς,G,hς,hG,h,ld⟩:=h;exact jkC hp ⟨ς,G,_,_,hς,hG,h,λw v G' H' r hr f q=>ld.nx _ _ G' H' ((hς.ts (f.ts hG)).set r i) hr f q,ld.lx hς hG⟩
def jnh  : TSet:=λo i v H Q=>∃a H',o=.ref a/\DPut H a i v H'/\Q H'
def jju  (hu:X.A.units+1<cLine):PSet X jnh:=by
 intro pins s σ H o i v ov iv u Q I ro ri rv h;obtain⟨a,H',rfl,g,q⟩:=h;cases ro;exact jiR hu I g ri rv λs' I'=>⟨H',I',q⟩
def _root_.L2.PSet.or {t t':TSet}(h:PSet X t)(h':PSet X t'):PSet X λo i v H Q=>t o i v H Q\/t' o i v H Q:=by
 intro pins s σ H o i v ov iv u Q I ro ri rv q;rcases q with q|q
 ·exact h pins s σ H o i v ov iv u Q I ro ri rv q
 ·exact h' pins s σ H o i v ov iv u Q I ro ri rv q
def jll       {Q0:Hp->Prop}(rx:RU X.K H x v)(ry:RU X.K H y v')(rw':RU X.K H w v'')(hG:HR X.K H G)(h:setU x y w G k)
  (q:∀G' H',HR X.K H' G'->Fr H G H' G'->k G'->Q0 H'):jng v v' v'' H Q0\/jnh v v' v'' H Q0:=by
 cases x with
 |loc a=>
  cases rx;unfold setU at h;dsimp only at h;split at h
  ·rename_i xs g;obtain⟨vs,e,rs⟩:=hG.lst g;cases y with
   |int i=>
    cases ry;dsimp only at h;split at h
    ·rename_i j ej;refine .inl ⟨a,vs,i,j,rfl,rfl,e,by rw[<- rs.length];exact ej,?_⟩
     exact q _ _ (hG.write (mo':=.lst (xs.set j w)) g ⟨_,jag,(rs.set rw' j).ts (TS.write hG g)⟩) (Fr.write g) h.at
    lia
   |_=>lia
  ·rename_i kvs g;obtain⟨l,e,rs⟩:=hG a _ g;split at h
   ·rename_i k' ek;have:=jey ry ek;subst this;refine .inr ⟨a,_,rfl,DPut.k e (by rw[<- rs.length];exact h.1),?_⟩
    exact q _ _ (hG.write (mo':=.dK (dPut kvs k' w)) g ⟨_,jag,(rs.put rw').ts (TS.write hG g)⟩) (Fr.write g) h.2.at
   lia
  ·rename_i kvs g;obtain⟨l,e,rs⟩:=hG a _ g;cases y with
   |tup ys=>
    obtain⟨b,ws,rfl,eb,rb⟩:=ry;dsimp only at h;split at h
    ·rename_i k' ek;have:=jgK rb ek;subst this;refine .inr ⟨a,_,rfl,DPut.t e eb (by rw[<- rs.length];exact h.1),?_⟩
     exact q _ _ (hG.write (mo':=.dT (dPut kvs k' w)) g ⟨_,jag,(rs.put rw').ts (TS.write hG g)⟩) (Fr.write g) h.2.at
    lia
   |_=>lia
  lia
 |_=>exact h.elim
def s_set {o i:Expr}{to ti:UE}{tpos:Pos}(hu:X.A.units+1<cLine)(he:PE X e (lE X te))(ho:PE X o (lE X to))(hi:PE X i (lE X ti))(hs:YbH [.Subscript o i tpos] e pos.line X.env=pure false)(hw:Ybs [.Subscript o i tpos] e X.env=pure none)
  (h1:(YaZ [.Subscript o i tpos] X.env).map (·.2)=[assign (.Subscript o i tpos) X.env]) (ha:∀v,assign (.Subscript o i tpos) X.env v=(do
   let ov <- holding [v] (eval o X.env)
   let iv <- holding [v,ov] (eval i X.env)
   standAt tpos
   holding [v,ov,iv] (setItem ov iv v)
   release [v,ov,iv] [])):PS X (.Assign [.Subscript o i tpos] e pos) (lS X λD ς G=>te ς G (λv G1=>to ς G1 (λx G2=>ti ς G2 (λy G3=>setU x y v G3 λG4=>D.nx ς G4) λx G1=>D.ex x ς G1) λx G1=>D.ex x ς G1) λx G1=>D.ex x ς G1):=by
 refine(jgw he (jns ho hi (PSet.or jjt (jju hu)) ha) hs hw h1).imp λD σ H ⟨De,ς,G,hς,hG,h,ld⟩=>?_;refine⟨ς,G,_,_,hς,hG,h,λw v G1 H1 rw' hG1 f1 h1=>?_,ld.lx hς hG⟩;have hς1:=hς.ts (f1.ts hG);refine⟨ς,G1,_,_,hς1,hG1,h1,λx vx G2 H2 rx hG2 f2 h2=>?_,(ld.fr f1).lx hς1 hG1⟩;have hς2:=hς1.ts (f2.ts hG1);refine⟨ς,G2,_,_,hς2,hG2,h2,λy vy G3 H3 ry hG3 f3 h3=>?_,(ld.fr (f1.trans f2)).lx hς2 hG2⟩;have hς3:=hς2.ts (f3.ts hG2);exact jll (rx.ts (f3.ts hG2)) ry ((rw'.ts (f2.ts hG1)).ts (f3.ts hG2)) hG3 h3 λG' H' hr f q=>ld.nx ς σ G' H' (hς3.ts (f.ts hG3)) hr (((f1.trans f2).trans f3).trans f) q
def _root_.L2.PGet.or {t t':V->V->Hp->VK->Prop}(h:PGet X t)(h':PGet X t'):PGet X λo i H Q=>t o i H Q\/t' o i H Q:=by
 intro pins s σ H o i ov iv Q I ro ri q;rcases q with q|q
 ·exact h pins s σ H o i ov iv Q I ro ri q
 ·exact h' pins s σ H o i ov iv Q I ro ri q
def s_for       (hp:Yes (model X.prog X.w) X.A X.env X.xe)(hc:X.calm=true)(hi:PI X tg iter (lI X ti))(hg:PG X tg (lG X.K (tgU g)))(hb:PSs X body (lS X tb))
  (hs:∀x,Ya4 iter X.env x=pure x):PS X (.For tg iter body [] pos) (lS X λD ς G=>ti ς G (λxs ok G1=>forL ok (λx ς1 G2 k=>tgU g x ς1 λς2=>tb { D with nx:=k } ς2 G2) xs ς G1 D.nx) λx G1=>D.ex x ς G1):=by
 refine(jno hp hc hi hg hb hs).imp λD σ H ⟨De,ς,G,hς,hG,h,ld⟩=>?_;refine⟨ς,G,_,_,hς,hG,h,λxs ok G1 H1 J hG1 f1 wk h1=>?_,ld.lx hς hG⟩;refine⟨λi m σ' H'=>m=xs.length-i/\i<=xs.length/\∃ς' G',SR X.K H' ς' σ'/\HR X.K H' G'/\Fr H1 G1 H' G'/\forL ok (λx ς1 G2 k=>tgU g x ς1 λς2=>tb { De with nx:=k } ς2 G2) (xs.drop i) ς' G' De.nx,⟨xs.length,by simp,Ybh _,ς,G1,hς.ts (f1.ts hG),hG1,Fr.refl _ _,by simp_all⟩,?_⟩
 rintro i m σ' H' ⟨rfl,hi',ς',G',sr,hr,f,hc'⟩;by_cases hlt:i<xs.length
 ·rw[Ybi hlt]at hc';obtain⟨hok,hb'⟩:=hc';obtain⟨w1,_⟩:=wk i H' G' (f.ts hG1) hr hok;obtain⟨go,yl⟩:=w1 xs[i] (by simp[hlt])
  refine .inr ⟨go,λσ2 H2=>∃ς2 G2,SR X.K H2 ς2 σ2/\HR X.K H2 G2/\Fr H1 G1 H2 G2/\forL ok (λx ς1 G2 k=>tgU g x ς1 λς2=>tb { De with nx:=k } ς2 G2) (xs.drop (i+1)) ς2 G2 De.nx,λσ2 H2 q=>⟨xs.length-(i+1),by lia,rfl,hlt,q⟩,λv H'' y=>?_⟩
  obtain⟨rx,hr2,f2⟩:=yl v H'' y;refine⟨xs[i],ς',_,rx,sr.ts (f2.ts hr),hb',λς2 σ2 hs2 hk=>?_⟩;have f3:=(f1.trans f).trans f2;refine⟨_,ς2,G',hs2,hr2,hk,(ld.fr f3).with (λς3 σ3 G3 H3 a b c d=>⟨ς3,G3,a,b,(f.trans f2).trans c,d⟩) rfl⟩
 ·have e:i=xs.length:=by lia
  subst e;rw[Ygr]at hc';obtain⟨hok,q⟩:=hc';exact .inl ⟨(wk xs.length H' G' (f.ts hG1) hr hok).2 rfl,ld.nx ς' σ' G' H' sr hr (f1.trans f) q⟩
end
structure Ctx where
 N:List Str
 sc:List (Str×YbB)
noncomputable def kd  (c:Ctx)(x:Str)(k:YbB):Bool:=c.sc.lookup x==some k
noncomputable def glo  (c:Ctx)(x:Str):Bool:=kd c x .globalImplicit && !(x==("__debug__" : Str))
noncomputable def nm1  : Expr->List Str
 |.Name x _=>[x]
 |_=>[]
noncomputable def nm2  : Expr->List Str
 |.Tuple es _ _=>es.flatMap nm1
 |e=>nm1 e
noncomputable def jk9  : Expr->List Str
 |.Tuple es _ _=>es.flatMap nm2
 |e=>nm1 e
noncomputable def jhx  : List String:=["bool", "int", "str", "list", "tuple", "dict"]
noncomputable def cOkS  (c:Ctx)(N:List Str)(pick:List (Option Nat))(scope:Scope):Bool:=
 decide (scope.kind=.function)&&scope.names.all (λy=>y.2 != .cell||scope.names.lookup y.1==some .cell)&&scope.names.all (λy=>y.2 != .local||scope.names.lookup y.1==some .local)
  && scope.names.all (λy=>y.2 != .free||(scope.names.lookup y.1==some .free&&(kd c y.1 .cell||kd c y.1 .free)))
  && pick.length==N.length&&(N.zip pick).all (λp=>match p.2 with|none=>true|some j=>c.N[j]?==some p.1&&scope.names.lookup p.1==some .free)&&decide N.Nodup
noncomputable def jky  : Expr->Bool
 |.Call (.Name _ _) [] [] _=>false
 |_=>true
noncomputable def e0  : Expr:=.Name "" ⟨0,0,0,0⟩
noncomputable def hd  : List Expr->Expr
 |[]=>e0
 |e::_=>e
noncomputable def c0  : Expr->Expr
 |.BinOp l _ _ _=>l
 |.UnaryOp _ x _=>x
 |.IfExp t _ _ _=>t
 |.Compare l _ _ _=>l
 |.Subscript v _ _=>v
 |.Attribute v _ _=>v
 |.Call f _ _ _=>f
 |.ListComp e _ _ _=>e
 |.FormattedValue v _ _ _=>v
 |_=>e0
noncomputable def c1  : Expr->Expr
 |.BinOp _ _ r _=>r
 |.IfExp _ b _ _=>b
 |.Subscript _ s _=>s
 |_=>e0
noncomputable def c2  : Expr->Expr
 |.IfExp _ _ b _=>b
 |_=>e0
noncomputable def cl  : Expr->List Expr
 |.BoolOp _ vs _=>vs
 |.Compare _ _ vs _=>vs
 |.Call _ vs _ _=>vs
 |.List vs _=>vs
 |.Tuple vs _ _=>vs
 |.Dict _ vs _=>vs
 |.JoinedStr vs _=>vs
 |_=>[]
noncomputable def kk  : Expr->Nat
 |.Constant _ k _=>k
 |.Tuple _ k _=>k
 |_=>0
noncomputable def oe  : Option Expr->Expr
 |some e=>e
 |none=>e0
noncomputable def dk  : Expr->List Expr
 |.Dict ks _ _=>ks.map oe
 |_=>[]
noncomputable def gen1  : Expr->Yex
 |.ListComp _ (g::_) _ _=>g
 |_=>⟨e0,e0,[],0⟩
noncomputable def scp  : Expr->Scope
 |.ListComp _ _ s _=>s
 |_=>⟨.module,[],false,false,[]⟩
noncomputable def s0  : Expr->Expr
 |.Slice (some e) _ _ _=>e
 |_=>e0
noncomputable def s1  : Expr->Expr
 |.Slice _ (some e) _ _=>e
 |_=>e0
noncomputable def s2  : Expr->Expr
 |.Slice _ _ (some e) _=>e
 |_=>e0
noncomputable def nmA  (c:Ctx)(i:Nat):Str:=c.N.getD i ""
noncomputable def boU  : Bool->PySem.BoolOp
 |true=>.And
 |false=>.Or
noncomputable def jcp  : Es->Nat
 |.nil=>0
 |.cons _ es=>jcp es+1
noncomputable def jeO  : Tgs->Nat
 |.nil=>0
 |.cons _ ts=>jeO ts+1
noncomputable def isT  : Tg->Bool
 |.t _=>true
 |.n _=>false
noncomputable def isLc  : E->Bool
 |.lc ..=>true
 |_=>false
noncomputable def cc  (c:Ctx)(pick:List (Option Nat))(h:Expr):Ctx:=⟨jk9 (gen1 h).target++(pick.filterMap id).filterMap (λj=>c.N[j]?),(scp h).names⟩
mutual
noncomputable def unTg (c:Ctx):Tg->Expr->Expr
 |.n i,h=>.Name (nmA c i) h.pos
 |.t ts,h=>.Tuple (jd9 c ts (cl h)) (kk h) h.pos
noncomputable def jd9 (c:Ctx):Tgs->List Expr->List Expr
 |.nil,_=>[]
 |.cons t ts,hs=>unTg c t (hd hs)::jd9 c ts hs.tail
end
noncomputable def okN  (c:Ctx)(i:Nat):Bool:=decide (i<c.N.length)&&(kd c (nmA c i) .local||kd c (nmA c i) .cell)
mutual
noncomputable def okTg (c:Ctx):Tg->Bool
 |.n i=>okN c i
 |.t ts=>jjS c ts
noncomputable def jjS (c:Ctx):Tgs->Bool
 |.nil=>true
 |.cons t ts=>okTg c t&&jjS c ts
end
section
variable (T:Tab)
noncomputable def fnN (n:Nat):Str:=match T.funs[n]? with
 |some d=>d.name
 |none => ""
mutual
noncomputable def unE (c:Ctx):E->Expr->Expr
 |.v i,h=>.Name (nmA c i) h.pos
 |.non,h=>.Constant .none (kk h) h.pos
 |.bl b,h=>.Constant (.bool b) (kk h) h.pos
 |.int i,h=>.Constant (.int i) (kk h) h.pos
 |.str x,h=>.Constant (.str x) (kk h) h.pos
 |.g n,h=>.Name (T.gn.getD n "") h.pos
 |.ty n,h=>.Name (Ycp n) h.pos
 |.bin o a b,h=>.BinOp (unE c a (c0 h)) o (unE c b (c1 h)) h.pos
 |.neg a,h=>.UnaryOp .USub (unE c a (c0 h)) h.pos
 |.not a,h=>.UnaryOp .Not (unE c a (c0 h)) h.pos
 |.bop k a es,h=>.BoolOp (boU k) (unE c a (hd (cl h))::unEs c es (cl h).tail) h.pos
 |.cmp o a b,h=>.Compare (unE c a (c0 h)) [o] [unE c b (hd (cl h))] h.pos
 |.cmp2 o p a b d,h=>.Compare (unE c a (c0 h)) [o,p] [unE c b (hd (cl h)),unE c d (hd (cl h).tail)] h.pos
 |.ife t a b,h=>.IfExp (unE c t (c0 h)) (unE c a (c1 h)) (unE c b (c2 h)) h.pos
 |.tup es,h=>.Tuple (unEs c es (cl h)) (kk h) h.pos
 |.lst es,h=>.List (unEs c es (cl h)) h.pos
 |.dic es,h=>.Dict (unK c es (dk h)) (unV c es (cl h)) h.pos
 |.ix a b,h=>.Subscript (unE c a (c0 h)) (unE c b (c1 h)) h.pos
 |.sl a lo hi,h=>.Subscript (unE c a (c0 h)) (.Slice (unO c lo (s0 (c1 h))) (unO c hi (s1 (c1 h))) none (c1 h).pos) h.pos
 |.rev a b,h=>.Subscript (unE c a (c0 h)) (.Slice none none (some (unE c b (s2 (c1 h)))) (c1 h).pos) h.pos
 |.call n es,h=>.Call (.Name (fnN T n) (c0 h).pos) (unEs c es (cl h)) [] h.pos
 |.app i es,h=>.Call (.Name (nmA c i) (c0 h).pos) (unEs c es (cl h)) [] h.pos
 |.blt b es,h=>.Call (.Name (bltN b) (c0 h).pos) (unEs c es (cl h)) [] h.pos
 |.meth m o es,h=>.Call (.Attribute (unE c o (c0 (c0 h))) (mthN m) (c0 h).pos) (unEs c es (cl h)) [] h.pos
 |.lc pick t it ifs d,h=>.ListComp (unE (cc c pick h) d (c0 h)) [⟨unTg (cc c pick h) t (gen1 h).target,unI c it (gen1 h).iter,unEs (cc c pick h) ifs (gen1 h).ifs,0⟩] (scp h) h.pos
 |.mkD d,h=>.Call (.Name "list" (c0 h).pos) [unE c d (hd (cl h))] [] h.pos
 |.mkL d,h=>.Call (.Name "list" (c0 h).pos) [unE c d (hd (cl h))] [] h.pos
 |.mkT d,h=>.Call (.Name "tuple" (c0 h).pos) [unE c d (hd (cl h))] [] h.pos
noncomputable def unO (c:Ctx):Eo->Expr->Option Expr
 |.no,_=>none
 |.so d,h=>some (unE c d h)
noncomputable def unEs (c:Ctx):Es->List Expr->List Expr
 |.nil,_=>[]
 |.cons d es,hs=>unE c d (hd hs)::unEs c es hs.tail
noncomputable def unK (c:Ctx):Es->List Expr->List (Option Expr)
 |.cons d (.cons _ es),hs=>some (unE c d (hd hs))::unK c es hs.tail
 |_,_=>[]
noncomputable def unV (c:Ctx):Es->List Expr->List Expr
 |.cons _ (.cons d es),hs=>unE c d (hd hs)::unV c es hs.tail
 |_,_=>[]
noncomputable def unF (c:Ctx):Es->List Expr->List Expr
 |.nil,_=>[]
 |.cons d es,hs=>(match d with
  |.str x=>.Constant (.str x) (kk (hd hs)) (hd hs).pos
  |d=>.FormattedValue (unE c d (c0 (hd hs))) (-1) none (hd hs).pos)::unF c es hs.tail
noncomputable def unI (c:Ctx):It->Expr->Expr
 |.e d,h=>unE c d h
 |.r1 d,h=>.Call (.Name "range" (c0 h).pos) [unE c d (hd (cl h))] [] h.pos
 |.r2 a b,h=>.Call (.Name "range" (c0 h).pos) [unE c a (hd (cl h)),unE c b (hd (cl h).tail)] [] h.pos
 |.enum d,h=>.Call (.Name "enumerate" (c0 h).pos) [unE c d (hd (cl h))] [] h.pos
 |.s d,h=>unE c d h
end
mutual
noncomputable def okE (c:Ctx):E->Expr->Bool
 |.v i,_=>decide (i<c.N.length)&&(kd c (nmA c i) .local||kd c (nmA c i) .cell||kd c (nmA c i) .free) && !(nmA c i==("__debug__" : Str)) && !(nmA c i==("__classdict__" : Str))
 |.non,_=>true
 |.bl _,_=>true
 |.int _,_=>true
 |.str _,_=>true
 |.g n,_=>decide (n<T.gs.length)&&decide (n<T.gn.length)&&glo c (T.gn.getD n "")
 |.ty n,_=>jhx.contains n&&glo c (Ycp n)
 |.bin _ a b,h=>okE c a (c0 h)&&okE c b (c1 h)
 |.neg a,h=>okE c a (c0 h)
 |.not a,h=>okE c a (c0 h)
 |.bop _ a es,h=>okE c a (hd (cl h))&&okEs c es (cl h).tail
 |.cmp o a b,h=>okE c a (c0 h)&&okE c b (hd (cl h)) && !behindInMarks o (unE T c b (hd (cl h)))
 |.cmp2 o p a b d,h=>okE c a (c0 h)&&okE c b (hd (cl h))&&okE c d (hd (cl h).tail) && !lastMarks [o,p] [unE T c b (hd (cl h)),unE T c d (hd (cl h).tail)]
 |.ife t a b,h=>okE c t (c0 h)&&okE c a (c1 h)&&okE c b (c2 h)
 |.tup es,h=>okEs c es (cl h)
 |.lst es,h=>okEs c es (cl h)
 |.dic es,h=>okD c es (dk h) (cl h)&&decide (jcp es<=30)
 |.ix a b,h=>okE c a (c0 h)&&okE c b (c1 h)
 |.sl a lo hi,h=>okE c a (c0 h)&&okO c lo (s0 (c1 h))&&okO c hi (s1 (c1 h))
 |.rev a b,h=>okE c a (c0 h)&&okE c b (s2 (c1 h))
 |.call n es,h=>decide (n<T.funs.length)&&glo c (fnN T n)&&okEs c es (cl h)
 |.app i es,h=>decide (i<c.N.length)&&(kd c (nmA c i) .local||kd c (nmA c i) .cell||kd c (nmA c i) .free) && !(nmA c i==("__debug__" : Str)) && !(nmA c i==("__classdict__" : Str))&&okEs c es (cl h)
 |.blt b es,h=>decide (0<jcp es)&&glo c (bltN b)&&okEs c es (cl h)
 |.meth _ o es,h=>okE c o (c0 (c0 h))&&okEs c es (cl h)&&((c0 h).pos.endLine==h.pos.line)&&decide (jcp es<30)&&jky (unE T c o (c0 (c0 h)))
 |.lc pick t it ifs d,h=>cOkS c (cc c pick h).N pick (scp h)&&(tgS t).all (λi=>(pick[i]?).join.isNone)&&okTg (cc c pick h) t&&okI c t it (gen1 h).iter&&okEs (cc c pick h) ifs (gen1 h).ifs&&decide (jcp ifs<=1)&&okE (cc c pick h) d (c0 h)
 |.mkD d,h=>glo c "list" && okE c d (hd (cl h))
 |.mkL d,h=>glo c "list" && okE c d (hd (cl h))
 |.mkT d,h=>glo c "tuple" && okE c d (hd (cl h))
noncomputable def okO (c:Ctx):Eo->Expr->Bool
 |.no,_=>true
 |.so d,h=>okE c d h
noncomputable def okEs (c:Ctx):Es->List Expr->Bool
 |.nil,_=>true
 |.cons d es,hs=>okE c d (hd hs)&&okEs c es hs.tail
noncomputable def okD (c:Ctx):Es->List Expr->List Expr->Bool
 |.nil,_,_=>true
 |.cons d (.cons f es),hs,gs=>okE c d (hd hs)&&okE c f (hd gs)&&okD c es hs.tail gs.tail
 |.cons _ .nil,_,_=>false
noncomputable def okF (c:Ctx):Es->List Expr->Bool
 |.nil,_=>true
 |.cons d es,hs=>(match d with
  |.str x=>decide (x.length<=10000)
  |d=>okE c d (c0 (hd hs)))&&okF c es hs.tail
noncomputable def okI (c:Ctx)(t:Tg):It->Expr->Bool
 |.e d,h=>okE c d h
 |.r1 d,h=>glo c "range" && okE c d (hd (cl h))
 |.r2 a b,h=>glo c "range" && okE c a (hd (cl h))&&okE c b (hd (cl h).tail)
 |.enum d,h=>isT t&&glo c "enumerate" && okE c d (hd (cl h))
 |.s d,h=>okE c d h
end
noncomputable def jko  (ts:List Expr):Nat:=(ts.head?.map (·.pos.line)).getD 0
noncomputable def jaW  (c:Ctx)(ts:List Expr):List Str:=ts.filterMap fun
  |.Name id pos=>if c.sc.lookup id==some .local&&pos.line==jko ts then some id else none
  |_=>none
noncomputable def jix  : Expr->Bool
 |.Starred ..=>true
 |_=>false
noncomputable def jck  (c:Ctx)(ts vs:List Expr):Bool:=
 !(ts.length==2||ts.length==3)||vs.length != ts.length||(!(vs.any jix)&&((jaW c ts).length != ts.length||(jaW c ts).eraseDups.length != (jaW c ts).length||vs.all (foldedForSure 8)))
noncomputable def lcSw  (c:Ctx)(y:Str)(py p:Pos)(s:Scope):Bool:=c.sc.lookup y==some .local&&py.line==p.line && !(s.names.any λ(n,k)=>n==y&&(k == .local||k == .cell))
noncomputable def q0  : Stmt->Expr
 |.Expr e _=>e
 |.Assign _ e _=>e
 |.Return (some e) _=>e
 |.AugAssign _ _ e _=>e
 |.If e _ _ _=>e
 |.While e _ _ _=>e
 |.For _ e _ _ _=>e
 |_=>e0
noncomputable def q1  : Stmt->Expr
 |.Assign (t::_) _ _=>t
 |.AugAssign t _ _ _=>t
 |.For t _ _ _ _=>t
 |_=>e0
noncomputable def qr  : Stmt->Expr
 |.Raise (some e) _ _=>e
 |_=>e0
noncomputable def hTy  : Stmt->Expr
 |.Try _ (.ExceptHandler (some t) _ _ _::_) _ _ _=>t
 |_=>e0
noncomputable def hBd  : Stmt->List Stmt
 |.Try _ (.ExceptHandler _ _ b _::_) _ _ _=>b
 |_=>[]
noncomputable def hPs  : Stmt->Pos
 |.Try _ (.ExceptHandler _ _ _ p::_) _ _ _=>p
 |_=>⟨0,0,0,0⟩
noncomputable def qa  : Stmt->List Stmt
 |.Try a _ _ _ _=>a
 |.If _ a _ _=>a
 |.While _ a _ _=>a
 |.For _ _ a _ _=>a
 |_=>[]
noncomputable def qb  : Stmt->List Stmt
 |.If _ _ b _=>b
 |_=>[]
noncomputable def qh  : List Stmt->Stmt
 |[]=>.Pass ⟨0,0,0,0⟩
 |s::_=>s
noncomputable def unCs  : List Nat->List Expr->List Expr
 |[],_=>[]
 |k::ks,hs=>.Name (clsN k) (hd hs).pos::unCs ks hs.tail
section
variable (c:Ctx)(n:Nat)
noncomputable def unHL:HL->Expr->Expr
 |.v i,h=>.Name (nmA c i) h.pos
 |.isiV,h=>.Call (.Name "isinstance" (c0 h).pos) [.Name (nmA c n) (hd (cl h)).pos,.Name "ValueError" (hd (cl h).tail).pos] [] h.pos
 |.is1 k,h=>.Call (.Name "isinstance" (c0 h).pos) [.Name (nmA c n) (hd (cl h)).pos,.Name (clsN k) (hd (cl h).tail).pos] [] h.pos
 |.isi ks,h=>.Call (.Name "isinstance" (c0 h).pos) [.Name (nmA c n) (hd (cl h)).pos,.Tuple (unCs ks (cl (hd (cl h).tail))) (kk (hd (cl h).tail)) (hd (cl h).tail).pos] [] h.pos
noncomputable def jfC:Bool×HL->Expr->Expr
 |(true,l),h=>.UnaryOp .Not (unHL c n l (c0 h)) h.pos
 |(false,l),h=>unHL c n l h
noncomputable def jgl:List (Bool×HL)->List Expr->List Expr
 |[],_=>[]
 |a::r,hs=>jfC c n a (hd hs)::jgl r hs.tail
noncomputable def jgm (k:Bool)(a:Bool×HL):List (Bool×HL)->Expr->Expr
 |[],h=>jfC c n a h
 |b::r,h=>.BoolOp (boU k) (jfC c n a (hd (cl h))::jgl c n (b::r) (cl h).tail) h.pos
noncomputable def unHA:HA->Expr->Expr
 |.str x,h=>.Constant (.str x) (kk h) h.pos
 |.att f,h=>.Attribute (.Name (nmA c n) (c0 h).pos) f h.pos
noncomputable def jjh:List HA->List Expr->List Expr
 |[],_=>[]
 |a::r,hs=>unHA c n a (hd hs)::jjh r hs.tail
noncomputable def unHV:HV->Expr->Expr
 |.cond k a as,h=>jgm c n k a as h
 |.one a,h=>unHA c n a h
 |.bl b,h=>.Constant (.bool b) (kk h) h.pos
 |.tup as,h=>.Tuple (jjh c n as (cl h)) (kk h) h.pos
 |.lst as,h=>.List (jjh c n as (cl h)) h.pos
noncomputable def jk2 (i:Nat)(e:HV)(h:Stmt):Stmt:=.Assign [.Name (nmA c i) (q1 h).pos] (unHV c n e (q0 h)) h.pos
noncomputable def unHS:HS->Stmt->Stmt
 |.asg i e,h=>jk2 c n i e h
 |.ifa k a as i e,h=>.If (jgm c n k a as (q0 h)) [jk2 c n i e (qh (qa h))] [] h.pos
noncomputable def jfD:List HS->List Stmt->List Stmt
 |[],_=>[]
 |s::r,hs=>unHS c n s (qh hs)::jfD r hs.tail
end
section
variable (cs:List Nat)(c:Ctx)
noncomputable def okC (k:Nat):Bool:=decide (1<=k)&&decide (k<6)&&cs.contains k&&glo c (clsN k)
noncomputable def okHL:HL->Bool
 |.v i=>decide (i<c.N.length)&&(kd c (nmA c i) .local||kd c (nmA c i) .cell||kd c (nmA c i) .free) && !(nmA c i==("__debug__" : Str)) && !(nmA c i==("__classdict__" : Str))
 |.isiV=>glo c "isinstance" && glo c "ValueError"
 |.is1 k=>glo c "isinstance" && okC cs c k
 |.isi ks=>glo c "isinstance" && ks.all (okC cs c)&&decide (ks.length<=8)
noncomputable def jda (as:List (Bool×HL)):Bool:=as.all λp=>okHL cs c p.2
noncomputable def okHA  : HA->Bool
 |.str _=>true
 |.att f=>fldN.contains f
noncomputable def okHV:HV->Bool
 |.cond _ a as=>okHL cs c a.2&&jda cs c as
 |.one a=>okHA a
 |.bl _=>true
 |.tup as=>as.all okHA&&decide (as.length<=8)
 |.lst as=>as.all okHA&&decide (as.length<=8)
noncomputable def okHS (n:Nat):HS->Bool
 |.asg i e=>okN c i&&decide (i≠n)&&okHV cs c e
 |.ifa _ a as i e=>okHL cs c a.2&&jda cs c as&&okN c i&&decide (i≠n)&&okHV cs c e
end
mutual
noncomputable def unS (c:Ctx):S->Stmt->Stmt
 |.expr d,h=>.Expr (unE T c d (q0 h)) h.pos
 |.asg t d,h=>.Assign [unTg c t (q1 h)] (unE T c d (q0 h)) h.pos
 |.unp ts d,h=>.Assign [.Tuple (jd9 c ts (cl (q1 h))) (kk (q1 h)) (q1 h).pos] (unE T c d (q0 h)) h.pos
 |.asgC i d,h=>.Assign [.Name (nmA c i) (q1 h).pos] (unE T c d (q0 h)) h.pos
 |.setS o i d,h=>.Assign [.Subscript (unE T c o (c0 (q1 h))) (unE T c i (c1 (q1 h))) (q1 h).pos] (unE T c d (q0 h)) h.pos
 |.ite t a b,h=>.If (unE T c t (q0 h)) (unSs c a (qa h)) (unSs c b (qb h)) h.pos
 |.fr t it b,h=>.For (unTg c t (q1 h)) (unI T c it (q0 h)) (unSs c b (qa h)) [] h.pos
 |.ret d,h=>.Return (some (unE T c d (q0 h))) h.pos
 |.raise k es,h=>.Raise (some (.Call (.Name (clsN k) (c0 (qr h)).pos) (unEs T c es (cl (qr h))) [] (qr h).pos)) none h.pos
 |.tr b k n hs,h=>.Try (unSs c b (qa h)) [.ExceptHandler (some (.Name (clsN k) (hTy h).pos)) (some (nmA c n)) (jfD c n hs (hBd h)) (hPs h)] [] [] h.pos
noncomputable def unSs (c:Ctx):Ss->List Stmt->List Stmt
 |.nil,_=>[]
 |.cons s r,hs=>unS c s (qh hs)::unSs c r hs.tail
end
noncomputable def okA (c:Ctx):Tg->E->Stmt->Bool
 |.n i,.lc ..,_=>!(kd c (nmA c i) .local)
 |.t _,.lc ..,_=>false
 |.t ts,.tup es,h=>jck c (jd9 c ts (cl (q1 h))) (unEs T c es (cl (q0 h)))
 |_,_,_=>true
mutual
noncomputable def okS (c:Ctx):S->Stmt->Bool
 |.expr d,h=>okE T c d (q0 h) && !isLc d
 |.asg t d,h=>okE T c d (q0 h)&&okTg c t&&okA T c t d h
 |.unp ts d,h=>okE T c d (q0 h)&&jjS c ts&&okA T c (.t ts) d h
 |.asgC i d,h=>isLc d&&okE T c d (q0 h)&&decide (i<c.N.length)&&lcSw c (nmA c i) (q1 h).pos (q0 h).pos (scp (q0 h))
 |.setS o i d,h=>okE T c d (q0 h)&&okE T c o (c0 (q1 h))&&okE T c i (c1 (q1 h))
 |.ite t a b,h=>okE T c t (q0 h)&&okSs c a (qa h)&&okSs c b (qb h)
 |.fr t it b,h=>okTg c t&&okI T c t it (q0 h)&&okSs c b (qa h)
 |.ret d,h=>okE T c d (q0 h)
 |.raise k es,h=>okC T.cs c k&&decide (0<jcp es)&&okEs T c es (cl (qr h))
 |.tr b k n hs,h=>okSs c b (qa h)&&decide (k=0)&&glo c (clsN k)&&decide (n<c.N.length)&&kd c (nmA c n) .local && !(nmA c n==("__debug__" : Str)) && !(nmA c n==("__classdict__" : Str)) && !hs.isEmpty&&hs.all (okHS T.cs c n)
noncomputable def okSs (c:Ctx):Ss->List Stmt->Bool
 |.nil,_=>true
 |.cons s r,hs=>okS c s (qh hs)&&okSs c r hs.tail
end
end
def lSp  (K:Yab)(t:List U->Gp->K1->KX->Prop):Sp:=λvs H Q0 E0=>∃us G Q E,RUs K H us vs/\HR K H G/\t us G Q E/\(∀w v G' H',RU K H' w v->HR K H' G'->Fr H G H' G'->Q w G'->Q0 v H')/\
 ∀x G' H' C dx,XD K H' C dx x->HR K H' G'->Fr H G H' G'->E x G'->E0 (.ref C) (some dx) H'
def FnU  (P:Program)(w:World)(K:Yab)(mg:Str->Option Value)(base:Heap)(k:Nat)(d:Fun)(t:List U->Gp->K1->KX->Prop):Prop:=
 ∃(f:Addr) (fd:Ye7),FnOk P w K mg base (CX1 P w) (k+2) f fd d.ps (lSp K t)/\mg d.name=some (.ref f)/\Ybl K (.ref f)=true/\Binds K fd d.ps []
noncomputable def jcb  : List Str:=["len", "repr", "min", "max", "sum", "all", "any", "sorted", "int", "str", "isinstance", "range", "enumerate", "list", "tuple", "bool", "dict", "ValueError", "set", "zip"]
structure Cok (T:Tab)(k:Nat)(X:Cx)(c:Ctx):Prop where
 hN:X.N=c.N
 nd:c.N.Nodup
 loc:∀x,kd c x .local=true->X.env.scope.names.lookup x=some .local
 cel:∀x,kd c x .cell=true->X.env.scope.names.lookup x=some .cell/\X.fn x=true
 fre:∀x,kd c x .free=true->X.env.scope.names.lookup x=some .cell\/X.env.scope.names.lookup x=some .free
 glb:∀x,kd c x .globalImplicit=true->Gl X x
 room:Room k X.A
 calm:X.calm=true
 po:Yes (model X.prog X.w) X.A X.env X.xe
 blt:∀x∈jcb,X.mg x=none
 fns:∀(n:Nat) (d:Fun),T.funs[n]?=some d->FnU X.prog X.w X.K X.mg X.base k d (jac T k n)
 gls:∀(n:Nat) (x:Str) (u:U),T.gn[n]?=some x->T.gs[n]?=some u->∃v w,X.mg x=some w/\RelV v w/\∀H,RU X.K H u v
 room2:Room (k+2) X.A
 cls:∀n∈T.cs,1<=n->∃C,XCls X.K (gK X.K) (clsN n) (clsF n) C
 mgK:∀x v,gK X.K x=some v->X.mg x=some v
structure Cos (T:Tab)(k:Nat)(X:Cx)(c:Ctx):Prop extends Cok T k X c where
 sc:X.env.scope.names=c.sc
 kind:X.env.scope.kind=.function
 stk:X.stack=X.env::X.outer/\X.env.frame=some X.env.locals
section
variable {T:Tab}{k:Nat}{X:Cx}{c:Ctx}
def Cok.hu  (h:Cok T k X c):X.A.units+1<cLine:=jp5 h.room
def Cok.vis  (h:Cok T k X c)(v:(kd c x .local||kd c x .cell||kd c x .free)=true):Vis X.env.scope x:=by
 simp only[Yb8]at v;rcases v with(v|v)|v
 ·exact .inl (h.loc x v)
 ·exact .inr (.inl (h.cel x v).1)
 ·rcases h.fre x v with z|z
  ·exact .inr (.inl z)
  ·exact .inr (.inr z)
def Cok.store  (h:Cok T k X c)(v:(kd c x .local||kd c x .cell)=true):Loc X.env.scope x/\(X.fn x=true\/X.env.scope.names.lookup x=some .local):=by
 simp only[Yb8]at v;rcases v with v|v
 ·exact⟨.inl (h.loc x v),.inr (h.loc x v)⟩
 ·exact⟨.inr (h.cel x v).1,.inl (h.cel x v).2⟩
def Cok.gl  (h:Cok T k X c)(v:glo c x=true):Gl X x/\(x==("__debug__" : Str))=false:=by
 unfold glo at v;rw[Yao]at v;exact⟨h.glb x v.1,by lia⟩
end
noncomputable def jfh  : Expr->Bool
 |.BoolOp ..|.BinOp ..|.UnaryOp ..|.IfExp ..|.Dict ..|.ListComp ..|.Compare ..|.Call ..|.Constant ..|.Subscript ..|.Name ..|.List ..|.Tuple ..|.JoinedStr ..=>true
 |_=>false
section
variable {T:Tab}{c:Ctx}
def jar   ir h:jfh (unE T c ir h)=true:=by cases ir<;>rfl
def jah   (h:jfh e=true) es env:Yax (e::es) env=(false,eval e env)::Yax es env:=by
 cases e<;>first|rfl|cases h
def jmk   (h:jfh e=true):jgi e:=by
 intro o i;cases e<;>first|rfl|cases h
def jb7   (h:jfh e=true) env:∀x,Ya4 e env x=pure x:=by
 intro x;cases e<;>first|rfl|cases h
def jk0   it h env:∀x,Ya4 (unI T c it h) env x=pure x:=by
 cases it with
 |e d=>exact jb7 (jar d _) env
 |s d=>exact jb7 (jar d _) env
 |_=>exact λ_=>rfl
def jj4   (h:jfh i=true) env tpos:∀v,assign (.Subscript o i tpos) env v=(holding [v] (eval o env) >>= λa=>holding [v,a] (eval i env) >>= λb=>standAt tpos >>= λ_=>holding [v,a,b] (setItem a b v) >>= λ_=>release [v,a,b] []):=by
 intro v;cases i<;>first|rfl|cases h
def jk1   (q:isLc ir=false) h env l:Ycr (unE T c ir h) none l env=pure false:=by
 cases ir<;>first|rfl|cases q
def jkZ   (q:isLc ir=false) h tg env l:YbH [tg] (unE T c ir h) l env=pure false:=by
 cases ir<;>first|rfl|cases q
def jkh   ir h x y p env l:YbH [.Subscript x y p] (unE T c ir h) l env=pure false/\Ybs [.Subscript x y p] (unE T c ir h) env=pure none:=by
 cases ir<;>exact⟨rfl,rfl⟩
def joU   ir h x p env:Ybs [.Name x p] (unE T c ir h) env=pure none:=by
 cases ir<;>rfl
def jhv   t h env:(YaZ [unTg c t h] env).map (·.2)=[assign (unTg c t h) env]:=by
 cases t<;>rfl
def jja   (h:jky o=true) m env w:YcV o m env w=w:=by
 unfold YcV;split
 ·cases h
 ·rfl
theorem jcd  : ∀es hs env pos ,(backTo pos (Yax (unEs T c es hs) env)).any (·.1)=false/\(backTo pos (Yax (unEs T c es hs) env)).all (λx=>!x.1)=true
 |.nil,_,_,_=>⟨rfl,rfl⟩
 |.cons d es,hs,env,pos=>by
  obtain⟨h1,h2⟩:=jcd es hs.tail env pos;show(backTo pos (Yax (unE T c d (hd hs)::unEs T c es hs.tail) env)).any (·.1)=false/\(backTo pos (Yax (unE T c d (hd hs)::unEs T c es hs.tail) env)).all (λx=>!x.1)=true;rw[jah (jar d _)];exact⟨by show(false||(backTo pos (Yax (unEs T c es hs.tail) env)).any (·.1))=false;lia,by show(!false&&(backTo pos (Yax (unEs T c es hs.tail) env)).all (λx=>!x.1))=true;lia⟩
theorem jki  : ∀es hs ,(unEs T c es hs).length=jcp es
 |.nil,_=>rfl
 |.cons _ es,hs=>congrArg (·+ 1) (jki es hs.tail)
def ba   (h:(a&&b)=true):a=true/\b=true:=by lia
def bn   (h:(!a)=true):a=false:=by lia
def jib   (h:decide (i<c.N.length)=true):c.N[i]?=some (nmA c i):=by
 unfold nmA
 simp_all
end
theorem jfF  : ∀{ts } {us } {ς } {k },tgsU ts us ς k->us.length=jeO ts
 |.nil,us,ς,k,h=>by rw[h.1];rfl
 |.cons t ts,us,ς,k,h=>by
  cases us with
  |nil=>exact h.elim
  |cons u r=>
   have:∃ς',tgsU ts r ς' k:=tg_some h;obtain⟨ς',h'⟩:=this;show r.length+1=jeO ts+1;rw[jfF h']
where
 tg_some {t:Tg} {u:U} {ς:Sg} {P:Sg->Prop} (h:tgU t u ς P):∃ς',P ς':=by
  have:=jec (k':=λ_=>∃ς',P ς') h λς' h'=>⟨ς',h'⟩;exact tg_const this
 tg_const:∀{t:Tg} {u:U} {ς:Sg} {P:Prop},tgU t u ς (λ_=>P)->P
  |.n _,_,_,_,h=>h
  |.t ts,u,ς,P,h=>by
   cases u with
   |tup us=>exact tgs_const (ts:=ts) (us:=us) h
   |_=>exact h.elim
 tgs_const:∀{ts:Tgs} {us:List U} {ς:Sg} {P:Prop},tgsU ts us ς (λ_=>P)->P
  |.nil,_,_,_,h=>h.2
  |.cons t ts,us,ς,P,h=>by
   cases us with
   |nil=>exact h.elim
   |cons u r=>exact tg_const (jec (t:=t) h λς' h'=>tgs_const h')
section
variable {T:Tab}{k:Nat}{X:Cx}{c:Ctx}
theorem jcZ  : ∀ts hs env ,(YaZ (jd9 c ts hs) env).length=jeO ts/\(YaZ (jd9 c ts hs) env).findIdx? (·.1)=none
 |.nil,_,_=>⟨rfl,rfl⟩
 |.cons t ts,hs,env=>by
  obtain⟨h1,h2⟩:=jcZ ts hs.tail env;have e:YaZ (jd9 c (.cons t ts) hs) env=(false,assign (unTg c t (hd hs)) env)::YaZ (jd9 c ts hs.tail) env:=by cases t<;>rfl
  rw[e];exact⟨by simp[h1,jeO],by simp_all⟩
def Cok.nm   (C:Cok T k X c)(h:decide (i<c.N.length)=true):X.N[i]?=some (nmA c i):=by rw[C.hN];exact jib h
mutual
theorem sTg (C:Cok T k X c):∀(t:Tg) (h:Expr),okTg c t=true->PG X (unTg c t h) (lG X.K (tgU t))
 |.n _,_,q=>let s:=C.store (ba q).2;u_tn (by rw[C.hN];exact C.nd) (C.nm (ba q).1) s.1 s.2
 |.t ts,h,q=>u_tt C.calm (sTgs C ts (cl h) q) (jcZ ts _ X.env).1 (jcZ ts _ X.env).2 λus ς k q=>jfF q
theorem sTgs (C:Cok T k X c):∀(ts:Tgs) (hs:List Expr),jjS c ts=true->PGs X (jd9 c ts hs) (lGs X.K (tgsU ts))
 |.nil,_,_=>joX
 |.cons t ts,hs,q=>joY (sTg C t (hd hs) (ba q).1) (sTgs C ts hs.tail (ba q).2) (by cases t<;>rfl)
end
def EB  (X:Cx)(σ:St):XK:=λcls dx H'=>∀(pins:List (Addr×Obj)) (ea:Addr) (s':Shared),Inv X pins σ H' s'->Lies X.s₀.heap.objs.size X.pn H' s'.heap ea cls dx->X.xe (.ref ea) s'
def jhJ        {σ:St}(F:FnOk X.prog X.w X.K X.mg X.base (CX1 X.prog X.w) j f fd ps sp)(hr:Room j X.A)(hb:Binds X.K fd ps [])
  (I:Inv X pins σ H s) (r:Vals vs us) (h:sp vs H Q (EB X σ)):wpAny (model X.prog X.w) X.A (call (.ref f) us) (EP X pins σ Q) X.xe s:=by
 have hl:(us++[]).length=ps.length:=by rw[YbM,<- r.length];exact F.len _ _ _ _ h
 have hbs:=hb s us I.kIn hl;rw[YbM]at hbs;refine YdV (Ydg (F.run X.A X.stack s H ⟨us,[]⟩ us vs Q (EB X σ) hr I.env0 hbs r h) λr s' hq=>?_);cases r with
 |error e=>
  obtain⟨ea,H',cls,dx,rfl,I',l,q⟩:=CX1.back I hq;exact q pins ea s' I' l
 |ok fl=>
  cases fl with
  |ret u=>exact I.after hq
  |next=>exact YbJ hq
  |brk=>exact YbJ hq
  |cont=>exact YbJ hq
def jhF         {E:KX}(r:RUs X.K H us vs)(hG:HR X.K H G)(h:jac T k n us G Q E)(lv:LV X H G Q Q0)(lx:LX X σ H G E):lSp X.K (jac T k n) vs H Q0 (EB X σ):=
 ⟨us,G,Q,E,r,hG,h,lv,λx G' H' C dx xd hr f q pins ea s' I' l=>lx pins (.ref ea) s' x G' H' I' ⟨ea,C,dx,rfl,l,xd⟩ hr f q⟩
def jmM         (C:Cok T k X c)(hd:T.funs[n]?=some d)(hx:d.name=x)(hg:glo c x=true)(ha:PA X (e::es) (lA X ts))
  (he:Yax (e::es) X.env=(false,eval e X.env)::Yax es X.env) (hpl:(backTo pos (Yax es X.env)).any (·.1)=false) :
  PE X (.Call (.Name x p) (e::es) [] pos) (lE X λς G Q E=>ts ς G (λus G1=>jac T k n us G1 Q E) E):=by
 obtain⟨f,fd,F,hm,hk,hb⟩:=C.fns n d hd;obtain⟨g1,g2⟩:=C.gl hg;rw[hx]at hm;intro pins s σ H Q0 I ⟨ς,G,Q,E,hς,hG,h,lv,lx⟩;refine YbG (jcq I g1 hm ?_ g2);have h':lA X ts σ H λvs H1=>lSp X.K (jac T k n) vs H1 Q0 (EB X σ):=⟨ς,G,_,E,hς,hG,h,λus vs G1 H1 rs hG1 f1 h1=>jhF rs hG1 h1 (lv.fr f1) (lx.fr f1),lx⟩;refine YdC (h₀:=X.base) I.ok.mod.kin hk (thn (ha pos pins s σ H _ I h') λus s1 ⟨vs,H1,I1,r,q⟩=>⟨I1.kIn,?_⟩) he hpl;exact jhJ F C.room2 hb I1 r q
def jk5      (C:Cok T k X c)(hd:T.funs[n]?=some d)(hx:d.name=x)(hg:glo c x=true) :
  PE X (.Call (.Name x p) [] [] pos) (lE X λ_ G Q E=>jac T k n [] G Q E):=by
 obtain⟨f,fd,F,hm,hk,hb⟩:=C.fns n d hd;obtain⟨g1,g2⟩:=C.gl hg;rw[hx]at hm;intro pins s σ H Q0 I ⟨ς,G,Q,E,hς,hG,h,lv,lx⟩;refine YbG (jcq I g1 hm ?_ g2);exact PySem.W.callWith_K0 I.kIn hk (jhJ (us:=[]) (vs:=[]) F C.room2 hb I .nil (jhF (show RUs X.K H [] []from rfl) hG h lv lx))
def Cok.comp     (C:Cok T k X c)(h:cOkS c N pick scope=true):CScope X N pick scope/\∀cl A s₀ H₀ fp,Cok T k (jao X N scope cl A s₀ H₀ fp) ⟨N,scope.names⟩:=by
 unfold cOkS at h;simp only[Yao,decide_eq_true_eq]at h;obtain⟨⟨⟨⟨⟨⟨h1,h2⟩,h3⟩,h4⟩,h5⟩,h6⟩,h7⟩:=h;have cells:∀y∈scope.names,y.2=.cell->scope.names.lookup y.1=some .cell:=λy hy hc=>by
  grind
 refine⟨⟨h1,cells,λy hy hl=>?_,λy hy hf=>?_,by lia,λi j x e1 e2=>?_⟩,λcl A s₀ H₀ fp=>?_⟩
 ·grind
 ·have:=Ydk.mp h4 y hy;rw[hf]at this;simp only[bne_self_eq_false,Ye9,Yao,Yb8,beq_iff_eq]at this;refine⟨this.1,?_⟩;rcases this.2 with z|z
  ·exact .inl (C.cel _ z).1
  ·exact C.fre _ z
 ·have hz:(N.zip pick)[i]?=some (x,some j):=by rw[List.getElem?_zip_eq_some];exact⟨e1,e2⟩
  have:=Ydk.mp h6 _ (Ya2 hz);rw[C.hN]
  lia
 ·refine⟨rfl,h7,λx z=>?_,λx z=>?_,λx z=>?_,λx z=>?_,C.room,C.calm,Yes.never,C.blt,C.fns,C.gls,C.room2,C.cls,C.mgK⟩
  ·exact jaB (by decide) (eq_of_beq z)
  ·exact⟨jaB (by decide) (eq_of_beq z),z⟩
  ·exact jaY (eq_of_beq z)
  ·exact glc (eq_of_beq z)
end
end Z

namespace Z
open PySem L2

def HR.newX  (h:HR K H G)(e:H p=none):HR K (upd H p (.xd l)) G:=⟨λa o q=>by
 have m:=h a o q;obtain⟨ho,e2⟩:=m.there;exact m.keep (jad (jai e2 e)) (TS.new e),h.tab.new e⟩
def HR.xdNone  (h:HR K H G)(e:H a=some (.xd l)):G a=none:=by
 cases q:G a with
 |none=>rfl
 |some o=>
  have m:=h a o q;cases o with
  |lst us=>obtain⟨_,e2,_⟩:=m;lia
  |fro us=>obtain⟨_,_,e2,_⟩:=m;lia
  |dK us=>obtain⟨_,e2,_⟩:=m;lia
  |dT us=>obtain⟨_,e2,_⟩:=m;lia
  |frd _ us=>obtain⟨_,e2,_⟩:=m;lia
  |frk _ us=>obtain⟨_,e2,_⟩:=m;lia
def XD.fr    (h:XD K H C dx x)(hG:HR K H G)(f:Fr H G H' G'):XD K H' C dx x:=by
 obtain⟨h1,h2,h3,l,hl,hn,r⟩:=h;exact⟨h1,h2,h3,l,(f dx _ hl (hG.xdNone hl)).1,hn,r.ts (f.ts hG)⟩
def jiY  : ∀k<6,∀f∈clsF k,f∈fldN:=by decide +kernel
def jj9   k:∀f∈clsF k,f∈fldN:=by
 by_cases h:k<6
 ·exact jiY k h
 ·intro f hf;have:clsF k=[]:=by
   unfold clsF;rw[YaL,YcG (by show clsA.length<=k;simp only[clsA,Ybd,YcP];lia)];rfl
  simp_all
def jgW  : ∀i<6,∀j<6,clsN i=clsN j->i=j:=by decide +kernel
def jiX  : ∀i<6,1<=i->clsN i ≠ "PlanError" := by decide +kernel
section
variable {T:Tab}{k:Nat}{X:Cx}{c:Ctx}
def jgC    (h:okC cs c n=true):1<=n/\n<6/\n∈cs/\glo c (clsN n)=true:=by
 unfold okC at h
 simp_all
def s_raise       (C:Cok T k X c)(hn:okC T.cs c n=true)(ha:PA X (e::es) (lA X ts))(he:Yax (e::es) X.env=(false,eval e X.env)::Yax es X.env)(hpl:(backTo cpos (Yax es X.env)).any (·.1)=false) :
  PS X (.Raise (some (.Call (.Name (clsN n) p) (e::es) [] cpos)) none pos) (lS X λD ς G=>ts ς G (λus G1=>us.length=(clsF n).length/\D.ex ⟨n,us⟩ ς G1) λx G1=>D.ex x ς G1):=by
 obtain⟨n1,n2,n3,n4⟩:=jgC hn;obtain⟨Ca,cl⟩:=C.cls n n3 n1;obtain⟨g1,g2⟩:=C.gl n4;refine(jhQ (k:=k) cl (jj9 n) C.room2 g1 (C.mgK _ _ cl.m) ha g2 he hpl).imp λD σ H ⟨De,ς,G,hς,hG,h,ld⟩=>?_;refine⟨ς,G,_,_,hς,hG,h,λus vs G1 H1 rs hG1 f1 h1=>?_,ld.lx hς hG⟩;have hl:vs.length=(clsF n).length:=rs.length.symm.trans h1.1;refine⟨hl,λpins ea dx s' hd I l=>?_⟩;have f2:Fr H1 G1 (upd H1 dx (.xd ((clsF n).zip vs))) G1:=Fr.new hd;refine ld.ex pins (.ref ea) s' ⟨n,us⟩ ς σ G1 _ I ((hς.ts (f1.ts hG)).ts (f2.ts hG1)) ⟨ea,Ca,dx,rfl,l,n1,n2,cl,_,jag,?_,?_⟩ (hG1.newX hd) (f1.trans f2) h1.2
 ·exact Ygp (by lia)
 ·rw[List.map_snd_zip (by lia)]
  exact rs.ts (f2.ts hG1)
end
structure HC (T:Tab)(X:Cx)(c:Ctx)(n:Nat)(ea C dx:Addr)(x:XV):Prop where
 hN:X.N=c.N
 nd:c.N.Nodup
 loc:∀y,kd c y .local=true->X.env.scope.names.lookup y=some .local
 cel:∀y,kd c y .cell=true->X.env.scope.names.lookup y=some .cell/\X.fn y=true
 fre:∀y,kd c y .free=true->X.env.scope.names.lookup y=some .cell\/X.env.scope.names.lookup y=some .free
 glb:∀y,kd c y .globalImplicit=true->Gl X y
 blt:∀y∈jcb,X.mg y=none
 cls:∀n∈T.cs,1<=n->∃C,XCls X.K (gK X.K) (clsN n) (clsF n) C
 me:XCls X.K (gK X.K) (clsN x.c) (clsF x.c) C
 lo:1<=x.c
 hi:x.c<6
 pin:XPin X ea C dx
 mgK:∀y v,gK X.K y=some v->X.mg y=some v
 en:n<c.N.length/\kd c (nmA c n) .local=true/\(nmA c n==("__debug__" : Str))=false/\(nmA c n==("__classdict__" : Str))=false
structure HSt (X:Cx)(n:Nat)(ea C dx:Addr)(x:XV)(σ:St)(H:Hp)(ς:Sg)(G:Gp):Prop where
 sr:SR X.K H ς σ
 hr:HR X.K H G
 en:σ[n]?=some (some (.ref ea))
 xd:XD X.K H C dx x
def hB  (X:Cx)(n:Nat)(ea C dx:Addr)(x:XV)(f:Sg->Option Bool):TE:=λσ H Q=>∃ς G b,HSt X n ea C dx x σ H ς G/\f ς=some b/\∀H',HR X.K H' G->Fr H G H' G->Q (.bl b) H'
def hT  (X:Cx)(n:Nat)(ea C dx:Addr)(x:XV)(f:Sg->Option Bool):TT:=λσ H Q=>∃ς G b,HSt X n ea C dx x σ H ς G/\f ς=some b/\∀H',HR X.K H' G->Fr H G H' G->Q b H'
section
variable {T:Tab}{X:Cx}{c:Ctx}{n:Nat}{ea C dx:Addr}{x:XV}
def HSt.fr      (h:HSt X n ea C dx x σ H ς G)(hr:HR X.K H' G')(f:Fr H G H' G'):HSt X n ea C dx x σ H' ς G':=⟨h.sr.ts (f.ts h.hr),hr,h.en,h.xd.fr h.hr f⟩
def HC.pe  (h:HC T X c n ea C dx x):PE X (.Name (nmA c n) p) (tVar n):=by
 obtain⟨h1,h2,h3,h4⟩:=h.en;exact jbo (by rw[h.hN];exact jib (decide_eq_true h1)) (.inl (h.loc _ h2)) h3 h4
def HC.gl  (h:HC T X c n ea C dx x)(v:glo c y=true):Gl X y/\(y==("__debug__" : Str))=false:=by
 unfold glo at v;rw[Yao]at v;exact⟨h.glb y v.1,by lia⟩
def HC.ownC  (h:HC T X c n ea C dx x)(q:okC T.cs c m=true):∃C',XCls X.K (gK X.K) (clsN m) (clsF m) C'/\clsN m ≠ "PlanError" /\ ∀p,PE X (.Name (clsN m) p) (tC (.ref C')):=by
 obtain⟨m1,m2,m3,m4⟩:=jgC q;obtain⟨C',cl⟩:=h.cls m m3 m1;obtain⟨g1,g2⟩:=h.gl m4;exact⟨C',cl,jiX m m2 m1,λp=>jhW g1 (h.mgK _ _ cl.m) rfl g2⟩
theorem HC.pcs  (h:HC T X c n ea C dx x):∀{ks },ks.all (okC T.cs c)=true->∀hs ,∃(xs:List Str) (Cs:List Addr),xs=ks.map clsN/\XMany X (gK X.K) xs Cs/\Cs.length=ks.length/\PA X (unCs ks hs) (λ_ H Q=>Q (Cs.map .ref) H)
 |[],_,_=>⟨[],[],rfl,.nil,rfl,jc4⟩
 |m::ks,q,hs=>by
  simp only[YbE,Yao]at q;obtain⟨C',cl,np,pe⟩:=h.ownC q.1;obtain⟨xs,Cs,e,mn,ln,pa⟩:=h.pcs q.2 hs.tail;subst e;exact⟨_,C'::Cs,rfl,.cons cl np mn,by simp[ln],jaN (pe _) pa⟩
def jf2  : YbT "isinstance" = some (.builtin "isinstance"):=YdD
def HC.isiT  (h:HC T X c n ea C dx x)(g1:Gl X "isinstance")(g2:(("isinstance" : Str)==("__debug__" : Str))=false)(mn:XMany X (gK X.K) xs Cs)(pa:PA X es (λ_ H Q=>Q (Cs.map .ref) H)) :
  PE X (.Call (.Name "isinstance" p3) [.Name (nmA c n) p1,.Tuple es kq p2] [] p4) (λσ H Q=>σ[n]?=some (some (.ref ea))/\Cs.length<=8/\∀p,H p=none->(∃l,upd H p (.tup (Cs.map .ref)) dx=some (.xd l))/\Q (.bl (xs.contains (clsN x.c))) (upd H p (.tup (Cs.map .ref)))):=by
 have isn:X.mg "isinstance" = none:=h.blt _ (by decide)
 have a1:PA X [.Tuple es kq p2] _:=jaN (jhV pa) jc4 (jah rfl _ _);have a2:PA X [.Name (nmA c n) p1,.Tuple es kq p2] _:=jaN (h.pe) a1 (jah rfl _ _);have cr:=ji6 h.me mn h.pin;have hh:Yax [.Name (nmA c n) p1,.Tuple es kq p2] X.env=(false,eval (.Name (nmA c n) p1) X.env)::Yax [.Tuple es kq p2] X.env:=jah rfl _ _;have hp:(backTo p4 (Yax [.Tuple es kq p2] X.env)).any (·.1)=false:=by rw[jah rfl];rfl
 refine PE.imp (jcR (p:=p3) (pos:=p4) cr g1 isn jf2 a2 (by decide) g2 hh hp) λσ H Q ⟨e1,e2,k⟩=>?_
 refine⟨_,e1,?_,λp hp=>⟨p,rfl,jag,(k p hp).1,(k p hp).2⟩⟩;rw[Yae,YbX];lia
def HC.lit  (h:HC T X c n ea C dx x)(q:okHL T.cs c l=true) hx:PE X (unHL c n l hx) (hB X n ea C dx x λς=>litH x ς l)/\PT X (unHL c n l hx) (hT X n ea C dx x λς=>litH x ς l):=by
 have fin:PE X (unHL c n l hx) (hB X n ea C dx x λς=>litH x ς l):=by
  have isn:X.mg "isinstance" = none:=h.blt _ (by decide)
  have ven:X.mg "ValueError" = none:=h.blt _ (by decide)
  cases l with
  |v i=>
   have q':((decide (i<c.N.length)&&(kd c (nmA c i) .local||kd c (nmA c i) .cell||kd c (nmA c i) .free) && !(nmA c i==("__debug__" : Str)) && !(nmA c i==("__classdict__" : Str))))=true:=q;obtain⟨⟨⟨h1,h2⟩,h3⟩,h4⟩:=(⟨⟨ba (ba (ba q').1).1,(ba (ba q').1).2⟩,(ba q').2⟩:((_/\_)/\_)/\_);have vis:Vis X.env.scope (nmA c i):=by
    simp only[Yb8]at h2;rcases h2 with(z|z)|z
    ·exact .inl (h.loc _ z)
    ·exact .inr (.inl (h.cel _ z).1)
    ·exact(h.fre _ z).elim (λz=>.inr (.inl z)) λz=>.inr (.inr z)
   refine(jbo (by rw[h.hN];exact jib h1) vis (bn h3) (bn h4)).imp λσ H Q ⟨ς,G,b,st,e,k⟩=>?_
   have e':(match ς[i]? with|some (some (U.bl b))=>some b|_=>none)=some b:=e
   split at e'
   ·rename_i b' eb;cases e';obtain⟨v,ev,r⟩:=st.sr.2 i _ eb;cases r;exact⟨_,ev,k H st.hr (Fr.refl _ _)⟩
   lia
  |isiV=>
   have q':(glo c "isinstance" && glo c "ValueError")=true:=q;obtain⟨g1,g2⟩:=h.gl (ba q').1;obtain⟨g3,g4⟩:=h.gl (ba q').2;refine(jcR (ji5 h.me h.pin) g1 isn jf2 (jaN h.pe (jaN (jhX (v:=.ty "ValueError") g3 ven (by decide +kernel) rfl (by decide) g4) jc4)) (by decide) g2 rfl rfl).imp λσ H Q ⟨ς,G,b,st,e,k⟩=>?_
   cases(show true=b from Yan e);obtain⟨_,_,_,l,hl,_⟩:=st.xd;exact⟨_,st.en,rfl,⟨l,hl⟩,k H st.hr (Fr.refl _ _)⟩
  |is1 m=>
   have q':(glo c "isinstance" && okC T.cs c m)=true:=q;obtain⟨g1,g2⟩:=h.gl (ba q').1;obtain⟨C',cl,np,pe⟩:=h.ownC (ba q').2;refine(jcR (ji7 h.me cl np h.pin) g1 isn jf2 (jaN h.pe (jaN (pe _) jc4)) (by decide) g2 rfl rfl).imp λσ H Q ⟨ς,G,b,st,e,k⟩=>?_
   have eb:decide (x.c=m)=b:=Yan e;have e2:decide (clsN x.c=clsN m)=b:=by
    rw[<- eb];obtain⟨_,m2,_⟩:=jgC (ba q').2;by_cases z:x.c=m
    ·simp[z]
    ·have:clsN x.c≠clsN m:=λy=>z (jgW _ h.hi _ m2 y)
     lia
   obtain⟨_,_,_,l,hl,_⟩:=st.xd;exact⟨_,st.en,rfl,⟨l,hl⟩,by rw[e2];exact k H st.hr (Fr.refl _ _)⟩
  |isi ks=>
   have q':(glo c "isinstance" && ks.all (okC T.cs c)&&decide (ks.length<=8))=true:=q;obtain⟨g1,g2⟩:=h.gl (ba (ba q').1).1;obtain⟨xs,Cs,exs,mn,ln,pa⟩:=h.pcs (ba (ba q').1).2 (cl (hd (cl hx).tail));refine PE.imp (h.isiT g1 g2 mn pa) λσ H Q ⟨ς,G,b,st,e,k⟩=>?_;have eb:ks.contains x.c=b:=Yan e;have e2:xs.contains (clsN x.c)=b:=by
    rw[<- eb,exs];have all:∀m∈ks,m<6:=λm hm=>(jgC (Ydk.mp (ba (ba q').1).2 m hm)).2.1;rw[Ya5];simp only[List.contains_iff_mem,List.mem_map];constructor
    ·rintro⟨m,hm,em⟩;have:=jgW _ (all m hm) _ h.hi em
     lia
    lia
   refine⟨st.en,?_,λp hp=>⟨?_,?_⟩⟩
   ·lia
   ·obtain⟨_,_,_,l,hl,_⟩:=(st.fr (st.hr.newT hp) (Fr.new hp)).xd;exact⟨l,hl⟩
   ·rw[e2];exact k _ (st.hr.newT hp) (Fr.new hp)
 refine⟨fin,?_⟩;have tr:∀whole,isTrue (unHL c n l hx) X.env whole=(do let v <- whole;standAt (unHL c n l hx).pos;holding [v] (truthy v)):=by
  intro whole;cases l<;>rfl
 refine(jnk fin tr).imp λσ H Q ⟨ς,G,b,st,e,k⟩=>?_;exact⟨ς,G,b,st,e,λH' a f=>⟨b,rfl,k H' a f⟩⟩
def HC.litN  (h:HC T X c n ea C dx x)(q:okHL T.cs c p.2=true) hx:PE X (jfC c n p hx) (hB X n ea C dx x λς=>lit1 x ς p)/\PT X (jfC c n p hx) (hT X n ea C dx x λς=>lit1 x ς p):=by
 obtain⟨neg,l⟩:=p;cases neg with
 |false=>
  obtain⟨h1,h2⟩:=h.lit q hx;refine⟨PE.imp h1 λσ H Q ⟨ς,G,b,st,e,k⟩=>⟨ς,G,b,st,?_,k⟩,PT.imp h2 λσ H Q ⟨ς,G,b,st,e,k⟩=>⟨ς,G,b,st,?_,k⟩⟩ <;>
  ·unfold lit1 at e
   lia
 |true=>
  obtain⟨h1,h2⟩:=h.lit q (c0 hx);refine⟨PE.imp (jnv h1) λσ H Q ⟨ς,G,b,st,e,k⟩=>⟨ς,G,!b,st,?_,λH' a f=>⟨!b,rfl,by simp_all⟩⟩,PT.imp (jks h2) λσ H Q ⟨ς,G,b,st,e,k⟩=>⟨ς,G,!b,st,?_,λH' a f=>by simp_all⟩⟩ <;>
  ·unfold lit1 at e;dsimp only at e;split at e
   ·simp_all
   lia
theorem HC.conds  (h : HC T X c n ea C dx x) k : ∀ as (a : Bool × HL) hx hs pos , okHL T.cs c a.2 = true -> jda T.cs c as = true ->
    PE X (.BoolOp (boU k) (jfC c n a hx :: jgl c n as hs) pos) (hB X n ea C dx x λς => jbL x ς k a as) /\ PW X (.BoolOp (boU k) (jfC c n a hx :: jgl c n as hs) pos) (hT X n ea C dx x λς => jbL x ς k a as)
  | [], a, hx, hs, pos, q, _ => by
    obtain ⟨h1, h2⟩ := h.litN q hx
    cases k with
    | true => exact ⟨jgA h1, pw_and1 h2⟩
    | false => exact ⟨jgA h1, pw_or1 h2⟩
  | b :: r, a, hx, hs, pos, q, qs => by
    unfold jda at qs
    simp only [YbE, Yao] at qs
    obtain ⟨h1, h2⟩ := h.litN q hx
    obtain ⟨r1, r2⟩ := h.conds k r b (hd hs) hs.tail pos qs.1 qs.2
    have red : ∀ {ς : Sg} {t b' : Bool}, lit1 x ς a = some t -> jbL x ς k a (b :: r) = some b' -> (if t = k then jbL x ς k b r else some t) = some b' := λ{ς t b'} e1 e2 => by
      have e3 : (match lit1 x ς a with | some t => if t = k then jbL x ς k b r else some t | none => none) = some b' := e2
      lia
    have some1 : ∀ {ς : Sg} {b' : Bool}, jbL x ς k a (b :: r) = some b' -> ∃ t, lit1 x ς a = some t := λ{ς b'} e2 => by
      have e3 : (match lit1 x ς a with | some t => if t = k then jbL x ς k b r else some t | none => none) = some b' := e2
      grind
    cases k with
    | true =>
      refine ⟨PE.imp (jnz h1 r1) λσ H Q ⟨ς, G, b', st, e, kk⟩ => ?_, PW.imp (pw_and h2 r2) λσ H Q ⟨ς, G, b', st, e, kk⟩ => ?_⟩ <;>
      · obtain ⟨t, et⟩ := some1 e
        have e' := red et e
        first
          | (refine ⟨ς, G, t, st, et, λH' hr f => ⟨t, rfl, ?_⟩⟩
             cases t with
             | true => exact ⟨ς, G, b', st.fr hr f, by lia, λH'' a b => kk H'' a (f.trans b)⟩
             | false => simp_all)
          | (refine ⟨ς, G, t, st, et, λH' hr f => ?_⟩
             cases t with
             | true => exact ⟨ς, G, b', st.fr hr f, by lia, λH'' a b => kk H'' a (f.trans b)⟩
             | false => simp_all)
    | false =>
      refine ⟨PE.imp (jpJ h1 r1) λσ H Q ⟨ς, G, b', st, e, kk⟩ => ?_, PW.imp (pw_or h2 r2) λσ H Q ⟨ς, G, b', st, e, kk⟩ => ?_⟩ <;>
      · obtain ⟨t, et⟩ := some1 e
        have e' := red et e
        first
          | (refine ⟨ς, G, t, st, et, λH' hr f => ⟨t, rfl, ?_⟩⟩
             cases t with
             | false => exact ⟨ς, G, b', st.fr hr f, by lia, λH'' a b => kk H'' a (f.trans b)⟩
             | true => simp_all)
          | (refine ⟨ς, G, t, st, et, λH' hr f => ?_⟩
             cases t with
             | false => exact ⟨ς, G, b', st.fr hr f, by lia, λH'' a b => kk H'' a (f.trans b)⟩
             | true => simp_all)
def HC.cond  (h:HC T X c n ea C dx x) k (a:Bool×HL) as hx (q:okHL T.cs c a.2=true)(qs:jda T.cs c as=true) :
  PE X (jgm c n k a as hx) (hB X n ea C dx x λς=>jbL x ς k a as)/\PT X (jgm c n k a as hx) (hT X n ea C dx x λς=>jbL x ς k a as):=by
 cases as with
 |nil=>exact h.litN q hx
 |cons b r=>let z:=h.conds k (b::r) a (hd (cl hx)) (cl hx).tail hx.pos q qs;exact⟨z.1,z.2.pt⟩
def hV  (X:Cx)(n:Nat)(ea C dx:Addr)(x:XV)(f:Sg->Gp->K1->Prop):TE:=λσ H Q0=>∃ς G Q,HSt X n ea C dx x σ H ς G/\f ς G Q/\LV X H G Q Q0
theorem jht      : ∀{l:List (Str×V)} {us },RUs K H us (l.map (·.2))->((l.map (·.1)).zip us).lookup f=some u->∃v,l.lookup f=some v/\RU K H u v
 |[],us,_,e=>by simp at e
 |(y,v)::l,[],r,e=>by simp at e
 |(y,v)::l,w::us,r,e=>by
  obtain⟨v',vr,ev,r1,rs⟩:=r;simp only[Yas,Yd1]at ev;obtain⟨rfl,rfl⟩:=ev;simp only[Yas,YfY,YaX]at e ⊢;split at e
  ·lia
  ·rename_i z;obtain⟨v',h1,h2⟩:=jht rs e
   simp_all
def XD.get      (xd:XD K H C dx x)(e:atH x (.att f)=some u):∃l v,H dx=some (.xd l)/\l.lookup f=some v/\RU K H u v:=by
 obtain⟨_,_,_,l,hl,hn,r⟩:=xd;have e':((clsF x.c).zip x.fs).lookup f=some u:=e;rw[<- hn]at e';obtain⟨v,h1,h2⟩:=jht r e'
 simp_all
def HC.at  (h:HC T X c n ea C dx x)(q:okHA a=true) hx:PE X (unHA c n a hx) (λσ H Q0=>∃ς G u,HSt X n ea C dx x σ H ς G/\atH x a=some u/\∀v,RU X.K H u v->Q0 v H):=by
 cases a with
 |str y=>exact PE.imp jkt λσ H Q ⟨ς,G,u,st,e,k⟩=>by cases e;exact k _ rfl
 |att f=>
  have hf:f∈fldN:=by simpa[okHA]using q
  refine PE.imp (jlD h.me h.pin hf h.pe rfl) λσ H Q ⟨ς,G,u,st,e,k⟩=>?_;obtain⟨l,v,hl,h1,h2⟩:=st.xd.get e;exact⟨_,st.en,rfl,l,v,hl,h1,k v h2⟩
def jml   a hx es env:Yax (unHA c n a hx::es) env=(false,eval (unHA c n a hx) env)::Yax es env:=by cases a<;>rfl
theorem HC.ats  (h:HC T X c n ea C dx x):∀{as } (_:as.all okHA=true) hs ,PA X (jjh c n as hs) (λσ H Q0=>∃ς G us,HSt X n ea C dx x σ H ς G/\atsH x as=some us/\∀vs,RUs X.K H us vs->Q0 vs H)
 |[],_,_=>λpos pins s σ H Q0 I ⟨ς,G,us,st,e,k⟩=>by cases e;exact jc4 pos pins s σ H Q0 I (k [] rfl)
 |a::r,q,hs=>by
  simp only[YbE,Yao]at q;refine PA.imp (jaN (h.at q.1 (hd hs)) (h.ats q.2 hs.tail) (jml a _ _ _)) λσ H Q0 ⟨ς,G,us,st,e,k⟩=>?_;have e':(match atH x a,atsH x r with|some u,some us=>some (u::us)|_,_=>none)=some us:=e
  split at e'
  ·rename_i u us' e1 e2;cases e';exact⟨ς,G,u,st,e1,λv rv=>⟨ς,G,us',st,e2,λvs rvs=>k (v::vs) ⟨v,vs,rfl,rv,rvs⟩⟩⟩
  lia
theorem jgd  : ∀{as } {us },atsH x as=some us->us.length=as.length
 |[],us,e=>by cases e;rfl
 |a::r,us,e=>by
  have e':(match atH x a,atsH x r with|some u,some us=>some (u::us)|_,_=>none)=some us:=e
  split at e'
  ·rename_i u us' e1 e2;cases e';simp[jgd e2]
  lia
def HC.val  (h:HC T X c n ea C dx x)(q:okHV T.cs c e=true) hx:PE X (unHV c n e hx) (hV X n ea C dx x λς G Q=>hvH x ς e G Q):=by
 cases e with
 |cond k a as=>
  have q':(okHL T.cs c a.2&&jda T.cs c as)=true:=q;refine PE.imp (h.cond k a as hx (ba q').1 (ba q').2).1 λσ H Q0 ⟨ς,G,Q,st,e,lv⟩=>?_;have e':(match jbL x ς k a as with|some b=>Q (.bl b) G|none=>False):=e
  split at e'
  ·rename_i b eb;exact⟨ς,G,b,st,eb,λH' hr f=>lv (.bl b) (.bl b) G H' rfl hr f e'⟩
  lia
 |one a=>
  refine PE.imp (h.at (show okHA a=true from q) hx) λσ H Q0 ⟨ς,G,Q,st,e,lv⟩=>?_;have e':(match atH x a with|some u=>Q u G|none=>False):=e
  split at e'
  ·rename_i u eu;exact⟨ς,G,u,st,eu,λv rv=>lv.here rv st.hr e'⟩
  lia
 |bl b=>exact PE.imp jny λσ H Q0 ⟨ς,G,Q,st,e,lv⟩=>lv.bl st.hr e
 |tup as=>
  have q':(as.all okHA&&decide (as.length<=8))=true:=q;refine PE.imp (jhV (h.ats (ba q').1 (cl hx))) λσ H Q0 ⟨ς,G,Q,st,e,lv⟩=>?_;have e':(match atsH x as with|some us=>Q (.tup us) G|none=>False):=e
  split at e'
  ·rename_i us eu;refine⟨ς,G,us,st,eu,λvs rvs=>⟨?_,λp hp=>lv.tup hp rvs st.hr e'⟩⟩;have:=of_decide_eq_true (ba q').2;rw[<- rvs.length,jgd eu,YbX];lia
  lia
 |lst as=>
  have q':(as.all okHA&&decide (as.length<=8))=true:=q;refine PE.imp (jku (h.ats (ba q').1 (cl hx))) λσ H Q0 ⟨ς,G,Q,st,e,lv⟩=>?_;have e':(match atsH x as with|some us=>newO G (.lst us) Q|none=>False):=e
  split at e'
  ·rename_i us eu;refine⟨ς,G,us,st,eu,λvs rvs=>⟨?_,λp hp=>lv.lst hp rvs st.hr e'⟩⟩;have:=of_decide_eq_true (ba q').2;rw[<- rvs.length,jgd eu,YbX];lia
  lia
def jiC   e hx y p env l:YbH [.Name y p] (unHV c n e hx) l env=pure false/\Ybs [.Name y p] (unHV c n e hx) env=pure none:=by
 cases e with
 |cond k a as=>
  cases as with
  |nil=>
   obtain⟨neg,l⟩:=a;cases neg<;>cases l<;>exact⟨rfl,rfl⟩
  |cons=>exact⟨rfl,rfl⟩
 |one a=>cases a<;>exact⟨rfl,rfl⟩
 |_=>exact⟨rfl,rfl⟩
def HC.store  (h:HC T X c n ea C dx x)(q:okN c i=true):PG X (.Name (nmA c i) p) (jiG i):=by
 have q':(decide (i<c.N.length)&&(kd c (nmA c i) .local||kd c (nmA c i) .cell))=true:=q;have v:=(ba q').2;simp only[Yb8]at v;rcases v with v|v
 ·exact jfO (by rw[h.hN];exact h.nd) (by rw[h.hN];exact jib (ba q').1) (.inl (h.loc _ v)) (.inr (h.loc _ v))
 ·exact jfO (by rw[h.hN];exact h.nd) (by rw[h.hN];exact jib (ba q').1) (.inr (h.cel _ v).1) (.inl (h.cel _ v).2)
def HSt.set         (h:HSt X n ea C dx x σ H ς G)(hi:i≠n)(r:RU X.K H u v):HSt X n ea C dx x (σ.set i (some v)) H (ς.set i (some u)) G:=
 ⟨h.sr.set r i,h.hr,by rw[Ya3 hi];exact h.en,h.xd⟩
def HC.asg  (h:HC T X c n ea C dx x)(qi:okN c i=true)(hi:i≠n)(qe:okHV T.cs c e=true) st :
  PS X (jk2 c n i e st) (λD σ H=>∃(ς:Sg) (G:Gp) (k:Sg->Gp->Prop),HSt X n ea C dx x σ H ς G/\hvH x ς e G (λu G1=>k (ς.set i (some u)) G1)/\∀ς' σ' G' H',HSt X n ea C dx x σ' H' ς' G'->Fr H G H' G'->k ς' G'->D.nx σ' H'):=by
 refine PS.imp (jgw (h.val qe (q0 st)) (h.store qi) (jiC e _ _ _ _ _).1 (jiC e _ _ _ _ 0).2 rfl) λD σ H ⟨ς,G,k,hs,hv,fin⟩=>?_;exact⟨ς,G,_,hs,hv,λu v G' H' r hr f q=>fin _ _ G' H' ((hs.fr hr f).set hi r) f q⟩
def hS  (X:Cx)(n:Nat)(ea C dx:Addr)(x:XV)(hs:List HS):L2.TS:=λD σ H=>∃ς G k,HSt X n ea C dx x σ H ς G/\hsH x hs ς G k/\∀ς' σ' G' H',HSt X n ea C dx x σ' H' ς' G'->Fr H G H' G'->k ς' G'->D.nx σ' H'
theorem HC.stmts  (h:HC T X c n ea C dx x):∀{hs } (_:hs.all (okHS T.cs c n)=true) sts ,PSs X (jfD c n hs sts) (hS X n ea C dx x hs)
 |[],_,_=>PSs.imp jfN λD σ H ⟨ς,G,k,st,q,fin⟩=>fin ς σ G H st (Fr.refl _ _) q
 |.asg i e::r,q,sts=>by
  simp only[YbE,Yao]at q;have q1:(okN c i&&decide (i≠n)&&okHV T.cs c e)=true:=q.1;refine PSs.imp (jeh (h.asg (ba (ba q1).1).1 (of_decide_eq_true (ba (ba q1).1).2) (ba q1).2 (qh sts)) (h.stmts q.2 sts.tail)) λD σ H ⟨ς,G,k,st,hq,fin⟩=>?_;exact⟨ς,G,λς1 G1=>hsH x r ς1 G1 k,st,hq,λς' σ' G' H' st' f q'=>⟨ς',G',k,st',q',λς2 σ2 G2 H2 st2 f2 q2=>fin ς2 σ2 G2 H2 st2 (f.trans f2) q2⟩⟩
 |.ifa kk a as i e::r,q,sts=>by
  simp only[YbE,Yao]at q;have q1:(okHL T.cs c a.2&&jda T.cs c as&&okN c i&&decide (i≠n)&&okHV T.cs c e)=true:=q.1;have p1:=jnn (pos:=(qh sts).pos) (h.cond kk a as (q0 (qh sts)) (ba (ba (ba (ba q1).1).1).1).1 (ba (ba (ba (ba q1).1).1).1).2).2 (jls (h.asg (ba (ba (ba q1).1).1).2 (of_decide_eq_true (ba (ba q1).1).2) (ba q1).2 (qh (qa (qh sts))))) jfN;refine PSs.imp (jeh p1 (h.stmts q.2 sts.tail)) λD σ H ⟨ς,G,k,st,hq,fin⟩=>?_;have nxt:∀ς' σ' G' H',HSt X n ea C dx x σ' H' ς' G'->Fr H G H' G'->hsH x r ς' G' k->hS X n ea C dx x r D σ' H':=λς' σ' G' H' st' f q'=>⟨ς',G',k,st',q',λς2 σ2 G2 H2 st2 f2 q2=>fin ς2 σ2 G2 H2 st2 (f.trans f2) q2⟩;have hq':(match jbL x ς kk a as with|some true=>hvH x ς e G λu G1=>hsH x r (ς.set i (some u)) G1 k|some false=>hsH x r ς G k|none=>False):=hq
  split at hq'
  ·rename_i ec;refine⟨ς,G,true,st,ec,λH' hr f=>?_⟩;refine iteT ?_;exact⟨ς,G,λς1 G1=>hsH x r ς1 G1 k,st.fr hr f,hq',λς' σ' G' H'' st' f' q'=>nxt ς' σ' G' H'' st' (f.trans f') q'⟩
  ·rename_i ec;refine⟨ς,G,false,st,ec,λH' hr f=>?_⟩;refine iteF ?_;exact nxt ς σ G H' (st.fr hr f) f hq'
  lia
end
def SR.hide      (h:SR K H ς σ) n o:SR K H (ς.set n none) (σ.set n o):=by
 refine⟨by simp[h.1],λi u e=>?_⟩
 by_cases z:i=n
 ·subst z;rw[List.getElem?_set]at e;simp only[if_true]at e;split at e<;>cases e
 ·rw[Ya3 (Ne.symm z)]at e ⊢;exact h.2 i u e

def s_try  {T: Tab}{sts:List Stmt}(C:Cos T k X c)(hm:decide (m=0)=true)(hg:glo c (clsN m)=true)(hn:decide (n<c.N.length)=true)(hl:kd c (nmA c n) .local=true)(hd1:(nmA c n==("__debug__" : Str))=false)(hd2:(nmA c n==("__classdict__" : Str))=false)
  (hne:hs.isEmpty=false) (hok:hs.all (okHS T.cs c n)=true) (hb:∀pins xe ,Yes (model X.prog X.w) X.A X.env xe->PSs (X.tryC pins xe) b (lS (X.tryC pins xe) tb)) :
  PS X (.Try b [.ExceptHandler (some (.Name (clsN m) pt)) (some (nmA c n)) (jfD c n hs sts) ph] [] [] pos)
   (lS X λD ς G=>tb { D with ex:=λx ς1 G1=>(m=0\/x.c=m)/\hsH x hs (ς1.set n none) G1 λς2 G2=>D.nx (ς2.set n none) G2 } ς G):=by
 intro pins s σ H D I ⟨De,ς,G,hς,hG,h0,ld⟩;obtain⟨s0,sr,hse⟩:∃s0 sr,jfD c n hs sts=s0::sr:=by
  cases hs with
  |nil=>cases hne
  |cons a r=>exact⟨_,_,rfl⟩
 have nd:X.N.Nodup:=by rw[C.hN];exact C.nd
 have hi:X.N[n]?=some (nmA c n):=C.toCok.nm hn;have hlc:=C.loc _ hl;obtain⟨gl1,gl2⟩:=C.toCok.gl hg
 let XT:Value->Shared->Prop:=λe s₁=>wpAny (model X.prog X.w) X.A (Ygi e X.env) (λ_ s₂=>wpAny (model X.prog X.w) X.A (Yem e none) (λ_ s₃=>wpAny (model X.prog X.w) X.A (handleBy e X.env [.ExceptHandler (some (.Name (clsN m) pt)) (some (nmA c n)) (jfD c n hs sts) ph]) (SP X pins D) X.xe s₃) X.xe s₂) X.xe s₁
 have main:∀(pins':List (Addr×Obj)) (e:Value) (s':Shared) (x:XV) ς' σ' G' H',Inv (X.tryC pins XT) pins' σ' H' s'->SR X.K H' ς' σ'->XAt (X.tryC pins XT) H' s' e x->HR X.K H' G'->Fr H G H' G'->((m=0\/x.c=m)/\hsH x hs (ς'.set n none) G' λς2 G2=>De.nx (ς2.set n none) G2)->XT e s':=by
  intro pins' e s' x ς' σ' G' H' I' sr' xat hr' f' ⟨hmx,hq⟩;obtain⟨ea,C0,dx,rfl,l,xd⟩:=xat;have xd0:=xd;obtain⟨x1,x2,xc,lx,hlx,hnx,rx⟩:=xd0;have I0:Inv (X.tryC pins XT) [] σ' H' s':=I'.pins_of λp hp=>absurd hp (by simp)
  refine jim (X:=X.tryC pins XT) (E:=X.xe) I0 C.stk.1 C.stk.2 l λh' J l'=>?_;refine wpAny_handleBy_cons ?_ (by intro z;cases z)
  refine codeAny_handlers_test ?_;have J':Inv ((X.tryC pins XT).inH (.ref ea) []) [] σ' H' { s' with heap:=h' }:=J.hIn λq hq=>absurd hq (by simp)
  have fin:∀s2:Shared,s2={ s' with heap:=h' }->codeAny (model X.prog X.w) (X.A.mark (some (.ref ea))) (Code.handlers (.ref ea) [.ExceptHandler none (some (nmA c n)) (jfD c n hs sts) ph] X.env)
    (λr s₂=>match r with
     |.ok f=>wpAny (model X.prog X.w) X.A (do bindName X.env (nmA c n) .none;unbindBehindTheSuite X.env (nmA c n) ph) (λ_ s₃=>SP X pins D f s₃) X.xe s₂
     |.error y=>cameBackBy (model X.prog X.w) X.A X.env X.xe y s₂) s2:=by
   intro s2 es2;subst es2;rw[hse];refine codeAny_handlers_suite_as ?_;refine jfi (X:=X.tryC pins XT) J l' λh2 J2 l2=>?_;obtain⟨oe,g1,g2,g3,⟨vs,g4⟩,g5⟩:=l2.pinned J2;have J3:Inv ((X.tryC pins XT).inH (.ref ea) [(ea,oe)]) [] σ' H' { s' with heap:=h2 }:=J2.hIn g5
   refine jcO (X:=(X.tryC pins XT).inH (.ref ea) [(ea,oe)]) (v:=.ref ea) J3 nd hi (.inl hlc) rfl (λs3 J4=>?_) (.inr hlc);have hc:HC T ((X.tryC pins XT).inH (.ref ea) [(ea,oe)]) c n ea C0 dx x:=⟨C.hN,C.nd,C.loc,C.cel,C.fre,C.glb,C.blt,C.cls,xc,x1,x2,⟨oe,vs,by simp only[Cx.inH];simp_all,g2,g3,g4⟩,C.mgK,of_decide_eq_true hn,hl,hd1,hd2⟩
   have hσ:n<σ'.length:=by
    have:=J3.len;rw[this];exact(List.getElem?_eq_some_iff.mp hi).1
   have hst:HSt ((X.tryC pins XT).inH (.ref ea) [(ea,oe)]) n ea C0 dx x (σ'.set n (some (.ref ea))) H' (ς'.set n none) G':=⟨sr'.hide n _,hr',by simp_all,xd⟩
   rw[<- hse];refine YaO (hc.stmts hok sts [] s3 _ H' ⟨λσ2 H2=>D.nx (σ2.set n none) H2,λ_ _=>False,λ_ _=>False,λ_ _=>False⟩ J4 ⟨_,G',_,hst,hq,λς2 σ2 G2 H2 st2 f2 q2=>?_⟩) (λfl s4 q4=>?_) λ_ _ z=>YbJ z
   ·exact ld.nx _ _ G2 H2 (st2.sr.hide n none) st2.hr (f'.trans f2) q2
   ·cases fl with
    |next=>
     obtain⟨σ2,H2,J5,q5⟩:=q4;exact jig (X:=X.tryC pins XT) (J5.hOut J.ok) nd hi hlc λs5 J6=>⟨σ2.set n none,H2,J6.tryOut,q5⟩
    |brk=>obtain⟨_,_,_,z⟩:=q4;lia
    |cont=>obtain⟨_,_,_,z⟩:=q4;lia
    |ret u=>obtain⟨_,_,_,_,_,z⟩:=q4;lia
  obtain⟨oe,vs,he,hcl,_⟩:=l'.ob;by_cases m0:m=0
  ·obtain⟨D0,N0,fI,mN,mD,B,_⟩:=xc.ex;have hmg:X.mg (clsN m)=some (.ref D0):=by rw[m0];exact C.mgK _ _ B.m
   refine jcq J' gl1 hmg ?_ gl2;refine jhe (X:=X) xc B J'.kIn he hcl ?_;exact fin _ rfl
  ·exact absurd (of_decide_eq_true hm) m0
 refine wpAny_Try_except (YaO (hb pins XT Yfe [] s σ H ⟨D.nx,D.rt,D.bk,D.ct⟩ I.tryIn ⟨_,ς,G,hς,hG,h0,⟨ld.nx,ld.rt,main⟩⟩) (λfl s1 q1=>?_) λe s1 z=>z);cases fl with
 |next=>
  obtain⟨σ',H',J,q⟩:=q1;exact YdM ⟨σ',H',J.tryOut,q⟩
 |brk=>obtain⟨σ',H',J,q⟩:=q1;exact⟨σ',H',J.tryOut,q⟩
 |cont=>obtain⟨σ',H',J,q⟩:=q1;exact⟨σ',H',J.tryOut,q⟩
 |ret u=>obtain⟨v,σ',H',J,r,q⟩:=q1;exact⟨v,σ',H',J.tryOut,r,q⟩
section
variable {T:Tab}{k:Nat}
def jl3   b:bltN b∈jcb:=by cases b<;>decide
def jmO  : ∀n∈jhx,YbT (Ycp n)=some (.type n)/\Ycp n∈jcb/\Ycp n ≠ "__name__" := by decide +kernel
abbrev SE  (T:Tab)(k:Nat)(X:Cx)(c:Ctx)(ir:E)(h:Expr):Prop:=PE X (unE T c ir h) (lE X (den T.gs (jac T k) ir).1)/\PT X (unE T c ir h) (lT X (den T.gs (jac T k) ir).2)
section
variable {X:Cx}{c:Ctx}
def tru    (h:PE X e (lE X t))(hp:∀whole,isTrue e X.env whole=(do let v <- whole;standAt e.pos;holding [v] (truthy v))):PE X e (lE X t)/\PT X e (lT X (truT t)):=⟨h,jmF h hp⟩
def jm9   {rest:List Expr}(ha:PE X a (lE X p.1)/\PT X a (lT X p.2))(hb:PE X (.BoolOp .And (b::rest) pos) (lE X q.1)/\PW X (.BoolOp .And (b::rest) pos) (lT X q.2)) :
  PE X (.BoolOp .And (a::b::rest) pos) (lE X (comb true p q).1)/\PW X (.BoolOp .And (a::b::rest) pos) (lT X (comb true p q).2):=⟨jpd ha.1 hb.1,jmN ha.2 hb.2⟩
def jpu   {rest:List Expr}(ha:PE X a (lE X p.1)/\PT X a (lT X p.2))(hb:PE X (.BoolOp .Or (b::rest) pos) (lE X q.1)/\PW X (.BoolOp .Or (b::rest) pos) (lT X q.2)) :
  PE X (.BoolOp .Or (a::b::rest) pos) (lE X (comb false p q).1)/\PW X (.BoolOp .Or (a::b::rest) pos) (lT X (comb false p q).2):=⟨u_or ha.1 hb.1,jo0 ha.2 hb.2⟩
def se_v    (C:Cok T k X c)(q:okE T c (.v i) h=true):SE T k X c (.v i) h:=tru (joV (C.nm (ba (ba (ba q).1).1).1) (C.vis (ba (ba (ba q).1).1).2) (bn (ba (ba q).1).2) (bn (ba q).2)) λ_=>rfl
def se_g    (C:Cok T k X c)(q:okE T c (.g n) h=true):SE T k X c (.g n) h:=by
 have h1:=of_decide_eq_true (ba (ba q).1).1;have h2:=of_decide_eq_true (ba (ba q).1).2;have hn:T.gn[n]?=some (T.gn.getD n ""):=by simp_all
 obtain⟨v,w,m,r,ru⟩:=C.gls n _ T.gs[n] hn (by simp[h1])
 obtain⟨g1,g2⟩:=C.gl (ba q).2;refine tru (PE.imp (u_gl (u:=T.gs[n]) g1 m r ru g2) λσ H Q0 ⟨ς,G,Q,E,hς,hG,h,lv,lx⟩=>⟨ς,G,Q,E,hς,hG,?_,lv,lx⟩) λ_=>rfl;have h':glU T.gs n λu=>Q u G:=h;unfold glU at h'
 simp_all
def jpt    (C:Cok T k X c)(q:okE T c (.ty n) h=true):SE T k X c (.ty n) h:=by
 obtain⟨g1,g2⟩:=C.gl (ba q).2;obtain⟨t1,t2,t3⟩:=jmO n (by simpa using (ba q).1)
 exact tru (u_ty g1 (C.blt _ t2) t1 t3 g2) λ_=>rfl
def jm3     (h1:PPs X h.pos (unK T c es (dk h)) (unV T c es (cl h)) trs)(h2:lD X (denD T.gs (jac T k) es) trs)(h3:(unK T c es (dk h)).all (·.isSome)=true)(h4:(unK T c es (dk h)).length=(unV T c es (cl h)).length)
  (h5:(unK T c es (dk h)).length<=15):SE T k X c (.dic es) h:=by
 refine tru ?_ λ_=>rfl
 match es,h1,h2,h3,h4,h5 with
 |.nil,_,_,_,_,_=>exact PE.imp jmJ λσ H Q0 ⟨ς,G,Q,E,hς,hG,h,lv,lx⟩=>⟨ς,G,Q,E,hς,hG,(show([]:List (Key×U)).length<=15/\newO G (.dK (jdy [])) Q from h).2,lv,lx⟩
 |.cons _ .nil,_,_,_,_,_=>exact λpins s σ H Q0 I ⟨ς,G,Q,E,hς,hG,h,lv,lx⟩=>(show False from h).elim
 |.cons d (.cons f es),h1,h2,h3,h4,h5=>exact jo8 h1 h2 h3 h4 (λz=>nomatch z) h5
def jln     (C:Cok T k X c)(q:okE T c (.call n es) h=true)(ha:PA X (unEs T c es (cl h)) (lA X (jaI T.gs (jac T k) es))):SE T k X c (.call n es) h:=by
 refine tru ?_ λ_=>rfl;have hn:=of_decide_eq_true (ba (ba q).1).1;have hd':T.funs[n]?=some T.funs[n]:=by simp[hn]
 have hx:T.funs[n].name=fnN T n:=by unfold fnN;rw[hd']
 match es,ha with
 |.nil,_=>exact jk5 C hd' hx (ba (ba q).1).2
 |.cons d es,ha=>exact jmM C hd' hx (ba (ba q).1).2 ha (jah (jar d _) _ _) (jcd es _ _ _).1
def jm4     (C:Cok T k X c)(q:okE T c (.blt b es) h=true)(ha:PA X (unEs T c es (cl h)) (lA X (jaI T.gs (jac T k) es))):SE T k X c (.blt b es) h:=by
 refine tru ?_ λ_=>rfl;obtain⟨g1,g2⟩:=C.gl (ba (ba q).1).2
 match es,ha,q with
 |.nil,_,q=>exact absurd (of_decide_eq_true (ba (ba q).1).1) (Ybo 0)
 |.cons d es,ha,_=>exact jpa (joL C.room C.calm b) g1 (C.blt _ (jl3 b)) ha (jah (jar d _) _ _) (jcd es _ _ _).1
def jlm      (hu:X.A.units+1<cLine)(q:okE T c (.meth m o es) h=true)(ho:PE X (unE T c o (c0 (c0 h))) (lE X (den T.gs (jac T k) o).1))(ha:PA X (unEs T c es (cl h)) (lA X (jaI T.gs (jac T k) es))):SE T k X c (.meth m o es) h:=by
 refine tru ?_ λ_=>rfl;have h6:=(ba q).2;have h5:=of_decide_eq_true (ba (ba q).1).2;have h4:=(ba (ba (ba q).1).1).2
 match es,ha,h5 with
 |.nil,_,_=>exact jk3 (jkA hu m) ho (jja h6 _ _ _) h4
 |.cons d es,ha,h5=>
  refine jmG (jkA hu m) ho ha (jja h6 _ _ _) ?_ h4 (jah (jar d _) _ _) (jcd es _ _ _).1;have e:=(jcd (T:=T) (c:=c) (.cons d es) (cl h) X.env h.pos).2;show((backTo h.pos (Yax (unEs T c (.cons d es) (cl h)) X.env)).all (λx=>!x.1)&&_&&decide ((unEs T c (.cons d es) (cl h)).length+0+0<30))=true;rw[e,jki];exact decide_eq_true h5
def s_r2     (C:Cok T k X c)(g:glo c "range" = true)(ha:SE T k X c a (hd (cl h)))(hb:SE T k X c b (hd (cl h).tail)):PI X tg (unI T c (.r2 a b) h) (lI X (denI T.gs (jac T k) (.r2 a b))):=
 u_r2 (C.gl g).1 (C.blt _ (by decide)) ha.1 hb.1 (by rw[jah (jar a _),jah (jar b _)];rfl) (jah (jar b _) _ _)
def jm7    (h:PT X e (lT X (den T.gs (jac T k) d).2)):PIfs X [e] (lT0 X.K (denC T.gs (jac T k) (.cons d .nil))):=by
 refine PIfs.imp (jlA (lT0.of h)) λσ H Q0 ⟨ς,G,Q,h1,h2,h3,h4⟩=>⟨ς,G,λb G'=>Q b G',h1,h2,?_,h4⟩;have h3':(den T.gs (jac T k) d).2 ς G (λb G1=>if b=true then Q true G1 else Q false G1) (λ_ _=>False):=h3
 have e:(λ(b:Bool) (G1:Gp)=>if b=true then Q true G1 else Q false G1)=λb G'=>Q b G':=by
  grind
 lia
def jm8  : PIfs X [] (lT0 X.K (denC T.gs (jac T k) .nil)):=PIfs.imp jlB λσ H Q0 ⟨ς,G,Q,h1,h2,h3,h4⟩=>h4 true G H h2 (Fr.refl _ _) h3
theorem jog  : ∀es hs ,2*(unK T c es hs).length<=jcp es
 |.nil,_=>Yag _
 |.cons _ .nil,_=>Ybh _
 |.cons _ (.cons _ es),hs=>by
  have:=jog es hs.tail;show 2*((unK T c es hs.tail).length+1)<=jcp es+1+1
  lia
def k_le    (h:jcp es<=30):(unK T c es hs).length<=15:=by
 have:=jog (T:=T) (c:=c) es hs
 lia
end
mutual
theorem sE:∀(ir:E) {X:Cx} {c:Ctx} {h:Expr},Cok T k X c->okE T c ir h=true->SE T k X c ir h
 |.v _,_,_,_,C,q=>se_v C q
 |.non,_,_,_,_,_=>tru (jce (u:=.non) jnw λ_=>rfl) λ_=>rfl
 |.bl b,_,_,_,_,_=>tru (jce (u:=.bl b) jny λ_=>rfl) λ_=>rfl
 |.int i,_,_,_,_,_=>tru (jce (u:=.int i) jkv λ_=>rfl) λ_=>rfl
 |.str x,_,_,_,_,_=>tru (jce (u:=.str x) jkt λ_=>rfl) λ_=>rfl
 |.g _,_,_,_,C,q=>se_g C q
 |.ty _,_,_,_,C,q=>jpt C q
 |.bin o a b,_,_,_,C,q=>tru (jpb (jnG o) (sE a C (ba q).1).1 (sE b C (ba q).2).1) λ_=>rfl
 |.neg a,_,_,_,C,q=>tru (jo2 (sE a C q).1) λ_=>rfl
 |.not a,_,_,_,C,q=>⟨jo1 (sE a C q).1,jkj (sE a C q).2⟩
 |.bop k a es,_,_,h,C,q=>let r:=sB es k C (sE a C (ba q).1) (ba q).2 h.pos;⟨r.1,r.2.pt⟩
 |.cmp o a b,_,_,_,C,q=>⟨jo9 (jd5 C.room o) (sE a C (ba (ba q).1).1).1 (sE b C (ba (ba q).1).2).1 (bn (ba q).2),jmK (jd5 C.room o) (sE a C (ba (ba q).1).1).1 (sE b C (ba (ba q).1).2).1 (bn (ba q).2)⟩
 |.cmp2 o p a b d,_,_,_,C,q=>⟨jmL (jd5 C.room o) (jd5 C.room p) (sE a C (ba (ba (ba q).1).1).1).1 (sE b C (ba (ba (ba q).1).1).2).1 (sE d C (ba (ba q).1).2).1 (bn (ba q).2),
   PT.imp (jk4 (jd5 C.room o) (jd5 C.room p) (sE a C (ba (ba (ba q).1).1).1).1 (sE b C (ba (ba (ba q).1).1).2).1 (sE d C (ba (ba q).1).2).1 (bn (ba q).2)) λ_ _ _ ⟨ς,G,Q,E,hς,hG,h,lv,lx⟩=>⟨ς,G,Q,E,hς,hG,h,lv,lx⟩⟩
 |.ife t a b,_,_,_,C,q=>⟨jo7 (sE t C (ba (ba q).1).1).2 (sE a C (ba (ba q).1).2).1 (sE b C (ba q).2).1,jmH (sE t C (ba (ba q).1).1).2 (sE a C (ba (ba q).1).2).2 (sE b C (ba q).2).2⟩
 |.tup es,_,_,_,C,q=>tru (joW (sEs es C q)) λ_=>rfl
 |.lst es,_,_,_,C,q=>tru (jo6 (sEs es C q)) λ_=>rfl
 |.dic es,_,_,h,C,q=>let ⟨_,h1,h2,h3,h4⟩:=sD es C h.pos (ba q).1;jm3 h1 h2 h3 h4 (k_le (of_decide_eq_true (ba q).2))
 |.ix a b,_,_,_,C,q=>tru (u_ix C.hu (sE a C (ba q).1).1 (sE b C (ba q).2).1 (jmk (jar b _))) λ_=>rfl
 |.sl a lo hi,_,_,_,C,q=>tru (u_sl (sE a C (ba (ba q).1).1).1 (sO lo C (ba (ba q).1).2) (sO hi C (ba q).2)) λ_=>rfl
 |.rev a b,_,_,_,C,q=>tru (joZ (sE a C (ba q).1).1 (sE b C (ba q).2).1) λ_=>rfl
 |.call _ es,_,_,_,C,q=>jln C q (sEs es C (ba q).2)
 |.app _ _,_,_,_,_,_=>⟨λ_ _ _ _ _ _ ⟨_,_,_,_,_,_,h,_⟩=>(show False from h).elim,λ_ _ _ _ _ _ ⟨_,_,_,_,_,_,h,_⟩=>(show False from h).elim⟩
 |.blt _ es,_,_,_,C,q=>jm4 C q (sEs es C (ba q).2)
 |.meth _ o es,_,_,_,C,q=>jlm C.hu q (sE o C (ba (ba (ba (ba q).1).1).1).1).1 (sEs es C (ba (ba (ba (ba q).1).1).1).2)
 |.lc _ t it ifs d,_,_,_,C,q=>let S:=C.comp (ba (ba (ba (ba (ba (ba q).1).1).1).1).1).1
   tru (u_lc C.calm S.1 (sI it t _ _ C (ba (ba (ba (ba q).1).1).1).2).1 (ba (ba (ba (ba (ba (ba q).1).1).1).1).1).2 (λcl A s₀ H₀ fp=>sTg (S.2 cl A s₀ H₀ fp) t _ (ba (ba (ba (ba (ba q).1).1).1).1).2)
    (λcl A s₀ H₀ fp=>sC ifs (S.2 cl A s₀ H₀ fp) (of_decide_eq_true (ba (ba q).1).2) (ba (ba (ba q).1).1).2) (λcl A s₀ H₀ fp=>lE0.of (sE d (S.2 cl A s₀ H₀ fp) (ba q).2).1) (sI it t ⟨[],[]⟩ e0 C (ba (ba (ba (ba q).1).1).1).2).2) λ_=>rfl
 |.mkD d,_,_,_,C,q=>tru (jo5 C.calm (C.gl (ba q).1).1 (C.blt _ (by decide)) (sE d C (ba q).2).1 (jah (jar d _) _ _)) λ_=>rfl
 |.mkL d,_,_,_,C,q=>tru (jo4 (C.gl (ba q).1).1 (C.blt _ (by decide)) (sE d C (ba q).2).1 (jah (jar d _) _ _)) λ_=>rfl
 |.mkT d,_,_,_,C,q=>tru (jo3 (C.gl (ba q).1).1 (C.blt _ (by decide)) (sE d C (ba q).2).1 (jah (jar d _) _ _)) λ_=>rfl
theorem sO:∀(ir:Eo) {X:Cx} {c:Ctx} {h:Expr},Cok T k X c->okO T c ir h=true->PO X (unO T c ir h) (lO X (denO T.gs (jac T k) ir))
 |.no,_,_,_,_,_=>u_no
 |.so d,_,_,_,C,q=>u_so (sE d C q).1
theorem sEs:∀(ir:Es) {X:Cx} {c:Ctx} {hs:List Expr},Cok T k X c->okEs T c ir hs=true->PA X (unEs T c ir hs) (lA X (jaI T.gs (jac T k) ir))
 |.nil,_,_,_,_,_=>jfE
 |.cons d ir,_,_,_,C,q=>jcw (sE d C (ba q).1).1 (sEs ir C (ba q).2) (jah (jar d _) _ _)
theorem sB:∀(ir:Es) (b:Bool) {X:Cx} {c:Ctx} {hs:List Expr} {a:Expr} {p:UE×UT},Cok T k X c->PE X a (lE X p.1)/\PT X a (lT X p.2)->okEs T c ir hs=true->∀pos:Pos,
  PE X (.BoolOp (boU b) (a::unEs T c ir hs) pos) (lE X (denB T.gs (jac T k) b p ir).1)/\PW X (.BoolOp (boU b) (a::unEs T c ir hs) pos) (lT X (denB T.gs (jac T k) b p ir).2)
 |.nil,true,_,_,_,_,_,_,ha,_,_=>⟨jgA ha.1,pw_and1 ha.2⟩
 |.nil,false,_,_,_,_,_,_,ha,_,_=>⟨jgA ha.1,pw_or1 ha.2⟩
 |.cons d ir,true,_,_,_,_,_,C,ha,q,pos=>jm9 ha (sB ir true C (sE d C (ba q).1) (ba q).2 pos)
 |.cons d ir,false,_,_,_,_,_,C,ha,q,pos=>jpu ha (sB ir false C (sE d C (ba q).1) (ba q).2 pos)
theorem sC:∀(ir:Es) {X:Cx} {c:Ctx} {hs:List Expr},Cok T k X c->jcp ir<=1->okEs T c ir hs=true->PIfs X (unEs T c ir hs) (lT0 X.K (denC T.gs (jac T k) ir))
 |.nil,_,_,_,_,_,_=>jm8
 |.cons d .nil,_,_,_,C,_,q=>jm7 (sE d C (ba q).1).2
 |.cons _ (.cons _ es),_,_,_,_,l,_=>absurd l (by show ¬(jcp es+1+1<=1);lia)
theorem sD:∀(ir:Es) {X:Cx} {c:Ctx} {hs gs:List Expr},Cok T k X c->(p:Pos)->okD T c ir hs gs=true->∃trs,PPs X p (unK T c ir hs) (unV T c ir gs) trs/\lD X (denD T.gs (jac T k) ir) trs/\(unK T c ir hs).all (·.isSome)=true/\(unK T c ir hs).length=(unV T c ir gs).length
 |.nil,_,_,_,_,_,_,_=>⟨[],jlw,jn9,rfl,rfl⟩
 |.cons d (.cons f ir),_,_,_,_,C,p,q=>let ⟨_,h1,h2,h3,h4⟩:=sD ir C p (ba q).2;⟨_,jjC (sE d C (ba (ba q).1).1).1 (sE f C (ba (ba q).1).2).1 h1,jl6 h2,h3,congrArg (·+ 1) h4⟩
 |.cons _ .nil,_,_,_,_,_,_,q=>nomatch q
theorem sI:∀(ir:It) (t:Tg) (ct:Ctx) (ht:Expr) {X:Cx} {c:Ctx} {h:Expr},Cok T k X c->okI T c t ir h=true->PI X (unTg ct t ht) (unI T c ir h) (lI X (denI T.gs (jac T k) ir))/\∀x,Ya4 (unI T c ir h) X.env x=pure x
 |.e d,_,_,_,_,_,_,C,q=>⟨u_ie (sE d C q).1,jb7 (jar d _) _⟩
 |.r1 d,_,_,_,_,_,_,C,q=>⟨u_r1 (C.gl (ba q).1).1 (C.blt _ (by decide)) (sE d C (ba q).2).1 (jah (jar d _) _ _),λ_=>rfl⟩
 |.r2 a b,_,_,_,_,_,_,C,q=>⟨s_r2 C (ba (ba q).1).1 (sE a C (ba (ba q).1).2) (sE b C (ba q).2),λ_=>rfl⟩
 |.enum d,.t _,_,_,_,_,_,C,q=>⟨jmI (C.gl (ba (ba q).1).2).1 (C.blt _ (by decide)) (sE d C (ba q).2).1 (jah (jar d _) _ _),λ_=>rfl⟩
 |.enum _,.n _,_,_,_,_,_,_,q=>nomatch q
 |.s d,_,_,_,_,_,_,C,q=>⟨u_is (sE d C q).1,jb7 (jar d _) _⟩
end
end

noncomputable def swF  (sb:Bool)(names:List Str)(bk:ScopeKind)(ts vs:List Expr):Sem (Option (List Str)):=
 if (!(ts.length==2||ts.length==3)||vs.length != ts.length||bk != .function)=true then pure none
 else if sb=true then pure none
 else if (names.length != ts.length||names.eraseDups.length != names.length)=true then pure none
 else if vs.all (foldedForSure 8)=true then pure none
 else if vs.all (constantsAlone 8)=true then do unsupported "assign.tuple-of-constant-expressions:order-of-the-stores";pure (some names)
 else pure (some names)
noncomputable def jed  (env:Env)(ts:List Expr):List Str:=ts.filterMap fun
  |.Name id pos=>if env.kindOf id==some .local&&pos.line==jko ts then some id else none
  |_=>none
def jpo     : Ybs [.Tuple ts a p] (.Tuple vs b q) env=swF (vs.any jix) (jed env ts) env.blockKind ts vs:=by
 have e1:jix=fun|.Starred ..=>true|_=>false:=by funext e;cases e<;>rfl
 with_unfolding_all rfl
def jjm  (hk:∀x,env.kindOf x=c.sc.lookup x) ts:jed env ts=jaW c ts:=by
 unfold jaW jed;congr 1;funext e;cases e<;>first|rfl|(dsimp only;rw[hk])
def jeP  (hk:∀x,env.kindOf x=c.sc.lookup x)(hb:env.blockKind=.function)(h:jck c ts vs=true):Ybs [.Tuple ts a p] (.Tuple vs b q) env=pure none:=by
 rw[jpo,jjm hk,hb];unfold swF;unfold jck at h;by_cases h1:(!(ts.length==2||ts.length==3)||vs.length != ts.length)=true
 ·rw[if_pos (by rw[h1];rfl)]
 ·have h1':(!(ts.length==2||ts.length==3)||vs.length != ts.length)=false:=by simpa using h1
  rw[h1']at h;rw[if_neg (by rw[h1'];decide)]
  simp only[Ye9,Yao,YcC]at h;obtain⟨h2,h3⟩:=h;rw[if_neg (by rw[h2];decide)]
  by_cases h4:((jaW c ts).length != ts.length||(jaW c ts).eraseDups.length != (jaW c ts).length)=true
  ·rw[if_pos h4]
  ·rw[if_neg h4];have h4':((jaW c ts).length != ts.length||(jaW c ts).eraseDups.length != (jaW c ts).length)=false:=by simpa using h4
   rw[h4']at h3;rw[if_pos (by simpa using h3)]
def jjl  (hk:∀x,env.kindOf x=c.sc.lookup x)(hb:env.blockKind=.function)(h:lcSw c y py p s=true) :
  Ycr (.ListComp elt gs s p) (some (.Name y py)) l env=pure true:=by
 unfold lcSw at h;simp only[Yao]at h;unfold Ycr;dsimp only;show(pure (env.blockKind == .function&&env.kindOf y==some .local&&py.line==p.line && !(s.names.any λ(n,k)=>n==y&&(k == .local||k == .cell))):Sem Bool)=pure true
 grind
def jjk  {c: Ctx}(hk:∀x,env.kindOf x=c.sc.lookup x)(h:(c.sc.lookup y==some .local)=false) :
  YbH [.Name y py] (.ListComp elt gs s p) l env=pure false:=by
 show(pure (env.blockKind == .function&&env.kindOf y==some .local&&py.line==p.line && !(s.names.any λ(n,k)=>n==y&&(k == .local||k == .cell))):Sem Bool)=pure false
 grind
section
variable {T:Tab}{k:Nat}
def Cos.kindOf    (C:Cos T k X c):∀x,X.env.kindOf x=c.sc.lookup x:=λx=>by
 unfold Env.kindOf;rw[C.sc]
def Cos.block    (C:Cos T k X c):X.env.blockKind=.function:=by
 unfold Env.blockKind;rw[C.kind];rfl

def jmW     (C:Cos T k X c)(q:okS T c (.asg t d) h=true)(hs:PE X (unE T c d (q0 h)) (lE X (den T.gs (jac T k) d).1)):PS X (unS T c (.asg t d) h) (lS X (denS T.gs (jac T k) (.asg t d))):=by
 have hg:=sTg C.toCok t (q1 h) (ba (ba q).1).2;have q3:=(ba q).2;have fin:YbH [unTg c t (q1 h)] (unE T c d (q0 h)) h.pos.line X.env=pure false/\Ybs [unTg c t (q1 h)] (unE T c d (q0 h)) X.env=pure none:=by
  cases t with
  |n i=>
   refine⟨?_,joU d _ _ _ _⟩;by_cases hl:isLc d=true
   ·cases d with
    |lc=>exact jjk C.kindOf (bn q3)
    |_=>cases hl
   ·exact jkZ (by lia) _ _ _ _
  |t ts=>
   cases d with
   |lc=>cases q3
   |tup es=>exact⟨rfl,jeP C.kindOf C.block q3⟩
   |_=>exact⟨rfl,rfl⟩
 exact s_asg hs hg fin.1 fin.2 (jhv t _ _)
def jmV     (C:Cos T k X c)(q:okS T c (.unp ts d) h=true)(hs:PE X (unE T c d (q0 h)) (lE X (den T.gs (jac T k) d).1)):PS X (unS T c (.unp ts d) h) (lS X (denS T.gs (jac T k) (.unp ts d))):=by
 have hg:=sTgs C.toCok ts (cl (q1 h)) (ba (ba q).1).2;have q3:=(ba q).2;have fin:YbH [unTg c (.t ts) (q1 h)] (unE T c d (q0 h)) h.pos.line X.env=pure false/\Ybs [unTg c (.t ts) (q1 h)] (unE T c d (q0 h)) X.env=pure none:=by
  cases d with
  |lc=>cases q3
  |tup es=>exact⟨rfl,jeP C.kindOf C.block q3⟩
  |_=>exact⟨rfl,rfl⟩
 exact s_unp C.calm hs hg (jcZ ts _ X.env).1 (jcZ ts _ X.env).2 (λus ς k q=>jfF q) fin.1 fin.2 (jhv (.t ts) (q1 h) _)
def jld     (C:Cos T k X c)(q:okS T c (.asgC i d) h=true):PS X (unS T c (.asgC i d) h) (lS X (denS T.gs (jac T k) (.asgC i d))):=by
 have qd:=(ba (ba (ba q).1).1);have hl:=(ba q).2;have hi:=C.nm (ba (ba q).1).2;have hy:=eq_of_beq (ba (ba hl).1).1;cases d with
 |lc pick t it ifs d=>
  have q1':=qd.2;have S:=C.toCok.comp (ba (ba (ba (ba (ba (ba q1').1).1).1).1).1).1;exact s_lc (by rw[C.hN];exact C.nd) hi (by rw[C.sc];exact hy) C.calm S.1 (sI it t _ _ C.toCok (ba (ba (ba (ba q1').1).1).1).2).1 (ba (ba (ba (ba (ba (ba q1').1).1).1).1).1).2
   (λcl A s₀ H₀ fp=>sTg (S.2 cl A s₀ H₀ fp) t _ (ba (ba (ba (ba (ba q1').1).1).1).1).2) (λcl A s₀ H₀ fp=>sC ifs (S.2 cl A s₀ H₀ fp) (of_decide_eq_true (ba (ba q1').1).2) (ba (ba (ba q1').1).1).2)
   (λcl A s₀ H₀ fp=>lE0.of (sE d (S.2 cl A s₀ H₀ fp) (ba q1').2).1) (jjl C.kindOf C.block hl) (jk0 it _ _)
 |_=>cases qd.1
def jjo     (C:Cos T k X c)(q:okS T c (.raise n es) h=true):PS X (unS T c (.raise n es) h) (lS X (denS T.gs (jac T k) (.raise n es))):=by
 have q':(okC T.cs c n&&decide (0<jcp es)&&okEs T c es (cl (qr h)))=true:=q
 match es,q' with
 |.nil,q'=>exact absurd (of_decide_eq_true (ba (ba q').1).2) (Ybo 0)
 |.cons d es,q'=>exact s_raise C.toCok (ba (ba q').1).1 (sEs (.cons d es) C.toCok (ba q').2) (jah (jar d _) _ _) (jcd es _ _ _).1
def Cos.tryC    (C:Cos T k X c)(po:Yes (model X.prog X.w) X.A X.env xe):Cos T k (X.tryC pins xe) c:=
 ⟨⟨C.hN,C.nd,C.loc,C.cel,C.fre,C.glb,C.room,C.calm,po,C.blt,C.fns,C.gls,C.room2,C.cls,C.mgK⟩,C.sc,C.kind,C.stk⟩
mutual
theorem sS:∀(ir:S) {X:Cx} {c:Ctx} {h:Stmt},Cos T k X c->okS T c ir h=true->PS X (unS T c ir h) (lS X (denS T.gs (jac T k) ir))
 |.expr d,_,_,_,C,q=>s_expr (sE d C.toCok (ba q).1).1 (jk1 (bn (ba q).2) _ _ _)
 |.asg _ d,_,_,_,C,q=>jmW C q (sE d C.toCok (ba (ba q).1).1).1
 |.asgC _ _,_,_,_,C,q=>jld C q
 |.unp _ d,_,_,_,C,q=>jmV C q (sE d C.toCok (ba (ba q).1).1).1
 |.setS o i d,_,_,_,C,q=>s_set C.toCok.hu (sE d C.toCok (ba (ba q).1).1).1 (sE o C.toCok (ba (ba q).1).2).1 (sE i C.toCok (ba q).2).1 (jkh d _ _ _ _ _ _).1 (jkh d _ _ _ _ _ 0).2 rfl (jj4 (jar i _) _ _)
 |.ite t a b,_,_,_,C,q=>s_if (sE t C.toCok (ba (ba q).1).1).2 (sSs a C (ba (ba q).1).2) (sSs b C (ba q).2)
 |.fr t it b,_,_,_,C,q=>s_for C.po C.calm (sI it t _ _ C.toCok (ba (ba q).1).2).1 (sTg C.toCok t _ (ba (ba q).1).1) (sSs b C (ba q).2) (sI it t ⟨[],[]⟩ e0 C.toCok (ba (ba q).1).2).2
 |.ret d,_,_,_,C,q=>s_ret (sE d C.toCok q).1
 |.raise _ _,_,_,_,C,q=>jjo C q
 |.tr b _ _ _,_,_,_,C,q=>s_try C (ba (ba (ba (ba (ba (ba (ba (ba q).1).1).1).1).1).1).1).2 (ba (ba (ba (ba (ba (ba (ba q).1).1).1).1).1).1).2 (ba (ba (ba (ba (ba (ba q).1).1).1).1).1).2 (ba (ba (ba (ba (ba q).1).1).1).1).2 (bn (ba (ba (ba (ba q).1).1).1).2) (bn (ba (ba (ba q).1).1).2) (bn (ba (ba q).1).2) (ba q).2
   λ_ _ po=>sSs b (C.tryC po) (ba (ba (ba (ba (ba (ba (ba (ba q).1).1).1).1).1).1).1).1
theorem sSs:∀(ir:Ss) {X:Cx} {c:Ctx} {hs:List Stmt},Cos T k X c->okSs T c ir hs=true->PSs X (unSs T c ir hs) (lS X (jaC T.gs (jac T k) ir))
 |.nil,_,_,_,_,_=>s_nil
 |.cons s r,_,_,_,C,q=>s_cons (t:=denS T.gs (jac T k) s) (u:=jaC T.gs (jac T k) r) (sS s C (ba q).1) (sSs r C (ba q).2)
end
end
section
variable {T:Tab}{k:Nat}{X:Cx}{c:Ctx}
structure CloU (X:Cx)(f:Addr)(Ψ:List U->Gp->K1->KX->Prop):Prop where
 fn:∀(pins:List (Addr×Obj)) (σ:St) (H:Hp) (s:Shared),Inv X pins σ H s->PySem.W.FnAt f s.heap
 run:∀(pins:List (Addr×Obj)) (σ:St) (H:Hp) (s:Shared) (us:List Value) (vs:List V) (Q0:VK) (E0:XK),Inv X pins σ H s->Vals vs us->lSp X.K Ψ vs H Q0 E0->
  codeAny (model X.prog X.w) X.A (.call (.ref f) ⟨us,[]⟩) (CR (CX1 X.prog X.w) X.stack X.prog X.w H s Q0 E0) s
def appD  (i:Nat)(f:Addr)(Ψ:List U->Gp->K1->KX->Prop)(ts:UA):UE:=λς G Q E=>slot ς i λu=>u=.loc f/\ts ς G (λus G1=>Ψ us G1 Q E) E
def jbX     (h:slot ς i φ):∃u,ς[i]?=some (some u)/\φ u:=by
 unfold slot at h
 grind
def jpc          (A:CloU X f Ψ)(hN:X.N[i]?=some x)(hv:Vis X.env.scope x)(hd:(x==("__debug__" : Str))=false)(hcd:(x==("__classdict__" : Str))=false)
  (ha:PA X (e::es) (lA X ts)) (he:Yax (e::es) X.env=(false,eval e X.env)::Yax es X.env) (hpl:(backTo pos (Yax es X.env)).any (·.1)=false) :
  PE X (.Call (.Name x p) (e::es) [] pos) (lE X (appD i f Ψ ts)):=by
 intro pins s σ H Q0 I ⟨ς,G,Q,E,hς,hG,h,lv,lx⟩;obtain⟨u,hu,rfl,h⟩:=jbX h;obtain⟨v,ev,rv⟩:=hς.2 i _ hu;obtain rfl:v=.ref f:=rv;refine YbG (thn (jbo hN hv hd hcd pins s σ H (λv' H'=>v'=.ref f/\H'=H) I ⟨_,ev,rfl,rfl⟩) λu0 s0 ⟨v0,H0,I0,r0,e1,e2⟩=>?_);subst e1;subst e2;obtain rfl:u0=YaQ f:=r0;have h':lA X ts σ H0 λvs H1=>lSp X.K Ψ vs H1 Q0 (EB X σ):=⟨ς,G,_,E,hς,hG,h,λus vs G1 H1 rs hG1 f1 h1=>⟨us,G1,Q,E,rs,hG1,h1,lv.fr f1,λx G' H' C dx xd hr f q pins ea s' I' l=>(lx.fr f1) pins (.ref ea) s' x G' H' I' ⟨ea,C,dx,rfl,l,xd⟩ hr f q⟩,lx⟩;refine PySem.W.callWith_F (first:=[]) (A.fn pins σ H0 s0 I0) (thn (ha pos pins s0 σ H0 _ I0 h') λus s1 ⟨vs,H1,I1,r,q⟩=>⟨A.fn pins σ H1 s1 I1,?_⟩) he hpl
 refine YdV (Ydg (A.run pins σ H1 s1 us vs Q0 (EB X σ) I1 r q) λr s' hq=>?_);cases r with
 |error e=>
  obtain⟨ea,H',cls,dx,rfl,I',l,q⟩:=CX1.back I1 hq;exact q pins ea s' I' l
 |ok fl=>
  cases fl with
  |ret u=>exact I1.after hq
  |next=>exact YbJ hq
  |brk=>exact YbJ hq
  |cont=>exact YbJ hq
noncomputable def irL  (i:Nat):E:=.blt .len (.cons (.v i) .nil)
noncomputable def irFF  : Ss:=.cons (.fr (.n 3) (.r1 (irL 0)) (.cons (.ite (.not (.app 2 (.cons (.v 3) .nil))) (.cons (.ret (.v 3)) .nil) .nil) .nil))
 (.cons (.ret (.ife (.cmp .Lt (irL 0) (.v 1)) (irL 0) .non)) .nil)
def ffB1  (gs:List U)(Δ:Cl)(f:Addr)(Ψ:List U->Gp->K1->KX->Prop):US:=λD ς G=>
 truT (appD 2 f Ψ (jaI gs Δ (.cons (.v 3) .nil))) ς G (λb G1=>if (!b)=true then jaC gs Δ (.cons (.ret (.v 3)) .nil) { D with nx:=λς' G'=>D.nx ς' G' } ς G1 else D.nx ς G1) λx G1=>D.ex x ς G1
def ffD  (gs:List U)(Δ:Cl)(f:Addr)(Ψ:List U->Gp->K1->KX->Prop):US:=λD ς G=>
 denI gs Δ (.r1 (irL 0)) ς G (λxs ok G1=>forL ok (λx ς1 G2 k=>tgU (.n 3) x ς1 λς2=>ffB1 gs Δ f Ψ { D with nx:=k } ς2 G2) xs ς G1 λς' G'=>jaC gs Δ (.cons (.ret (.ife (.cmp .Lt (irL 0) (.v 1)) (irL 0) .non)) .nil) D ς' G') λx G1=>D.ex x ς G1
def jmo     (C:Cos T k X c)(A:CloU X f Ψ)(q:okSs T c irFF hs=true):PSs X (unSs T c irFF hs) (lS X (ffD T.gs (jac T k) f Ψ)):=by
 have q1:=(ba q).1;have q2:=(ba q).2;have qb:=(ba q1).2;have qi:=(ba (ba (ba qb).1).1).1;have qr:=(ba (ba (ba qb).1).1).2;have qe:=(ba qi).2;have pa:=sEs (T:=T) (k:=k) (.cons (.v 3) .nil) C.toCok qe;have ap:=jpc (p:=(c0 (c0 (q0 (qh (qa (qh hs)))))).pos) (pos:=(c0 (q0 (qh (qa (qh hs))))).pos) A (C.nm (ba (ba (ba (ba qi).1).1).1).1) (C.vis (ba (ba (ba (ba qi).1).1).1).2) (bn (ba (ba (ba qi).1).1).2) (bn (ba (ba qi).1).2) pa (jah (jar (.v 3) _) _ _) rfl;have hb:PSs X (unSs T c (.cons (.ite (.not (.app 2 (.cons (.v 3) .nil))) (.cons (.ret (.v 3)) .nil) .nil) .nil) (qa (qh hs))) (lS X (ffB1 T.gs (jac T k) f Ψ)):=
  s_cons (s_if (jkj (jmF ap λ_=>rfl)) (sSs (.cons (.ret (.v 3)) .nil) C qr) s_nil) s_nil
 have hf:=s_for C.po C.calm (sI (.r1 (irL 0)) (.n 3) c (Z.q1 (qh hs)) C.toCok (ba (ba q1).1).2).1 (sTg C.toCok (.n 3) (Z.q1 (qh hs)) (ba (ba q1).1).1) hb (sI (.r1 (irL 0)) (.n 3) ⟨[],[]⟩ e0 C.toCok (ba (ba q1).1).2).2 (pos:=(qh hs).pos);have he:=s_cons hf (sSs (.cons (.ret (.ife (.cmp .Lt (irL 0) (.v 1)) (irL 0) .non)) .nil) C q2);exact he
end
noncomputable def vsE  : Nat->Nat->Es
 |_,0=>.nil
 |i,n+1=>.cons (.v i) (vsE (i+1) n)
noncomputable def ffB  (m fi:Nat):Ss:=.cons (.fr (.n (m+2)) (.r1 (irL m)) (.cons (.ite (.not (.call fi (.cons (.v (m+2)) (vsE 0 m)))) (.cons (.ret (.v (m+2))) .nil) .nil) .nil))
 (.cons (.ret (.ife (.cmp .Lt (irL m) (.v (m+1))) (irL m) .non)) .nil)
section
variable {gs:List U}{Δ Δ':Cl}
def jc3      (e:ς[i]?=some (some u)):slot ς i φ=φ u:=by unfold slot;rw[e]
theorem jkg     : ∀{cs } {i } {Q },(∀j u,cs[j]?=some u->ς[i+j]?=some (some u))->jaI gs Δ (vsE i cs.length) ς G Q X=Q cs G
 |[],_,_,_=>rfl
 |u::cs,i,Q,e=>by
  show(slot ς i λx=>jaI gs Δ (vsE (i+1) cs.length) ς G (λxs G2=>Q (x::xs) G2) X)=_;rw[jc3 (show ς[i]?=some (some u)from e 0 u rfl)];exact jkg (λj v hj=>by rw[show i+1+j=i+(j+1) by lia];simp_all)
def jco        (e:ς[i]?=some (some w)):(den gs Δ (irL i)).1 ς G Q X=bltU .len [w] G Q:=by
 show(slot ς i λx=>bltU .len [x] G Q)=_;rw[jc3 e]
noncomputable def sgA  (cs:List U)(w l:U)(a:Option U):Sg:=(cs++[w,l]).map some++[a]
def jps     : ∀j u,cs[j]?=some u->(sgA cs w l a)[0+j]?=some (some u):=λj u e=>by
 have hj:=(List.getElem?_eq_some_iff.mp e).1;unfold sgA;rw[YcI,YaM (by simp;lia),Yay,YaM hj,e]
 rfl
def jlj     : (sgA cs w l a)[cs.length]?=some (some w):=by
 unfold sgA
 simp_all
def jpr     : (sgA cs w l a)[cs.length+1]?=some (some l):=by
 unfold sgA
 simp_all
def jm1     : (sgA cs w l a)[cs.length+2]?=some a:=by
 unfold sgA
 simp_all
def jlk     : (sgA cs w l a).set (cs.length+2) (some x)=sgA cs w l (some x):=by
 unfold sgA
 simp_all
def jhG    : jae (cs.length+3) (cs++[w,l])=sgA cs w l none:=by
 unfold jae sgA;simp
theorem jiI   {b b':U->Sg->Gp->(Sg->Gp->Prop)->Prop}{A B:Option U->Sg}{k k':Sg->Gp->Prop}
  (hb:∀x a G (kk kk':Sg->Gp->Prop),(∀a G,kk (A a) G=kk' (B a) G)->b x (A a) G kk=b' x (B a) G kk') (hk:∀a G,k (A a) G=k' (B a) G) :
  ∀xs a G ,forL ok b xs (A a) G k=forL ok b' xs (B a) G k'
 |[],a,G=>congrArg (ok G/\·) (hk a G)
 |x::xs,a,G=>congrArg (ok G/\·) (hb x a G _ _ λa G=>jiI hb hk xs a G)
def jow        {ex:KX} :
  jaC gs Δ (ffB cs.length fi) ⟨n0,rt,λx _ G'=>ex x G'⟩ (jae (cs.length+3) (cs++[w,l])) G=ffD gs Δ' f (λus G Q E=>Δ fi (us++cs) G Q E) ⟨n1,rt,λx _ G'=>ex x G'⟩ [some w,some l,some (.loc f),none] G:=by
 rw[jhG];have last:∀(a:Option U) (G:Gp),jaC gs Δ (.cons (.ret (.ife (.cmp .Lt (irL cs.length) (.v (cs.length+1))) (irL cs.length) .non)) .nil) ⟨n0,rt,λx _ G'=>ex x G'⟩ (sgA cs w l a) G =
   jaC gs Δ' (.cons (.ret (.ife (.cmp .Lt (irL 0) (.v 1)) (irL 0) .non)) .nil) ⟨n1,rt,λx _ G'=>ex x G'⟩ [some w,some l,some (.loc f),a] G:=λa G=>by
  show(den gs Δ (irL cs.length)).1 (sgA cs w l a) G (λx G1=>slot (sgA cs w l a) (cs.length+1) λy=>cmpU .Lt x y G1 λc=>truU (.bl c) G1 λb=>if b=true then (den gs Δ (irL cs.length)).1 (sgA cs w l a) G1 rt ex else rt .non G1) ex =
   (den gs Δ' (irL 0)).1 [some w,some l,some (.loc f),a] G (λx G1=>cmpU .Lt x l G1 λc=>truU (.bl c) G1 λb=>if b=true then (den gs Δ' (irL 0)).1 [some w,some l,some (.loc f),a] G1 rt ex else rt .non G1) ex
  rw[jco jlj,jco rfl];congr 1;funext x G1;rw[jc3 jpr,jco jlj,jco rfl]
 show(den gs Δ (irL cs.length)).1 (sgA cs w l none) G (λx G1=>match x with
   |.int j=>-(2 ^ 62)<=j/\j<2 ^ 62/\forL (λ_=>True) (λx ς1 G2 k=>jaC gs Δ (.cons (.ite (.not (.call fi (.cons (.v (cs.length+2)) (vsE 0 cs.length)))) (.cons (.ret (.v (cs.length+2))) .nil) .nil) .nil) ⟨k,rt,λx _ G'=>ex x G'⟩ (ς1.set (cs.length+2) (some x)) G2) (rngU 0 j.toNat) (sgA cs w l none) G1
    λς' G'=>jaC gs Δ (.cons (.ret (.ife (.cmp .Lt (irL cs.length) (.v (cs.length+1))) (irL cs.length) .non)) .nil) ⟨n0,rt,λx _ G'=>ex x G'⟩ ς' G'
   |_=>False) ex =
  (den gs Δ' (irL 0)).1 [some w,some l,some (.loc f),none] G (λx G1=>match x with
   |.int j=>-(2 ^ 62)<=j/\j<2 ^ 62/\forL (λ_=>True) (λx ς1 G2 k=>ffB1 gs Δ' f (λus G Q E=>Δ fi (us++cs) G Q E) ⟨k,rt,λx _ G'=>ex x G'⟩ (ς1.set 3 (some x)) G2) (rngU 0 j.toNat) [some w,some l,some (.loc f),none] G1
    λς' G'=>jaC gs Δ' (.cons (.ret (.ife (.cmp .Lt (irL 0) (.v 1)) (irL 0) .non)) .nil) ⟨n1,rt,λx _ G'=>ex x G'⟩ ς' G'
   |_=>False) ex
 rw[jco jlj,jco rfl];congr 1;funext x G1;cases x with
 |int j=>
  refine congrArg (-(2 ^ 62)<=j/\j<2 ^ 62/\·) (jiI (A:=sgA cs w l) (B:=λa=>[some w,some l,some (.loc f),a]) (λx a G kk kk' hkk=>?_) last _ _ _);rw[jlk];show(slot (sgA cs w l (some x)) (cs.length+2) λu=>jaI gs Δ (vsE 0 cs.length) (sgA cs w l (some x)) G (λus G1=>Δ fi (u::us) G1 (λr G2=>truU r G2 λb=>if (!b)=true then (slot (sgA cs w l (some x)) (cs.length+2) λz=>rt z G2) else kk (sgA cs w l (some x)) G2) ex) ex) =
   (U.loc f=.loc f/\Δ fi (x::cs) G (λr G2=>truU r G2 λb=>if (!b)=true then rt x G2 else kk' [some w,some l,some (.loc f),some x] G2) ex)
  rw[jc3 jm1,jkg jps];have e:(λr G2=>truU r G2 λb=>if (!b)=true then (slot (sgA cs w l (some x)) (cs.length+2) λz=>rt z G2) else kk (sgA cs w l (some x)) G2)=λ(r:U) (G2:Gp)=>truU r G2 λb=>if (!b)=true then rt x G2 else kk' [some w,some l,some (.loc f),some x] G2:=by
   funext r G2;rw[jc3 jm1,hkk]
  lia
 |_=>rfl
end
def jgR  {T:Tab}{n:Nat}(h:T.funs[n]?=some d):(T.funs++T.vf)[n]?=some d:=by
 grind
def jbU  {T:Tab}(hd:(T.funs++T.vf)[n]?=some d){E:KX}(h:jac T (k+1) n us G Q E) :
  us.length=d.ps.length/\jaC T.gs (jac T k) d.body ⟨λ_ G'=>Q .non G',Q,λx _ G'=>E x G'⟩ (jae d.N.length us) G:=by
 have h':(match (T.funs++T.vf)[n]? with|some d=>us.length=d.ps.length/\jaC T.gs (jac T k) d.body ⟨λ_ G'=>Q .non G',Q,λx _ G'=>E x G'⟩ (jae d.N.length us) G|none=>False):=h
 lia
def jhP     (e:a=b)(h:PSs X a t):PSs X b t:=e ▸ h
def jc2       (r:RUs K H us vs):SR K H (jae N.length us) (L2.start N vs):=by
 unfold jae L2.start;refine⟨by simp[r.length],λi u e=>?_⟩
 by_cases hi:i<us.length
 ·rw[YaM (by simp_all),Yay]at e
  cases q:us[i]? with
  |none=>simp_all
  |some w=>
   rw[q]at e;have:w=u:=by simpa using e
   subst this;obtain⟨v,ev,rv⟩:=r.get q;have hv:i<vs.length:=by rw[<- r.length];exact hi
   exact⟨v,by rw[YaM (by simpa using hv),Yay,ev];rfl,rv⟩
 ·rw[Yby (by simpa using hi),Ycu]at e
  split at e<;>cases e
structure PF (T:Tab)(P:Program)(w:World)(K:Yab)(mg:Str->Option Value)(base:Heap)(k:Nat):Prop where
 blt:∀x∈jcb,mg x=none
 fns:∀(n:Nat) (d:Fun),T.funs[n]?=some d->FnU P w K mg base k d (jac T k n)
 gls:∀(n:Nat) (x:Str) (u:U),T.gn[n]?=some x->T.gs[n]?=some u->∃v w,mg x=some w/\RelV v w/\∀H,RU K H u v
 cls:∀n∈T.cs,1<=n->∃C,XCls K (gK K) (clsN n) (clsF n) C
 mgK:∀x v,gK K x=some v->mg x=some v
def Inv.tsU    {σ:St}(I:Inv X pins σ H s):TS X.H₀ H:=⟨I.base.tups,λa o e=>I.base.frzs a o _ e⟩

def joJ  {T: Tab}{cl:List (Str×Addr)}{n:Nat} 
  (F:PF T X.prog X.w X.K X.mg X.base (j-1)) (hex:X.ex=[]) (ho:X.s₀.heap.get? f=some (Yer name qual params body scope cl doc pm c' ctv)) (hn:X.H₀ f=none) (hfs:f∉X.fs) (hc:X.H₀ c'=some (frzC oc)) (hco:jmC oc qual) (S:CloScope d.N ps scope)
  (hcl:∀x c,cl.lookup x=some c->scope.names.lookup x=some .free/\(∃v,X.s₀.heap.IsCell c v)/\X.H₀ c=none/\c∉X.fs) (inj:∀x y c,cl.lookup x=some c->cl.lookup y=some c->x=y) (has:∀x,scope.names.lookup x=some .free->∃c,cl.lookup x=some c)
  (hv:∀i x v,d.N[ps.length+i]?=some x->cvs[i]?=some v->scope.names.lookup x=some .free/\∃c u,cl.lookup x=some c/\RelV v u/\X.s₀.heap.IsCell c (some u))
  (rc:RUs X.K X.H₀ cs cvs) (hdp:d.ps.length=ps.length+cs.length) (hNl:d.ps.length<=d.N.length)
  (hb:∀(s:Shared) (us:List Value),us.length=ps.length->BindsTo s (PySem.W.fnX name qual params body scope cl .none .none doc pm none (.ref c') ctv) ⟨us,[]⟩ (ps.zip us))
  (hr:Room (j+2) X.A) (hd:(T.funs++T.vf)[n]?=some d) (ok:okSs T ⟨d.N,scope.names⟩ d.body body=true) (un:unSs T ⟨d.N,scope.names⟩ d.body body=body) :
  CloU X f λus G Q E=>jac T j n (us++cs) G Q E:=by
 have noX:∀b,b∉X.ex:=λb z=>by simp_all
 have cellK:∀{pins:List (Addr×Obj)} {σ:St} {H:Hp} {s:Shared} {x:Str} {c:Addr} {v:Option Value},Inv X pins σ H s->cl.lookup x=some c->X.s₀.heap.IsCell c v->s.heap.IsCell c v:=λ{pins σ H s x c v} I e ⟨o,h1,h2⟩=>
  ⟨o,I.base.keep c o h1 (hcl x c e).2.2.1 (hcl x c e).2.2.2 (noX c),h2⟩
 refine⟨λpins σ H s I=>⟨_,_,_,_,I.base.keep f _ ho hn hfs (noX f)⟩,λpins σ H s us vs Q0 E0 I r hsp=>?_⟩;obtain⟨zs,G,Q,E,rz,hG,h,lv,lx⟩:=hsp;obtain _|k:=j
 ·exact(show False from h).elim
 obtain⟨hl,h⟩:=jbU hd h;rw[YaA]at hl;have hvl:vs.length=ps.length:=by rw[<- rz.length];lia
 have hcH:H c'=some (frzC oc):=I.base.frzs c' oc _ hc;obtain⟨hco1,_⟩:=I.hok c' _ hcH;obtain⟨wv,wt,w1,w2⟩:=hco;have rc':=rc.ts (Inv.tsU I);refine jmw (k:=k+2) (cvs:=cvs) (N:=d.N) (ps:=ps) (I.base.keep f _ ho hn hfs (noX f)) rfl ⟨c',oc,wv,wt,rfl,hco1,w1,w2⟩ S hr I.env0 (hb s us (by rw[<- r.length];exact hvl)) r hvl (by rw[<- rc.length];lia)
  (λx c e=>⟨(hcl x c e).1,let ⟨v,z⟩:=(hcl x c e).2.1;⟨v,cellK I e z⟩,let ⟨_,o,h1,_⟩:=(hcl x c e).2.1;I.base.free c o h1 (hcl x c e).2.2.1 (noX c)⟩) inj has
  (λi x v e1 e2=>let ⟨a,c,u,e,rv,z⟩:=hv i x v e1 e2;⟨a,c,u,e,rv,cellK I e z⟩) λhroom=>?_
 refine⟨_,jhP un (sSs d.body (k:=k) (c:=⟨d.N,scope.names⟩) (hs:=body) ⟨⟨rfl,S.nd,λx z=>eq_of_beq z,λx z=>⟨eq_of_beq z,by show(scope.names.lookup x != some .free)=true;rw[eq_of_beq z];rfl⟩,λx z=>.inr (eq_of_beq z),λx z=>eq_of_beq z,hroom.mono (by lia),rfl,jlz,F.blt,F.fns,F.gls,hroom,F.cls,F.mgK⟩,rfl,S.kind,rfl,rfl⟩ ok),?_⟩
 exact⟨_,_,G,jc2 (rz.append rc'),hG,h,⟨λς' σ' G' H' a b c q=>lv .non .non G' H' rfl b c q,λw v G' H' a b c q=>lv w v G' H' a b c q,λpins e s' x ς' σ' G' H' I sr xat hr' f q=>by obtain⟨ea,C0,dx,rfl,l,xd⟩:=xat;exact CX1.outC I l (lx x G' H' C0 dx xd hr' f q)⟩⟩
def HR.tabNew         (h:HR K H G)(hU:∀t∈tabs,∀t'∈tabs,t.1=t'.1->t=t')(ht:(P,pos,q)∈tabs)(n:jkU H H' P pos q c oc):HR K H' G/\Fr H G H' G:=by
 obtain⟨hc,hco,rfl|⟨hP,hn,rfl⟩⟩:=n
 ·exact⟨h,Fr.refl _ _⟩
 have oth:∀b,b≠P->b≠c->L2.upd (L2.upd H c (frzC oc)) P (.tbl #[rawInt pos.line,rawInt pos.col,.ref c]) b=H b:=λb h1 h2=>by rw[jad h1,jad h2]
 have neC:∀{b u},H b=some u->b≠c:=λ{b u} e z=>by lia
 have ts:TS H (L2.upd (L2.upd H c (frzC oc)) P (.tbl #[rawInt pos.line,rawInt pos.col,.ref c])):=⟨λa xs e=>by grind,λa xs e=>by grind⟩
 refine⟨⟨λa o g=>?_,λt hm=>?_⟩,⟨λa o e g nt=>⟨?_,g⟩⟩⟩
 ·have m:=h a o g;obtain⟨ho,e⟩:=m.there;exact m.keep (oth a (λz=>by rw[z,h.tblNone hP]at g;cases g) (neC e)) ts
 ·by_cases e:t.1=P
  ·obtain rfl:=hU t hm _ ht e;exact .inr ⟨c,oc,jag,hc,hco⟩
  ·rcases h.tab t hm with e1|⟨c2,oc2,e1,e2,q2⟩
   ·exact .inl (by simp_all)
   ·exact .inr ⟨c2,oc2,by simp_all,ts.cod _ _ e2,q2⟩
 ·rw[oth a (λz=>by rw[z,hP]at e;cases e;cases nt) (neC e)];exact e
end Z

namespace Z
open PySem L2
noncomputable def nDef  (st:Stmt):Stmt:=(jaf st).getD 0 (.Pass ⟨0,0,0,0⟩)
noncomputable def capE  : List Nat->Es->Es
 |[],r=>r
 |i::is,r=>.cons (.v i) (capE is r)
structure NestS (T:Tab)(sts:List Stmt)(d:Fun)(st:Stmt)(z:Nst)(dff:Fun)(stff:Stmt)(dv dc:Fun):Prop where
 sc:FnScope d.N d.ps (jaa st)
 body:d.body=.cons (.ret (.call z.vi (capE z.caps (.cons (.v z.wi) (.cons (.int z.least) .nil))))) .nil
 text:∃pos p1 p2 p3 p4 p5 p6 j,jaf st=[.FunctionDef z.fn (jaA (nDef st)) (jaf (nDef st)) [] none [] (jaa (nDef st)) none z.fn pos,.Return (some (.Call (.Name dff.name p1) [.Name z.wn p2,.Constant (.int z.least) j p3,.Name z.fn p4] [] p5)) p6]/\(z.P,pos,d.name ++ ".<locals>." ++ z.fn)∈tabs
 wi:d.N[z.wi]?=some z.wn
 wv:(jaa st).names.lookup z.wn=some .local\/(jaa st).names.lookup z.wn=some .cell
 fi:d.N[z.fni]?=some z.fn
 fl:(jaa st).names.lookup z.fn=some .local
 gl:(jaa st).names.lookup dff.name=some .globalImplicit
 dbg:(z.wn==("__debug__" : Str))=false/\(z.wn==("__classdict__" : Str))=false/\(z.fn==("__debug__" : Str))=false/\(z.fn==("__classdict__" : Str))=false/\(dff.name==("__debug__" : Str))=false
 caps:∀(i j:Nat),z.caps[i]?=some j->j<d.ps.length/\∃x,d.N[j]?=some x/\dc.N[1+i]?=some x/\(jaa (nDef st)).names.lookup x=some .free/\(jaa st).names.lookup x=some .cell
 wlt:z.wi<d.ps.length
 fge:d.ps.length<=z.fni
 frees:∀y∈(jaa (nDef st)).names,y.2=.free->(jaa st).names.lookup y.1=some .cell
 cs:CloScope dc.N [z.at'] (jaa (nDef st))
 args:(jaA (nDef st)).defaults=[]/\(jaA (nDef st)).kw_defaults=[]
 ann:∀env,annTrees (jaA (nDef st)) none env=[]
 bind:∀(qual:Str) (cl:List (Str×Addr)) (doc pm cv ctv u:Value),YfU (PySem.W.fnX z.fn qual (jaA (nDef st)) (jaf (nDef st)) (jaa (nDef st)) cl .none .none doc pm none cv ctv) ⟨[u],[]⟩=pure [(z.at',u)]
 ff:T.funs[z.ff]?=some dff
 ffs:sts[z.ff]?=some stff
 ffb:dff.body=irFF
 ffp:dff.ps.length=3
 ffl:dff.N.length=4
 hdv:(T.funs++T.vf)[z.vi]?=some dv
 dvb:dv.body=ffB z.caps.length z.fi
 dvN:dv.N.length=z.caps.length+3
 hdc:(T.funs++T.vf)[z.fi]?=some dc
 dcp:dc.ps.length=1+z.caps.length
 dcN:dc.ps.length<=dc.N.length
 ok:okSs T ⟨dc.N,(jaa (nDef st)).names⟩ dc.body (jaf (nDef st))=true
 un:unSs T ⟨dc.N,(jaa (nDef st)).names⟩ dc.body (jaf (nDef st))=jaf (nDef st)
theorem jga        : ∀{is } {Q },jaI gs Δ (capE is r) ς G Q X->∃cs ,cs.length=is.length/\(∀(i j:Nat),is[i]?=some j->∃u,cs[i]?=some u/\ς[j]?=some (some u))/\jaI gs Δ r ς G (λus G'=>Q (cs++us) G') X
 |[],_,h=>⟨[],rfl,λ_ _ e=>by simp at e,h⟩
 |i::is,Q,h=>by
  have h':slot ς i λx=>jaI gs Δ (capE is r) ς G (λxs G2=>Q (x::xs) G2) X:=h;obtain⟨u,e,h'⟩:=jbX h';obtain⟨cs,h1,h2,h3⟩:=jga h';refine⟨u::cs,by simp[h1],λa j ej=>?_,h3⟩
  cases a with
  |zero=>simp_all
  |succ a=>simp_all
def jdQ  {n i:Nat}(h:(jae n us)[i]?=some (some u)):us[i]?=some u:=by
 unfold jae at h;by_cases hi:i<us.length
 ·rw[YaM (by simpa using hi),Yay]at h
  cases e:us[i]? with
  |none=>rw[e]at h;cases h
  |some a=>rw[e]at h;simpa using h
 ·rw[Yby (by simpa using hi),Ycu]at h
  split at h<;>cases h
def jgq    {i:Nat}(h:vs[i]?=some v):(L2.start N vs)[i]?=some (some v):=by
 unfold L2.start;have hi:=(List.getElem?_eq_some_iff.mp h).1;rw[YaM (by simpa using hi),Yay,h]
 rfl
theorem jfq      (r:RUs K H us vs):∀{is:List Nat} {cs },cs.length=is.length->(∀(i j:Nat),is[i]?=some j->∃u,cs[i]?=some u/\us[j]?=some u)->∃cvs ,RUs K H cs cvs/\cvs.length=is.length/\∀(i j:Nat) v ,is[i]?=some j->cvs[i]?=some v->vs[j]?=some v
 |[],[],_,_=>⟨[],rfl,rfl,λ_ _ _ e=>by simp at e⟩
 |[],_::_,h,_=>by simp at h
 |_::_,[],h,_=>by simp at h
 |j::is,c::cs,hl,h=>by
  obtain⟨u,e1,e2⟩:=h 0 j rfl;have:c=u:=by simp_all
  subst this;obtain⟨v,ev,rv⟩:=r.get e2;obtain⟨cvs,r2,l2,g2⟩:=jfq r (is:=is) (cs:=cs) (by simp_all) λi j' e=>by simpa using h (i+1) j' (by simpa using e)
  refine⟨v::cvs,⟨v,cvs,rfl,rv,r2⟩,by simp[l2],λi j' w e e'=>?_⟩
  cases i with
  |zero=>simp at e e';subst e;subst e';exact ev
  |succ i=>exact g2 i j' w (by simpa using e) (by simpa using e')

def jlV  {T: Tab}{sts:List Stmt}(N:NestS T sts d st z dff stff dv dc)(hU:∀t∈tabs,∀t'∈tabs,t.1=t'.1->t=t')(Sff:FnScope dff.N dff.ps (jaa stff))(okf:okSs T ⟨dff.N,(jaa stff).names⟩ dff.body (jaf stff)=true)(unf:unSs T ⟨dff.N,(jaa stff).names⟩ dff.body (jaf stff)=jaf stff)
  (F:L2.Fun K d.name d.name st f fd) (Fff:L2.Fun K dff.name dff.name stff fff fdff) (mff:mg dff.name=some (.ref fff)) (bff:Binds K fdff dff.ps []) (hcode:∃c,fd.code=.ref c/\Yf8 base c z.P) (hB:BmAt mg base) (pf:PF T P w K mg base (j-1)) (hd:(T.funs++T.vf)[n]?=some d) :
  FnOk P w K mg base (CX1 P w) (j+4) f fd d.ps (lSp K (jac T (j+2) n)):=by
 have len:∀vs H Q E,lSp K (jac T (j+2) n) vs H Q E->vs.length=d.ps.length:=λvs H Q E ⟨us,G,Q',E',r,hG,h,lv,lx⟩=>by rw[<- r.length];exact(jbU hd h).1
 refine⟨len,λA outer s H args us0 vs Q E hr e0 hb r hsp=>F.runX (k:=j+3) N.sc hr e0 hb r (len _ _ _ _ hsp) λcdv hcdv hroom=>?_⟩;have hvl:=len _ _ _ _ hsp;obtain⟨us,G,Q',E',ru,hG,h,lv,lx⟩:=hsp;obtain⟨hul,h⟩:=jbU hd h;rw[N.body]at h;have h:jaI T.gs (jac T (j+1)) (capE z.caps (.cons (.v z.wi) (.cons (.int z.least) .nil))) (jae d.N.length us) G (λzs G1=>jac T (j+1) z.vi zs G1 Q' λx G'=>E' x G') λx G'=>E' x G':=h;obtain⟨cs,csl,csg,h⟩:=jga h;have h:slot (jae d.N.length us) z.wi λx=>jac T (j+1) z.vi (cs++[x,.int z.least]) G Q' λx G'=>E' x G':=h;obtain⟨uw,euw,h⟩:=jbX h;have euw:=jdQ euw;obtain⟨vw,evw,rvw⟩:=ru.get euw;obtain⟨cvs,rcs,cvl,cvg⟩:=jfq ru csl λi j e=>let ⟨u,a,b⟩:=csg i j e;⟨u,a,jdQ b⟩
 obtain⟨_,h⟩:=jbU N.hdv h;rw[N.dvb,N.dvN,<- csl]at h;obtain⟨c,hcc,hCH⟩:=hcode;obtain⟨pos,p1,p2,p3,p4,p5,p6,jj,text,htab⟩:=N.text
 let X0:=cx1 P w K mg base d.N d.name (jaa st) f cdv A outer s H E
 refine⟨λD σ' H'=>σ'=L2.start d.N vs/\H'=H/\D.rt=Q,λpins s1 σ1 H1 D I ⟨e1,e2,e3⟩=>?_,rfl,rfl,rfl⟩;subst e1;subst e2;subst e3;rw[text];have hq:Yc0 X0.env z.fn z.fn=d.name ++ ".<locals>." ++ z.fn:=by
  unfold Yc0;have:X0.env.kindOf z.fn=some .local:=N.fl;rw[this];rfl
 refine Yb0 (jjV (X:=X0) (c:=c) (P:=z.P) (i:=z.fni) I N.sc.nd N.fi (.inl N.fl) (.inr N.fl) (hcdv.symm.trans hcc) hCH hB (by rw[hq];exact hG.tab _ htab) N.args.1 N.args.2 (N.ann _)
  (λy hy hf=>I.ok.has y.1 (.inl (N.frees y hy hf))) λf' c' oc doc ctv H' s2 tn J=>?_)
 rw[hq]at tn J;obtain⟨hG',fr'⟩:=hG.tabNew hU htab tn
 let σ2:St:=(L2.start d.N vs).set z.fni (some (.ref f'))
 have hws:σ2[z.wi]?=some (some vw):=by
  show((L2.start d.N vs).set z.fni (some (.ref f')))[z.wi]?=_;rw[Ya3 (by have:=N.wlt;have:=N.fge;lia)]
  exact jgq evw
 have hfs:σ2[z.fni]?=some (some (.ref f')):=by
  show((L2.start d.N vs).set z.fni (some (.ref f')))[z.fni]?=_;rw[Ybu (by have:=I.len;rw[this];exact(List.getElem?_eq_some_iff.mp N.fi).1)]
 have hcall:wpAny (model X0.prog X0.w) X0.A (eval (.Call (.Name dff.name p1) [.Name z.wn p2,.Constant (.int z.least) jj p3,.Name z.fn p4] [] p5) X0.env) (EP X0 (pins++[(f',Yer z.fn (d.name ++ ".<locals>." ++ z.fn) (jaA (nDef st)) (jaf (nDef st)) (jaa (nDef st)) (jbF X0.env.cells (jaa (nDef st)).names []) doc ((mg "__name__").getD .none) c' ctv)]) σ2 D.rt) X0.xe s2:=by
  have pa:PA X0 [.Name z.wn p2,.Constant (.int z.least) jj p3,.Name z.fn p4] (jjj (tVar z.wi) (jjj (tC (.int z.least)) (jjj (tVar z.fni) tNil))):=
   jaN (jbo N.wi (N.wv.imp id λq=>.inl q) N.dbg.1 N.dbg.2.1) (jaN jkv (jaN (jbo N.fi (.inl N.fl) N.dbg.2.2.1 N.dbg.2.2.2.1) jc4))
  refine YbG (jcq J N.gl mff ?_ N.dbg.2.2.2.2);refine YdC (h₀:=base) J.ok.mod.kin Fff.kp (thn (pa p5 _ s2 σ2 H' (λvs3 H3=>vs3=[vw,.int z.least,.ref f']/\H3=H') J ⟨_,hws,_,hfs,rfl,rfl⟩) λus3 s3 ⟨vs3,H3,J3,r3,e1,e2⟩=>⟨J3.kIn,?_⟩) rfl rfl;subst e1;subst e2;have l3:us3.length=dff.ps.length:=by rw[<- r3.length,N.ffp];rfl
  have hb3:=bff s3 us3 J3.kIn (by simp_all)
  rw[YbM]at hb3;refine YdV (Ydg (Fff.runX (k:=j+2) (Q:=D.rt) (E:=EB X0 σ2) Sff hroom J3.env0 hb3 r3 (by rw[N.ffp];rfl) λcdv2 _ hroom2=>?_) λr s' hq=>?_)
  ·have hp:=J3.pin (f',Yer z.fn (d.name ++ ".<locals>." ++ z.fn) (jaA (nDef st)) (jaf (nDef st)) (jaa (nDef st)) (jbF X0.env.cells (jaa (nDef st)).names []) doc ((mg "__name__").getD .none) c' ctv) (YaD _ (YaD _ (List.mem_singleton.mpr rfl)));obtain⟨hp1,hp2,hp3,hp4,_⟩:=hp;have nofs:∀b,b≠X0.env.locals->b∉X0.fs->b∉frs X0.stack:=λb h1 h2 hb=>(YaG.mp (J3.stkSub b hb)).elim h1 h2;have clof:∀x c,(jbF X0.env.cells (jaa (nDef st)).names []).lookup x=some c->X0.env.cells.lookup x=some c/\(x,YaB)∈(jaa (nDef st)).names:=λx c e=>(jgX e).elim id λz=>by cases z
   obtain⟨m,hns,hloc⟩:=J3.loc;have CLO:=joJ (T:=T) (j:=j) (X:=cx1 P w K mg base dff.N dff.name (jaa stff) fff cdv2 X0.A X0.stack s3 H3 (EB X0 σ2)) (d:=dc) (n:=z.fi) (cs:=cs) (cvs:=cvs) (ps:=[z.at']) pf rfl hp1 hp2 (nofs f' hp3 hp4) tn.1 tn.2.1 N.cs
    (λx c e=>⟨N.cs.frees x (clof x c e).2,J3.cell x c (clof x c e).1,J3.freeC x c (clof x c e).1,nofs c (J3.cne x c (clof x c e).1) λhb=>by
     obtain⟨_,o,ho,_⟩:=J3.ok.funs.mem hb;exact absurd (Yak ho) (Nat.not_lt.mpr (J3.ok.cab x c rfl (clof x c e).1))⟩)
    (λx y c e1 e2=>J3.ok.inj x y c (clof x c e1).1 (clof y c e2).1)
    (λx e=>by
     have hm:=Yaz e;obtain⟨c,hc⟩:=J3.ok.has x (.inl (N.frees _ hm rfl));exact⟨c,jdC hc hm⟩)
    (λi x v e1 e2=>by
     have hi:i<z.caps.length:=by grind
     obtain⟨jl,y,g1,g2,g3,g4⟩:=N.caps i z.caps[i] (by simp[hi])
     have:x=y:=by
      simp_all
     subst this;refine⟨g3,?_⟩;have ev:=cvg i z.caps[i] v (by simp[hi]) e2
     have es:σ2[z.caps[i]]?=some (some v):=by
      show((L2.start d.N vs).set z.fni (some (.ref f')))[z.caps[i]]?=_;rw[Ya3 (by have:=N.fge;lia)]
      exact jgq ev
     obtain⟨u,rv,lk⟩:=hloc z.caps[i] x v g1 es (.inr (.inl g4));rcases lk with⟨k1,_⟩|⟨_,c,hc,hcell⟩
     ·have k2:(jaa st).names.lookup x=some .local:=k1
      lia
     ·exact⟨c,u,jdC hc (Yaz g3),rv,hcell⟩)
    (rcs.ts (fr'.ts hG)) (by rw[N.dcp,csl];rfl) N.dcN (λs us hl=>by
     obtain _|⟨u,_|⟨_,_⟩⟩:=us
     ·cases hl
     ·exact .of_eq (N.bind _ _ _ _ _ _ _)
     ·cases hl) hroom2 N.hdc N.ok N.un
   refine⟨_,jhP unf (by
    rw[N.ffb]at okf ⊢;exact jmo (T:=T) (k:=j-1) (c:=⟨dff.N,(jaa stff).names⟩) ⟨⟨rfl,Sff.nd,λx z=>eq_of_beq z,λx z=>⟨eq_of_beq z,rfl⟩,λx z=>.inr (eq_of_beq z),λx z=>eq_of_beq z,hroom2.mono (by lia),rfl,jlz,pf.blt,pf.fns,pf.gls,hroom2.mono (by lia),pf.cls,pf.mgK⟩,rfl,Sff.kind,rfl,rfl⟩ CLO okf),?_⟩
   have ru3:RUs K H3 [uw,.int z.least,.loc f'] [vw,.int z.least,.ref f']:=⟨_,_,rfl,rvw.ts (fr'.ts hG),_,_,rfl,rfl,_,_,rfl,rfl,rfl⟩;have sr:=jc2 (N:=dff.N) ru3;rw[N.ffl]at sr;refine⟨⟨λ_ _=>False,Q',λx _ G'=>E' x G'⟩,_,G,sr,hG',jow.mp h,⟨λ_ _ _ _ _ _ _ q=>q.elim,λw v G' H' a b c q=>lv w v G' H' a b (fr'.trans c) q,λpins e s' x ς' σ' G' H' I1 sr xat hr' fx q=>?_⟩⟩;obtain⟨ea,C0,dx,rfl,l,xd⟩:=xat;exact CX1.out1 I1 l λpins' ea' s'' I'' l''=>CX1.out1 I'' l'' (lx x G' H' C0 dx xd hr' (fr'.trans fx) q)
  ·cases r with
   |error e=>
    obtain⟨ea,H',cls,dx,rfl,I',l,q⟩:=CX1.back J3 hq;exact q _ ea s' I' l
   |ok fl=>
    cases fl with
    |ret u=>exact J3.after hq
    |next=>exact YbJ hq
    |brk=>exact YbJ hq
    |cont=>exact YbJ hq
 refine Yb0 (wpAny_Return_some (thn hcall λu s3 ⟨v,H3,I3,rv,q⟩=>?_));exact⟨v,σ2,H3,I3.unpinned,rv,q⟩
noncomputable def scB  (N ps:List Str)(sc:Scope):Bool:=
 decide (sc.kind=.function) && !sc.isCoroutine && !sc.isGenerator&&decide N.Nodup&&(N.take ps.length==ps)&&ps.all (λx=>sc.names.lookup x==some .local||sc.names.lookup x==some .cell)&&sc.names.all (λy=>y.2 != .free)
def jfJ    (h:scB N ps sc=true):FnScope N ps sc:=by
 unfold scB at h;simp only[Yao,decide_eq_true_eq,YcC]at h;obtain⟨⟨⟨⟨⟨⟨h1,h2⟩,h3⟩,h4⟩,h5⟩,h6⟩,h7⟩:=h;refine⟨h1,h2,h3,h4,eq_of_beq h5,λx hx=>?_,λy hy=>?_⟩
 ·simp_all
 grind
noncomputable def cloB  (N ps:List Str)(sc:Scope):Bool:=
 decide (sc.kind=.function) && !sc.isCoroutine && !sc.isGenerator&&decide N.Nodup&&(N.take ps.length==ps)&&ps.all (λx=>sc.names.lookup x==some .local)&&sc.names.all (λy=>y.2 != .cell)&&sc.names.all (λy=>y.2 != .free||sc.names.lookup y.1==some .free)
def jiZ    (h:cloB N ps sc=true):CloScope N ps sc:=by
 unfold cloB at h;simp only[Yao,decide_eq_true_eq,YcC]at h;obtain⟨⟨⟨⟨⟨⟨⟨h1,h2⟩,h3⟩,h4⟩,h5⟩,h6⟩,h7⟩,h8⟩:=h;refine⟨h1,h2,h3,h4,eq_of_beq h5,λx hx=>?_,λy hy=>?_,λx hx=>?_⟩
 ·simp_all
 ·grind
 grind
noncomputable def jei  (T:Tab):Nat->List Fun->List Stmt->Bool
 |_,[],[]=>true
 |i,d::ds,st::sts=>scB d.N d.ps (jaa st)&&((T.ns.lookup i).isSome||okSs T ⟨d.N,(jaa st).names⟩ d.body (jaf st))&&jei T (i+1) ds sts
 |_,_,_=>false
def jeU  (T:Tab)(all:List Stmt):Nat->List Fun->List Stmt->Prop
 |_,[],_=>True
 |i,d::ds,st::sts=>(match T.ns.lookup i with
  |none=>unSs T ⟨d.N,(jaa st).names⟩ d.body (jaf st)=jaf st
  |some z=>T.ns.lookup z.ff=none/\∃dff stff dv dc,NestS T all d st z dff stff dv dc)/\jeU T all (i+1) ds sts
 |_,_::_,[]=>False
theorem jch {T:Tab}{all:List Stmt}:∀{i:Nat} {ds:List Fun} {sts:List Stmt},jei T i ds sts=true->jeU T all i ds sts->∀{n:Nat} {d:Fun},ds[n]?=some d->∃st,sts[n]?=some st/\scB d.N d.ps (jaa st)=true/\(match T.ns.lookup (i+n)with
  |none=>okSs T ⟨d.N,(jaa st).names⟩ d.body (jaf st)=true/\unSs T ⟨d.N,(jaa st).names⟩ d.body (jaf st)=jaf st
  |some z=>T.ns.lookup z.ff=none/\∃dff stff dv dc,NestS T all d st z dff stff dv dc)
 |_,[],_,_,_,_,_,e=>by simp at e
 |_,_::_,[],h,_,_,_,_=>by unfold jei at h;cases h
 |i,d::ds,st::sts,h,g,n,d',e=>by
  unfold jei at h;unfold jeU at g;simp only[Yao]at h;cases n with
  |zero=>
   simp at e;subst e;refine⟨st,rfl,h.1.1,?_⟩;have g1:=g.1;have h1:=h.1.2;rw[Nat.add_zero];cases q:T.ns.lookup i with
   |none=>rw[q]at g1 h1;exact⟨by simpa using h1,g1⟩
   |some z=>rw[q]at g1;exact g1
  |succ n=>
   obtain⟨st',e',q⟩:=jch h.2 g.2 (n:=n) (by simpa using e)
   rw[show i+1+n=i+(n+1) by lia]at q
   exact⟨st',by simpa using e',q⟩
noncomputable def jdB  (K:Yab)(v:Value)(P:Addr):Bool:=match v with
 |.ref c=>(match K.lookup c with
  |some ⟨.type t,_,.fields vs,_⟩=>t == "code" && (match (vs[11]?:Option Value)with|some (.ref Q)=>Q==P|_=>false)&&(match vs.getD 18 .none with|.str _ _=>true|_=>false)&&(match vs.getD 7 .none with|.int _ _=>true|_=>false)
   && (match vs.getD 9 .none with|.bool _=>true|_=>false)&&(match vs.getD 10 .none with|.int _ _=>true|_=>false)&&c != P
  |_=>false)
 |_=>false
def jiW      (X:K.In h)(q:jdB K v P=true):∃c,v=.ref c/\Yf8 h c P:=by
 unfold jdB at q;split at q
 ·rename_i c;split at q
  ·rename_i t dd vs sl hk;simp only[Yao]at q;obtain⟨⟨⟨⟨⟨⟨q1,q2⟩,q3⟩,q4⟩,q5⟩,q6⟩,q7⟩:=q;refine⟨c,rfl,⟨.type t,dd,.fields vs,sl⟩,vs,?_⟩;have ho:=X c _ hk;split at q2
   ·rename_i Q e11;obtain rfl:Q=P:=by lia
    split at q3
    ·rename_i s1 t1 e18;split at q4
     ·rename_i s2 t2 e7;split at q5
      ·rename_i b e9;split at q6
       ·rename_i s3 t3 e10;exact⟨s1,t1,s2,t2,b,s3,t3,ho,by rw[eq_of_beq q1],rfl,e11,by rw[Array.getD_eq_getD_getElem?,e11];rfl,e18,e7,e9,e10,by simpa using q7⟩
       lia
      lia
     lia
    lia
   lia
  lia
 lia
section
variable {T:Tab}{P:Program}{w:World}{K:Yab}{mg:Str->Option Value}{base:Heap}
def jd8  {j n:Nat}{t:List U->Gp->K1->KX->Prop}(hz:∀us G Q E,¬t us G Q E):FnOk P w K mg base (CX1 P w) j f fd ps (lSp K t):=
 ⟨λvs H Q E ⟨_,_,_,_,_,_,h,_⟩=>(hz _ _ _ _ h).elim,λA outer s H args us vs Q E _ _ _ _ ⟨_,_,_,_,_,_,h,_⟩=>(hz _ _ _ _ h).elim⟩
def jgx       (F:L2.Fun K d.name d.name st f fd)(h1:scB d.N d.ps (jaa st)=true)(h2:okSs T ⟨d.N,(jaa st).names⟩ d.body (jaf st)=true)(h3:unSs T ⟨d.N,(jaa st).names⟩ d.body (jaf st)=jaf st)
  (pf:PF T P w K mg base k) (hd:T.funs[n]?=some d):FnOk P w K mg base (CX1 P w) (k+3) f fd d.ps (lSp K (jac T (k+1) n)):=by
 have S:=jfJ h1;refine F.okX S (λvs H Q E ⟨us,G,Q',E',r,hG,h,lv,lx⟩=>by rw[<- r.length];exact(jbU (jgR hd) h).1) λcdv A outer s H vs Q E hr hsp=>?_
 obtain⟨us,G,Q',E',r,hG,h,lv,lx⟩:=hsp;obtain⟨hl,h⟩:=jbU (jgR hd) h;refine⟨_,jhP h3 (sSs d.body (k:=k) (c:=⟨d.N,(jaa st).names⟩) (hs:=jaf st) ⟨⟨rfl,S.nd,λx z=>eq_of_beq z,λx z=>⟨eq_of_beq z,rfl⟩,λx z=>.inr (eq_of_beq z),λx z=>eq_of_beq z,hr.mono (by lia),rfl,jlz,pf.blt,pf.fns,pf.gls,hr,pf.cls,pf.mgK⟩,rfl,S.kind,rfl,rfl⟩ h2),?_⟩
 exact⟨_,_,G,jc2 r,hG,h,⟨λς' σ' G' H' a b c q=>lv .non .non G' H' rfl b c q,λw v G' H' a b c q=>lv w v G' H' a b c q,λpins e s' x ς' σ' G' H' I sr xat hr' f q=>by obtain⟨ea,C0,dx,rfl,l,xd⟩:=xat;exact CX1.out1 I l (lx x G' H' C0 dx xd hr' f q)⟩⟩
abbrev Dyn  (T:Tab)(K:Yab)(mg:Str->Option Value)(sts:List Stmt):Prop:=∀(n:Nat) (d:Fun) (st:Stmt),T.funs[n]?=some d->sts[n]?=some st->∃(f:Addr) (fd:Ye7),L2.Fun K d.name d.name st f fd/\mg d.name=some (.ref f)/\Binds K fd d.ps []/\∀z,T.ns.lookup n=some z->jdB K fd.code z.P=true
def jlv  {sts:List Stmt}(hst:jei T 0 T.funs sts=true)(heq:jeU T sts 0 T.funs sts)(dyn:Dyn T K mg sts)(hU:∀t∈tabs,∀t'∈tabs,t.1=t'.1->t=t')(hKb:K.In base)(hB:BmAt mg base)
  (hb:∀x∈jcb,mg x=none) (hg:∀(n:Nat) x u ,T.gn[n]?=some x->T.gs[n]?=some u->∃v w,mg x=some w/\RelV v w/\∀H,RU K H u v) (hc:∀n∈T.cs,1<=n->∃C,XCls K (gK K) (clsN n) (clsF n) C) (hm:∀x v,gK K x=some v->mg x=some v) :
  ∀k ,PF T P w K mg base k:=by
 intro k
 induction k using Nat.strongRecOn with
 |ind k ih=>
  refine⟨hb,λn d hd=>?_,hg,hc,hm⟩;obtain⟨st,e,h1,h2⟩:=jch hst heq hd;obtain⟨f,fd,F,m,b,hz⟩:=dyn n d st hd e;refine⟨f,fd,?_,m,F.kp,b⟩;rw[YcI]at h2;cases q:T.ns.lookup n with
  |none=>
   rw[q]at h2;obtain _|k:=k
   ·exact jd8 (n:=n) λ_ _ _ _ h=>h
   ·exact jgx F h1 h2.1 h2.2 (ih k (by lia)) hd
  |some z=>
   rw[q]at h2;obtain⟨hff,dff,stff,dv,dc,N⟩:=h2;obtain _|_|j:=k
   ·exact jd8 (n:=n) λ_ _ _ _ h=>h
   ·refine jd8 (n:=n) λus G Q E h=>?_;obtain⟨_,h⟩:=jbU (jgR hd) h;rw[N.body]at h;obtain⟨cs,_,_,h⟩:=jga (show jaI T.gs (jac T 0) (capE z.caps (.cons (.v z.wi) (.cons (.int z.least) .nil))) (jae d.N.length us) G (λzs G1=>jac T 0 z.vi zs G1 Q λx G'=>E x G') _ from h);obtain⟨_,_,h⟩:=jbX (show slot (jae d.N.length us) z.wi λx=>jac T 0 z.vi (cs++[x,.int z.least]) G Q λx G'=>E x G' from h);exact h
   ·obtain⟨st2,e2,g1,g2⟩:=jch hst heq N.ff;rw[YcI,hff]at g2;obtain⟨fff,fdff,Fff,mff,bff,_⟩:=dyn z.ff dff st2 N.ff e2;have:st2=stff:=by rw[N.ffs]at e2;lia
    subst this;exact jlV N hU (jfJ g1) g2.1 g2.2 F Fff mff bff (jiW hKb (hz z q)) hB (ih (j-1) (by lia)) (jgR hd)
noncomputable def G0  (a:Addr)(ns:List Int):Gp:=λb=>if b=a then some (.fro (ns.map .int)) else none
theorem jiy   : ∀ns:List Int,RUs K H (ns.map .int) (ns.map V.int)
 |[]=>rfl
 |_::r=>⟨_,_,rfl,rfl,jiy r⟩
def law_sp        (hT:∀t∈tabs,t.1∈tb)(hO:jkf tb H)(fr:H a=some (.frz o (.lst (ns.map V.int))))(h:jac T k n [.loc a] (G0 a ns) (λu _=>u=.bl true) λ_ _=>False) :
  lSp K (jac T k n) [.ref a] H (λv _=>v=.bl true) λ_ _ _=>False:=by
 refine⟨[.loc a],G0 a ns,_,_,⟨_,_,rfl,rfl,rfl⟩,⟨λb mo e=>?_,λt ht=>.inl ?_⟩,h,λw v G' H' r _ _ q=>?_,λ_ _ _ _ _ _ _ _ z=>z.elim⟩
 ·unfold G0 at e;split at e
  ·rename_i z;subst z;cases e;exact⟨o,_,fr,jiy ns⟩
  lia
 ·have:=hO t.1
  grind
 ·subst q;exact r
end

def jg7  {T: Tab}{sts:List Stmt}(F:L2.Fun K d.name d.name st f fd)(hst:jei T 0 T.funs sts=true)(heq:jeU T sts 0 T.funs sts)(dyn:Dyn T K mg sts)(hU:∀t∈tabs,∀t'∈tabs,t.1=t'.1->t=t')(hKb:K.In base)(hB:BmAt mg base)
  (hb:∀x∈jcb,mg x=none) (hg:∀(n:Nat) x u ,T.gn[n]?=some x->T.gs[n]?=some u->∃v w,mg x=some w/\RelV v w/\∀H,RU K H u v) (hc:∀n∈T.cs,1<=n->∃C,XCls K (gK K) (clsN n) (clsF n) C) (hm:∀x v,gK K x=some v->mg x=some v) (hd:T.funs[n]?=some d) (hs:sts[n]?=some st) (hn:T.ns.lookup n=none) :
  FnOk P w K mg base (CX1 P w) (k+2) f fd d.ps (lSp K (jac T k n)):=by
 cases k with
 |zero=>exact jd8 (n:=n) λ_ _ _ _ h=>h
 |succ k=>
  obtain⟨st',e,h1,h2⟩:=jch hst heq hd;rw[hs]at e;cases e;rw[YcI,hn]at h2;exact jgx F h1 h2.1 h2.2 (jlv hst heq dyn hU hKb hB hb hg hc hm k) hd

def jp6    (h:gK K x=some v):Ybc K YaC x=some (some v):=by
 unfold gK at h;cases q:Ybc K YaC x with
 |none=>simp_all
 |some o=>simp_all
def jn1    (X:K.In h)(G:h.Ns YaC mg):∀x v,gK K x=some v->mg x=some v:=λ_ _ e=>Yc7 X G (jp6 e)
def jov    (h:Ybc K YaC x=some (some v)):gK K x=some v:=by unfold gK;rw[h];rfl
noncomputable def ksB  : List Str:=["__module__", "__firstlineno__", "__static_attributes__", "__weakref__", "__doc__"]
noncomputable def ksC  : List Str:=["__module__", "__firstlineno__", "__init__", "__static_attributes__", "__doc__"]
noncomputable def offB  (ks:List Str):Bool:=offN.all λy=>!ks.contains y
def jkw   {m:Str->Option Value}(h:offB ks=true)(hm:∀x,x∉ks->m x=none):∀y∈offN,m y=none:=λy hy=>hm y (by
 have:=Ydk.mp h y hy
 simp_all)
def jjf     {hd ab:Bool}(a:Ybc K YaC "PlanError" = some (some (.ref D)))(kp:Ybl K (.ref D)=true)
  (l:K.lookup D=some (Yc6 "PlanError" q D ND bs bmV hd sn sub ab col dd k0 k1 k2 k3 k5 nid)) (n:jdV K ND=some ks) (h1:offB ks=true) (h2:ks.contains ("__init__" : Str)=false):∃mD,XBase K (gK K) D mD:=by
 obtain⟨m,hn,hno,_⟩:=jnV n;exact⟨m,jov a,kp,⟨_,_,_,_,_,_,_,_,_,_,_,_,_,_,_,l,hn⟩,jkw h1 hno,hno _ (by simp_all)⟩
def jkY               (B:XBase K (gK K) D mD)(a:Ybc K YaC x=some (some (.ref C)))(kp:Ybl K (.ref C)=true)
  (l:K.lookup C=some (Yc6 x q C N bs (.ref D::bmV) true sn sub ab col dd k0 k1 k2 k3 k5 "ValueError.__new__")) (n:jdV K N=some ks) (h1:offB ks=true) (i:Ybc K N "__init__" = some (some (.ref fI))) (F:L2.Fun K "__init__" qual st fI fd) (lf:K.lookup fI=some ⟨.type "function",od,.func fd,osl⟩)
  (S:scB (("self" : Str)::fs) ("self" :: fs) (jaa st)=true) (b:Binds K fd (("self" : Str)::fs) []) (hloc:((("self" : Str)::fs).all λy=>(jaa st).names.lookup y==some .local)=true)
  (bd:(∃f p1 p2 p3 pos,fs=[f]/\jaf st=[.Assign [.Attribute (.Name "self" p1) f p2] (.Name f p3) pos])\/∃f f2 p1 p2 p3 pos q1 q2 q3 qos,fs=[f,f2]/\f≠f2/\jaf st=[.Assign [.Attribute (.Name "self" p1) f p2] (.Name f p3) pos,.Assign [.Attribute (.Name "self" q1) f2 q2] (.Name f2 q3) qos]):XCls K (gK K) x fs C:=by
 obtain⟨m,hn,hno,hso⟩:=jnV n;exact⟨jov a,kp,D,N,fI,m,mD,B,⟨_,_,_,_,_,_,_,_,_,_,_,_,l⟩,hn,jkw h1 hno,hso _ _ i,st,qual,fd,F,⟨_,_,lf⟩,jfJ S,b,λy hy=>eq_of_beq (Ydk.mp hloc y hy),bd⟩
def jiE     : gup (gup G a o) a u=gup G a u:=by funext b;unfold gup;lia
def Sm  (f:Addr)(G G':Gp):Prop:=∀b o,b≠f->G b=some o->G' b=some o
def Sa  (G G':Gp):Prop:=∀b o,G b=some o->G' b=some o
def Sm.refl    : Sm f G G:=λ_ _ _ h=>h
def Sa.refl   : Sa G G:=λ_ _ h=>h
def Sm.trans    (a:Sm f G G1)(b:Sm f G1 G2):Sm f G G2:=λc o n h=>b c o n (a c o n h)
def Sa.trans   (a:Sa G G1)(b:Sa G1 G2):Sa G G2:=λc o h=>b c o (a c o h)
def Sa.sm    (a:Sa G G'):Sm f G G':=λc o _ h=>a c o h
def Sa.new     (h:G p=none):Sa G (gup G p o):=λc u e=>by
 rw[jbA (λz=>by lia)];exact e
def Sm.put     : Sm f G (gup G f o):=λc u n e=>by rw[jbA n];exact e
def jdb  {G:Gp}(h:G a=some o)(hp:G p=none):p≠a:=λz=>by lia
def New.at     (n:New G p o G'):G' p=some o:=by rw[n.eq];exact jaE
def New.sa     (n:New G p o G'):Sa G G':=by rw[n.eq];exact Sa.new n.no
def Put.at     (n:Put G p o G'):G' p=some o:=by rw[n.eq];exact jaE
def Put.sm     (n:Put G p o G'):Sm p G G':=by rw[n.eq];exact Sm.put
mutual
noncomputable def pd:U->PyData
 |.non=>.none
 |.bl b=>.bool b
 |.int i=>.int i
 |.str x=>.str x
 |.tup us=>.tuple (pds us)
 |.loc _=>.none
 |.fn _=>.none
 |.ty _=>.none
 |.exc _ _=>.none
 |.own _=>.none
 |.clo _ _=>.none
noncomputable def pds:List U->List PyData
 |[]=>[]
 |u::us=>pd u::pds us
end
mutual
noncomputable def bare:U->Bool
 |.non=>true
 |.bl _=>true
 |.int _=>true
 |.str _=>true
 |.tup us=>bares us
 |.loc _=>false
 |.fn _=>false
 |.ty _=>false
 |.exc _ _=>false
 |.own _=>false
 |.clo _ _=>false
noncomputable def bares:List U->Bool
 |[]=>true
 |u::us=>bare u&&bares us
end
mutual
theorem joD {G:Gp}:∀{u:U},bare u=true->DU G u (pd u)
 |.non,_=>.non
 |.bl b,_=>.bl b
 |.int i,_=>.int i
 |.str x,_=>.str x
 |.tup _,h=>.tup (jfj h)
 |.loc _,h=>nomatch h
 |.fn _,h=>nomatch h
 |.ty _,h=>nomatch h
 |.exc _ _,h=>nomatch h
 |.own _,h=>nomatch h
 |.clo _ _,h=>nomatch h
theorem jfj {G:Gp}:∀{us:List U},bares us=true->DUs G us (pds us)
 |[],_=>.nil
 |_::_,h=>.cons (joD (ba h).1) (jfj (ba h).2)
end
theorem jgZ  : ∀{us },(∀u∈us,bare u=true)->bares us=true
 |[],_=>rfl
 |u::us,h=>by
  show(bare u&&bares us)=true;rw[h u Yat,jgZ λv hv=>h v (Yah _ hv)];rfl
theorem jhY  : ∀us ,pds us=us.map pd
 |[]=>rfl
 |u::us=>by
  show pd u::pds us=_;rw[jhY us];rfl
def jnc     (h:bare u=true)(f:Fits 16000000 60 (pd u))(q:Q (.str (pd u).shown) G):jfK [u] G Q:=⟨pd u,joD h,f,q⟩
structure Sml (n:Nat)(u:U):Prop where
 b:bare u=true
 l:(pd u).canLay0=true
 d:(pd u).depth<=n
def Sml.int   i:Sml 0 (.int i):=⟨rfl,rfl,Yag _⟩
def Sml.str   (h:∀c∈x.cps.toList,c<128):Sml 0 (.str x):=⟨rfl,by
 show x.cps.all (λc=>decide (c<0x110000))=true;rw[<- Ygf,Ydk]
 grind,Yag _⟩
theorem smls   : ∀{us },(∀u∈us,Sml n u)->bares us=true/\YfF (pds us)=true/\YbZ (pds us)<=n
 |[],_=>⟨rfl,rfl,Ybh _⟩
 |u::us,h=>by
  obtain⟨h1,h2,h3⟩:=smls λv hv=>h v (Yah _ hv);have hu:=h u Yat;refine⟨?_,?_,?_⟩
  ·show(bare u&&bares us)=true;rw[hu.b,h1];rfl
  ·show((pd u).canLay0&&YfF (pds us))=true;rw[hu.l,h2];rfl
  ·show max (pd u).depth (YbZ (pds us))<=n;exact Nat.max_le.mpr ⟨hu.d,h3⟩
def Sml.tup    (h:∀u∈us,Sml n u):Sml (n+1) (.tup us):=let ⟨h1,h2,h3⟩:=smls h;⟨h1,h2,Yet h3⟩
def joy       (ga:G a=some (.lst us))(gb:G b=some (.lst []))(h:∀u∈us,Sml n u)(hn:n<100)(q:k us.isEmpty):eqU (.loc a) (.loc b) G k:=by
 obtain⟨h1,h2,h3⟩:=smls h;have la:lsG G a=some us:=by unfold lsG;rw[ga]
 have lb:lsG G b=some []:=by unfold lsG;rw[gb]
 refine⟨.list (pds us),.list [],.lst la (jfj h1),.lst lb .nil,⟨h2,?_⟩,⟨rfl,by decide⟩,?_⟩
 ·show YbZ (pds us)+1<=100
  lia
 ·have e:YaJ (.list (pds us)) (.list [])=us.isEmpty:=by
   show Ycq (pds us) []=_;rw[jhk];cases us<;>rfl
  lia
structure Ft (n k:Nat)(u:U):Prop where
 b:bare u=true
 f:Fits n k (pd u)
def Ft.mono    (h:Ft n k u)(h1:n<=n')(h2:k<=k'):Ft n' k' u:=⟨h.b,h.f.mono h1 h2⟩
def Ft.int   (h:i.natAbs<2 ^ 1000):Ft 1921 0 (.int i):=⟨rfl,Fits.int h⟩
def Ft.str    (h:x.length<=m)(hc:∀c∈x.cps.toList,c<128):Ft (10*m+2) 0 (.str x):=⟨rfl,Fits.str h λc hc'=>Ydw (hc c hc') (by decide)⟩
def Ft.tup    (hl:us.length<=m)(h:∀u∈us,Ft n k u)(hN:m*(n+2)+3<=N):Ft N (k+1) (.tup us):=by
 refine⟨jgZ λu hu=>(h u hu).b,?_⟩;show Fits N (k+1) (.tuple (pds us));rw[jhY];refine Fits.tupLe (m:=m) (n:=n) (by simp_all) (λd hd=>?_) hN
 obtain⟨u,hu,rfl⟩:=List.mem_map.mp hd;exact(h u hu).f
def jnd      (h:Ft n k u)(h1:n<=16000000)(h2:k<=60)(q:Q (.str (pd u).shown) G):jfK [u] G Q:=jnc h.b (h.f.mono h1 h2) q
theorem jaq     : ∀{xs } (I:Nat->Sg->Gp->Prop) (_:∀ς G,I xs.length ς G->ok G/\k ς G)
  (_:∀i x ς G K ,xs[i]?=some x->I i ς G->(∀ς' G',I (i+1) ς' G'->K ς' G')->ok G/\b x ς G K) {ς } {G } (_:I 0 ς G),forL ok b xs ς G k
 |[],_,h0,_,_,_,h=>h0 _ _ h
 |x::_,I,h0,h1,_,_,h=>h1 0 x _ _ _ rfl h λ_ _ h'=>jaq (λi=>I (i+1)) h0 (λi y ς G K e hi hk=>h1 (i+1) y ς G K e hi hk) h'
theorem ja1     : ∀{xs } (I:Nat->List U->Gp->Prop) (_:∀acc G,I xs.length acc G->ok G/\k acc G)
  (_:∀i x acc G K ,xs[i]?=some x->I i acc G->(∀u G',I (i+1) (acc++[u]) G'->K (some u) G')->(∀G',I (i+1) acc G'->K none G')->ok G/\b x G K) {acc } {G } (_:I 0 acc G),jcI ok b xs acc G k
 |[],_,h0,_,_,_,h=>h0 _ _ h
 |x::_,I,h0,h1,_,_,h=>h1 0 x _ _ _ rfl h (λ_ _ h'=>ja1 (λi=>I (i+1)) h0 (λi y a G K e hi hk hn=>h1 (i+1) y a G K e hi hk hn) h') (λ_ h'=>ja1 (λi=>I (i+1)) h0 (λi y a G K e hi hk hn=>h1 (i+1) y a G K e hi hk hn) h')
theorem jdA       f (hok:ok G):∀{xs } (_:∀x∈xs,∀K ,K (some (f x)) G->b x G K) {acc } (_:k (acc++xs.map f) G),jcI ok b xs acc G k
 |[],_,acc,q=>⟨hok,by simpa using q⟩
 |x::xs,hb,acc,q=>⟨hok,hb x Yat _ (jdA f hok (λy hy=>hb y (Yah _ hy)) (by simpa using q))⟩
theorem jcF       f (hok:ok G):∀{xs } (_:∀x∈xs,∀K ,K (f x) G->b x G K) {acc } (_:k (acc++xs.filterMap f) G),jcI ok b xs acc G k
 |[],_,acc,q=>⟨hok,by simpa using q⟩
 |x::xs,hb,acc,q=>⟨hok,hb x Yat _ (jcF f hok (λy hy=>hb y (Yah _ hy)) (by
   grind))⟩
def jaF   i n:(rngU i n).length=n:=by unfold rngU;simp
def jaK    (h:(rngU 0 n)[i]?=some x):i<n/\x=.int i:=by
 unfold rngU at h;rw[Yay]at h;by_cases hi:i<n
 ·rw[YdI hi]at h;exact⟨hi,by simpa using h.symm⟩
 ·rw[YcG (by simpa using hi)]at h
  cases h
def jge   (f:α->β)(l:List α) i:atI (l.map f) i=(atI l i).map f:=by
 unfold atI;rw[Yae];cases ixN l.length i with
 |none=>rfl
 |some j=>simp
def jdN   (a:α) l:atI (a::l) 0=some a:=jbb (xs:=a::l) (j:=0) rfl
def jfx   {l:List α}{r:Int}(h0:0<=r)(h1:r<l.length):∃x,x∈l/\atI l r=some x:=by
 obtain⟨j,rfl⟩:=Ya0 h0;have hj:j<l.length:=by lia
 exact⟨l[j],YbA hj,jbb (YaF hj)⟩
noncomputable def fdU  (c:Addr)(a l t:Int):List (Key×U):=[(.inr "cells",.loc c),(.inr "at",.int a),(.inr "left",.int l),(.inr "turn",.int t)]
structure Fd (G:Gp)(f c:Addr):Prop where
 ex:∃(ns:List Int) (a l t:Int),G f=some (.dK (fdU c a l t))/\G c=some (.lst (ns.map .int))/\ns≠[]
def k_ca  : ¬((Sum.inr ("cells" : Str):Key)=Sum.inr ("at" : Str)):=by decide +kernel
def k_cl  : ¬((Sum.inr ("cells" : Str):Key)=Sum.inr ("left" : Str)):=by decide +kernel
def k_ct  : ¬((Sum.inr ("cells" : Str):Key)=Sum.inr ("turn" : Str)):=by decide +kernel
def k_al  : ¬((Sum.inr ("at" : Str):Key)=Sum.inr ("left" : Str)):=by decide +kernel
def k_at  : ¬((Sum.inr ("at" : Str):Key)=Sum.inr ("turn" : Str)):=by decide +kernel
def k_lt  : ¬((Sum.inr ("left" : Str):Key)=Sum.inr ("turn" : Str)):=by decide +kernel

def jmm  : dGet (fdU c a l t) (.inr "cells")=some (.loc c):=by simp[dGet,fdU]
def g_at  : dGet (fdU c a l t) (.inr "at")=some (.int a):=by simp[dGet,fdU,k_ca,-Yco]
def jou  : dGet (fdU c a l t) (.inr "left")=some (.int l):=by simp[dGet,fdU,k_cl,k_al,-Yco]
def jkI  : dGet (fdU c a l t) (.inr "turn")=some (.int t):=by simp[dGet,fdU,k_ct,k_at,k_lt,-Yco]
def jnA   x:dPut (fdU c a l t) (.inr "turn") (.int x)=fdU c a l x:=by simp[dPut,fdU,k_ct,k_at,k_lt,-Yco]
def p_at   x:dPut (fdU c a l t) (.inr "at") (.int x)=fdU c x l t:=by simp[dPut,fdU,k_ca,Ne.symm k_al,Ne.symm k_at,-Yco]
def jnB   x:dPut (fdU c a l t) (.inr "left") (.int x)=fdU c a x t:=by simp[dPut,fdU,k_cl,k_al,Ne.symm k_lt,-Yco]
def jn3   : jdy [((Sum.inr ("cells" : Str):Key),U.loc p),(.inr "at",.int 0),(.inr "left",.int 0),(.inr "turn",.int 0)]=fdU p 0 0 0:=by
 simp[jdy,dPut,fdU,k_ca,k_cl,k_ct,k_al,k_at,k_lt,-Yco]
def jiK  : (fdU c a l t).length<Yaf:=by show 4<Yaf;decide
def Fd.put       (p:Put G f (.dK (fdU c a l t)) G')(h:G f=some (.dK kvs))(hc:G c=some (.lst (ns.map .int)))(hn:ns≠[]):Fd G' f c:=
 ⟨ns,a,l,t,p.at,p.sm _ _ (λz=>by lia) hc,hn⟩
def Fd.sa    (h:Fd G f c)(s:Sa G G'):Fd G' f c:=let ⟨ns,a,l,t,h1,h2,h3⟩:=h.ex;⟨ns,a,l,t,s _ _ h1,s _ _ h2,h3⟩
def Fd.new     (h:Fd G f c)(n:New G p o G'):Fd G' f c:=h.sa n.sa
def Fd.away     (h:Fd G f c)(n:New G p o G'):p≠f/\p≠c:=by
 obtain⟨ns,a,l,t,h1,h2,_⟩:=h.ex;exact⟨jdb h1 n.no,jdb h2 n.no⟩
def Fd.off     (h:Fd G f c)(hp:p≠f/\p≠c)(w:Put G p o G'):Fd G' f c:=let ⟨ns,a,l,t,h1,h2,h3⟩:=h.ex;⟨ns,a,l,t,w.sm _ _ (Ne.symm hp.1) h1,w.sm _ _ (Ne.symm hp.2) h2,h3⟩
def Sm.wr     (s1:Sm f G G1)(n:G1 p=none)(s2:Sm f G G2)(w:Put G2 p o G3):Sm f G G3:=λb u hb e=>w.sm b u (λz=>by
 have:=s1 _ _ hb e
 lia) (s2 b u hb e)
def Sm.nw     (s:Sm f G G1)(n:New G1 p o G2):Sm f G G2:=s.trans n.sa.sm
def D_v         i:(den gs Δ (.v i)).1 ς G Q X=(slot ς i λu=>Q u G):=rfl
def T_v         i:(den gs Δ (.v i)).2 ς G R X=(den gs Δ (.v i)).1 ς G (λx G1=>truU x G1 λb=>R b G1) X:=rfl
def D_non         : (den gs Δ (.non)).1 ς G Q X=(Q .non G):=rfl
def D_bl         b:(den gs Δ (.bl b)).1 ς G Q X=(Q (.bl b) G):=rfl
def D_int         i:(den gs Δ (.int i)).1 ς G Q X=(Q (.int i) G):=rfl
def D_str         x:(den gs Δ (.str x)).1 ς G Q X=(Q (.str x) G):=rfl
def D_g         n:(den gs Δ (.g n)).1 ς G Q X=(glU gs n λu=>Q u G):=rfl
def T_g         n:(den gs Δ (.g n)).2 ς G R X=(den gs Δ (.g n)).1 ς G (λx G1=>truU x G1 λb=>R b G1) X:=rfl
def D_ty         n:(den gs Δ (.ty n)).1 ς G Q X=(Q (.ty n) G):=rfl
def T_ty         n:(den gs Δ (.ty n)).2 ς G R X=(den gs Δ (.ty n)).1 ς G (λx G1=>truU x G1 λb=>R b G1) X:=rfl
def D_bin         o a b:(den gs Δ (.bin o a b)).1 ς G Q X=((den gs Δ a).1 ς G (λx G1=>(den gs Δ b).1 ς G1 (λy G2=>binU o x y G2 Q) X) X):=rfl
def T_bin         o a b:(den gs Δ (.bin o a b)).2 ς G R X=(den gs Δ (.bin o a b)).1 ς G (λx G1=>truU x G1 λb=>R b G1) X:=rfl
def D_neg         a:(den gs Δ (.neg a)).1 ς G Q X=((den gs Δ a).1 ς G (λx G1=>negU x G1 Q) X):=rfl
def D_cmp         o a b:(den gs Δ (.cmp o a b)).1 ς G Q X=((den gs Δ a).1 ς G (λx G1=>(den gs Δ b).1 ς G1 (λy G2=>cmpU o x y G2 λc=>Q (.bl c) G2) X) X):=rfl
def T_cmp         o a b:(den gs Δ (.cmp o a b)).2 ς G R X=(den gs Δ (.cmp o a b)).1 ς G (λx G1=>truU x G1 λb=>R b G1) X:=rfl
def D_cmp2         o p a b c:(den gs Δ (.cmp2 o p a b c)).1 ς G Q X=((den gs Δ a).1 ς G (λx G1=>(den gs Δ b).1 ς G1 (λy G2=>cmpU o x y G2 λt=>if t=true then (den gs Δ c).1 ς G2 (λz G3=>cmpU p y z G3 λt'=>Q (.bl t') G3) X else Q (.bl false) G2) X) X):=rfl
def T_cmp2         o p a b c:(den gs Δ (.cmp2 o p a b c)).2 ς G R X=(den gs Δ (.cmp2 o p a b c)).1 ς G (λx G1=>truU x G1 λb=>R b G1) X:=rfl
def D_tup         es:(den gs Δ (.tup es)).1 ς G Q X=(jaI gs Δ es ς G (λus G1=>us.length<=Yaf/\Q (.tup us) G1) X):=rfl
def D_lst         es:(den gs Δ (.lst es)).1 ς G Q X=(jaI gs Δ es ς G (λus G1=>us.length<=Yaf/\newO G1 (.lst us) Q) X):=rfl
def D_dic         es:(den gs Δ (.dic es)).1 ς G Q X=(denD gs Δ es ς G (λkvs G1=>kvs.length<=15/\newO G1 (.dK (jdy kvs)) Q) X):=rfl
def D_ix         a b:(den gs Δ (.ix a b)).1 ς G Q X=((den gs Δ a).1 ς G (λx G1=>(den gs Δ b).1 ς G1 (λy G2=>ixU x y G2 Q) X) X):=rfl
def T_ix         a b:(den gs Δ (.ix a b)).2 ς G R X=(den gs Δ (.ix a b)).1 ς G (λx G1=>truU x G1 λb=>R b G1) X:=rfl
def D_sl         a lo hi:(den gs Δ (.sl a lo hi)).1 ς G Q X=((den gs Δ a).1 ς G (λx G1=>denO gs Δ lo ς G1 (λl G2=>denO gs Δ hi ς G2 (λh G3=>slU x l h G3 Q) X) X) X):=rfl
def D_rev         a b:(den gs Δ (.rev a b)).1 ς G Q X=((den gs Δ a).1 ς G (λx G1=>(den gs Δ b).1 ς G1 (λy G2=>revU x y G2 Q) X) X):=rfl
def D_call         n es:(den gs Δ (.call n es)).1 ς G Q X=(jaI gs Δ es ς G (λus G1=>Δ n us G1 Q X) X):=rfl
def T_call         n es:(den gs Δ (.call n es)).2 ς G R X=(den gs Δ (.call n es)).1 ς G (λx G1=>truU x G1 λb=>R b G1) X:=rfl
def D_blt         b es:(den gs Δ (.blt b es)).1 ς G Q X=(jaI gs Δ es ς G (λus G1=>bltU b us G1 Q) X):=rfl
def T_blt         b es:(den gs Δ (.blt b es)).2 ς G R X=(den gs Δ (.blt b es)).1 ς G (λx G1=>truU x G1 λb=>R b G1) X:=rfl
def D_meth {gs:List U}{Δ:Cl}{ς:Sg}{G:Gp}{Q:K1}{X:KX}(m:Mth)(o:E)(es:Es):(den gs Δ (.meth m o es)).1 ς G Q X=((den gs Δ o).1 ς G (λx G1=>match mtU m x G1 with|some _=>jaI gs Δ es ς G1 (λus G2=>jau m x us G2 Q) X|none=>False) X):=rfl
def D_lc         pick t it ifs e:(den gs Δ (.lc pick t it ifs e)).1 ς G Q X=(denI gs Δ it ς G (λxs ok G1=>xs.length<=Yaf/\jcI ok (λx G2 k=>tgU t x (jci pick ς) λτ=>denC gs Δ ifs τ G2 (λb G3=>if b=true then (den gs Δ e).1 τ G3 (λu G4=>k (some u) G4) (λ_ _=>False) else k none G3)) xs [] G1 λus G5=>newO G5 (.lst us) Q) X):=rfl
def D_mkD         e:(den gs Δ (.mkD e)).1 ς G Q X=((den gs Δ e).1 ς G (λx G1=>mkDU x G1 Q) X):=rfl
def T_mkD         e:(den gs Δ (.mkD e)).2 ς G R X=(den gs Δ (.mkD e)).1 ς G (λx G1=>truU x G1 λb=>R b G1) X:=rfl
def D_mkL         e:(den gs Δ (.mkL e)).1 ς G Q X=((den gs Δ e).1 ς G (λx G1=>itU x G1 λxs _=>newO G1 (.lst xs) Q) X):=rfl
def D_mkT         e:(den gs Δ (.mkT e)).1 ς G Q X=((den gs Δ e).1 ς G (λx G1=>itU x G1 λxs _=>Q (.tup xs) G1) X):=rfl
def D_not         a:(den gs Δ (.not a)).1 ς G Q X=((den gs Δ a).1 ς G (λx G1=>truU x G1 λb=>Q (.bl (!b)) G1) X):=rfl
def T_not         a:(den gs Δ (.not a)).2 ς G R X=((den gs Δ a).2 ς G (λb G1=>R (!b) G1) X):=rfl
def D_ife         c a b:(den gs Δ (.ife c a b)).1 ς G Q X=((den gs Δ c).2 ς G (λt G1=>if t=true then (den gs Δ a).1 ς G1 Q X else (den gs Δ b).1 ς G1 Q X) X):=rfl
def T_ife         c a b:(den gs Δ (.ife c a b)).2 ς G R X=((den gs Δ c).2 ς G (λt G1=>if t=true then (den gs Δ a).2 ς G1 R X else (den gs Δ b).2 ς G1 R X) X):=rfl
def D_bop0      : den gs Δ (.bop k a .nil)=den gs Δ a:=rfl
def D_and          : (den gs Δ (.bop true a (.cons b es))).1 ς G Q X=(den gs Δ a).1 ς G (λx G1=>truU x G1 λc=>if c=true then (den gs Δ (.bop true b es)).1 ς G1 Q X else Q x G1) X:=rfl
def D_or          : (den gs Δ (.bop false a (.cons b es))).1 ς G Q X=(den gs Δ a).1 ς G (λx G1=>truU x G1 λc=>if c=true then Q x G1 else (den gs Δ (.bop false b es)).1 ς G1 Q X) X:=rfl
def T_and          : (den gs Δ (.bop true a (.cons b es))).2 ς G R X=(den gs Δ a).2 ς G (λc G1=>if c=true then (den gs Δ (.bop true b es)).2 ς G1 R X else R false G1) X:=rfl
def T_or          : (den gs Δ (.bop false a (.cons b es))).2 ς G R X=(den gs Δ a).2 ς G (λc G1=>if c=true then R true G1 else (den gs Δ (.bop false b es)).2 ς G1 R X) X:=rfl
def O_no        : denO gs Δ .no ς G Q X=Q none G:=rfl
def O_so {gs:List U}{Δ:Cl}{ς:Sg}{G:Gp}{X:KX}{Q:Option Int->Gp->Prop}{e:E}:denO gs Δ (.so e) ς G Q X=(den gs Δ e).1 ς G (λx G1=>match x with|.int i=>Q (some i) G1|_=>False) X:=rfl
def A_nil        : jaI gs Δ .nil ς G Q X=Q [] G:=rfl
def A_cons          : jaI gs Δ (.cons e es) ς G Q X=(den gs Δ e).1 ς G (λx G1=>jaI gs Δ es ς G1 (λxs G2=>Q (x::xs) G2) X) X:=rfl
def C_nil       : denC gs Δ .nil ς G Q=Q true G:=rfl
def C_cons         : denC gs Δ (.cons e es) ς G Q=(den gs Δ e).2 ς G (λb G1=>if b=true then denC gs Δ es ς G1 Q else Q false G1) (λ_ _=>False):=rfl
def P_nil        : denD gs Δ .nil ς G Q X=Q [] G:=rfl
def P_cons {gs:List U}{Δ:Cl}{ς:Sg}{G:Gp}{X:KX}{Q:List (Key×U)->Gp->Prop}{e f:E}{es:Es}:denD gs Δ (.cons e (.cons f es)) ς G Q X=(den gs Δ e).1 ς G (λx G1=>(den gs Δ f).1 ς G1 (λy G2=>match kU x with|some k=>denD gs Δ es ς G2 (λkvs G3=>Q ((k,y)::kvs) G3) X|none=>False) X) X:=rfl
def I_e         : denI gs Δ (.e e) ς G Q X=(den gs Δ e).1 ς G (λx G1=>itU x G1 λxs ok=>Q xs ok G1) X:=rfl
section
variable {gs:List U}{Δ:Cl}{ς:Sg}{G:Gp}{X:KX}{Q:List U->(Gp->Prop)->Gp->Prop}
def I_r1 {e:E}:denI gs Δ (.r1 e) ς G Q X=(den gs Δ e).1 ς G (λx G1=>match x with|.int j=>-(2 ^ 62)<=j/\j<2 ^ 62/\Q (rngU 0 j.toNat) (λ_=>True) G1|_=>False) X:=rfl
def I_r2 {a b:E}:denI gs Δ (.r2 a b) ς G Q X=(den gs Δ a).1 ς G (λx G1=>(den gs Δ b).1 ς G1 (λy G2=>match x,y with|.int i,.int j=>-(2 ^ 62)<=i/\i<2 ^ 62/\-(2 ^ 62)<=j/\j<2 ^ 62/\Q (rngU i (j-i).toNat) (λ_=>True) G2|_,_=>False) X) X:=rfl
end
def I_enum         : denI gs Δ (.enum e) ς G Q X=(den gs Δ e).1 ς G (λx G1=>enI x G1 λxs ok=>Q xs ok G1) X:=rfl
def I_s         : denI gs Δ (.s e) ς G Q X=(den gs Δ e).1 ς G (λx G1=>sgU x λxs=>Q xs (λ_=>True) G1) X:=rfl
def F_nil        : denF gs Δ .nil ς G Q X=Q [] G:=rfl
def F_cons          : denF gs Δ (.cons e es) ς G Q X=(den gs Δ e).1 ς G (λx G1=>fpU x λz=>denF gs Δ es ς G1 (λzs G2=>Q (z::zs) G2) X) X:=rfl
def S_unp         : denS gs Δ (.unp ts e) D ς G=(den gs Δ e).1 ς G (λu G1=>unpU ts u G1 ς λς'=>D.nx ς' G1) λx G1=>D.ex x ς G1:=rfl
def S_expr        : denS gs Δ (.expr e) D ς G=(den gs Δ e).1 ς G (λ_ G1=>D.nx ς G1) λx G1=>D.ex x ς G1:=rfl
def S_asg         : denS gs Δ (.asg t e) D ς G=(den gs Δ e).1 ς G (λu G1=>tgU t u ς λς'=>D.nx ς' G1) λx G1=>D.ex x ς G1:=rfl
def S_asgC         : denS gs Δ (.asgC i e) D ς G=(den gs Δ e).1 ς G (λu G1=>D.nx (ς.set i (some u)) G1) λx G1=>D.ex x ς G1:=rfl
def S_setS        : denS gs Δ (.setS o i e) D ς G=(den gs Δ e).1 ς G (λv G1=>(den gs Δ o).1 ς G1 (λx G2=>(den gs Δ i).1 ς G2 (λy G3=>setU x y v G3 λG4=>D.nx ς G4) (λx G1=>D.ex x ς G1)) (λx G1=>D.ex x ς G1)) (λx G1=>D.ex x ς G1):=rfl
def S_ite         : denS gs Δ (.ite c a b) D ς G=(den gs Δ c).2 ς G (λt G1=>if t=true then jaC gs Δ a D ς G1 else jaC gs Δ b D ς G1) λx G1=>D.ex x ς G1:=rfl
def S_fr          : denS gs Δ (.fr t it b) D ς G=denI gs Δ it ς G (λxs ok G1=>forL ok (λx ς1 G2 k=>tgU t x ς1 λς2=>jaC gs Δ b { D with nx:=k } ς2 G2) xs ς G1 D.nx) λx G1=>D.ex x ς G1:=rfl
def S_ret        : denS gs Δ (.ret e) D ς G=(den gs Δ e).1 ς G D.rt λx G1=>D.ex x ς G1:=rfl
def S_raise         : denS gs Δ (.raise c es) D ς G=jaI gs Δ es ς G (λus G1=>us.length=(clsF c).length/\D.ex ⟨c,us⟩ ς G1) λx G1=>D.ex x ς G1:=rfl
def S_tr          : denS gs Δ (.tr b c n h) D ς G=jaC gs Δ b { D with ex:=λx ς1 G1=>(c=0\/x.c=c)/\hsH x h (ς1.set n none) G1 λς2 G2=>D.nx (ς2.set n none) G2 } ς G:=rfl
def B_nil       : jaC gs Δ .nil D ς G=D.nx ς G:=rfl
def B_cons         : jaC gs Δ (.cons s r) D ς G=denS gs Δ s { D with nx:=λς' G'=>jaC gs Δ r D ς' G' } ς G:=rfl
def V_add     : binU .Add (.int i) (.int j) G Q=Q (.int (i+j)) G:=rfl
def V_cat     : binU .Add (.tup xs) (.tup ys) G Q=(xs.length+ys.length<=Yaf/\Q (.tup (xs++ys)) G):=rfl
def V_catL     : binU .Add (.loc a) (.loc b) G Q=∃xs ys,G a=some (.lst xs)/\G b=some (.lst ys)/\xs.length+ys.length<=Yaf/\newO G (.lst (xs++ys)) Q:=rfl
def V_sub     : binU .Sub (.int i) (.int j) G Q=Q (.int (i-j)) G:=rfl
def V_mul     : binU .Mult (.int i) (.int j) G Q=(CMul i j/\Q (.int (i*j)) G):=rfl
def V_mulL      : binU .Mult (.loc a) (.int k) G Q=∃xs,G a=some (.lst xs)/\-(2 ^ 63)<=k/\k<2 ^ 63/\xs.length*k.toNat<=Yaf/\newO G (.lst (Yaa k.toNat xs).flatten) Q:=rfl
def V_mulT      : binU .Mult (.tup xs) (.int k) G Q=(xs≠[]/\0<=k/\k<2 ^ 62/\xs.length*k.toNat<=Yaf/\Q (.tup (Yaa k.toNat xs).flatten) G):=rfl
def V_fdiv     : binU .FloorDiv (.int i) (.int j) G Q=(0<j/\j<1073741824/\Q (.int (i/j)) G):=rfl
def V_mod     : binU .Mod (.int i) (.int j) G Q=(0<j/\Q (.int (i%j)) G):=rfl
def V_pow     : binU .Pow (.int i) (.int j) G Q=(CPow i j/\Q (.int (i ^ j.toNat)) G):=rfl
def V_neg     : negU (.int i) G Q=Q (.int (-i)) G:=rfl
def W_eqI     : cmpU .Eq (.int i) (.int j) G k=k (decide (i=j)):=rfl
def W_neI     : cmpU .NotEq (.int i) (.int j) G k=k (!decide (i=j)):=rfl
def W_eqS     : cmpU .Eq (.str i) (.str j) G k=k (decide (i=j)):=rfl
def W_neS     : cmpU .NotEq (.str i) (.str j) G k=k (!decide (i=j)):=rfl
def W_lt     : cmpU .Lt (.int i) (.int j) G k=k (decide (i<j)):=rfl
def W_le     : cmpU .LtE (.int i) (.int j) G k=k (decide (i<=j)):=rfl
def W_gt     : cmpU .Gt (.int i) (.int j) G k=k (decide (j<i)):=rfl
def W_ge     : cmpU .GtE (.int i) (.int j) G k=k (decide (j<=i)):=rfl
def W_neT     : cmpU .NotEq (.tup xs) (.tup ys) G k=eqU (.tup xs) (.tup ys) G λb=>k (!b):=rfl
def W_eqT      : cmpU .Eq (.tup xs) (.tup (y::ys)) G k=eqU (.tup xs) (.tup (y::ys)) G k:=rfl
def W_eqT0     : cmpU .Eq (.tup xs) (.tup []) G k=k xs.isEmpty:=rfl
def W_neL     : cmpU .NotEq (.loc a) (.loc b) G k=eqU (.loc a) (.loc b) G λb=>k (!b):=rfl
def W_eqL     : cmpU .Eq (.loc a) (.loc b) G k=eqU (.loc a) (.loc b) G k:=rfl
def W_in     : cmpU .In x y G k=inU x y G k:=rfl
def W_nin     : cmpU .NotIn x y G k=inU x y G λb=>k (!b):=rfl
def W_is     : cmpU .Is x y G k=isU x y k:=rfl
def W_isn     : cmpU .IsNot x y G k=isU x y λb=>k (!b):=rfl
def Y_bl     : truU (.bl b) G k=k b:=rfl
def Y_non    : truU .non G k=k false:=rfl
def Y_int     : truU (.int i) G k=k (i != 0):=rfl
def Y_tup     : truU (.tup xs) G k=k (!xs.isEmpty):=rfl
def J_tup     : itU (.tup xs) G k=k xs λ_=>True:=rfl
def X_tup      : slU (.tup xs) lo hi G Q=Q (.tup (cut xs lo hi)) G:=rfl
def F_len     : bltU .len us G Q=lenU us G Q:=rfl
def F_repr     : bltU .repr us G Q=jfK us G Q:=rfl
def F_min     : bltU .min us G Q=minU us G Q:=rfl
def F_all     : bltU .all us G Q=allU us G Q:=rfl
def F_int     : bltU .int us G Q=intU us G Q:=rfl
def F_str     : bltU .str us G Q=strU us G Q:=rfl
def F_isi     : bltU .isi us G Q=jff us G Q:=rfl
def X_str      : slU (.str x) lo hi G Q=(x.length<=Yaf/\Q (.str (YcR x lo hi)) G):=rfl
def V_addB      : binU .Add (.bl b) (.int j) G Q=Q (.int ((if b=true then (1:Int) else 0)+j)) G:=rfl
def V_subB      : binU .Sub (.bl b) (.int j) G Q=Q (.int ((if b=true then (1:Int) else 0)-j)) G:=rfl
def V_subI      : binU .Sub (.int i) (.bl b) G Q=Q (.int (i-if b=true then (1:Int) else 0)) G:=rfl
def F_lenT     : lenU [.tup xs] G Q=Q (.int xs.length) G:=rfl
def F_min2     : minU [.int i,.int j] G Q=Q (.int (if j<i then j else i)) G:=rfl
def F_max2     : maxU [.int i,.int j] G Q=Q (.int (if j>i then j else i)) G:=rfl
def F_intB     : intU [.bl b] G Q=Q (.int (if b then 1 else 0)) G:=rfl
def F_intI     : intU [.int i] G Q=Q (.int i) G:=rfl
def G_n      : tgU (.n i) u ς k=k (ς.set i (some u)):=rfl
def G_t      : tgU (.t ts) (.tup us) ς k=tgsU ts us ς k:=rfl
def G_nil     : tgsU .nil us ς k=(us=[]/\k ς):=rfl
def G_cons        : tgsU (.cons t ts) (u::r) ς k=tgU t u ς λς'=>tgsU ts r ς' k:=rfl
def sl_0   {ς:Sg}:slot (some u::ς) 0 k=k u:=rfl
def sl_s   {ς:Sg}:slot (o::ς) (i+1) k=slot ς i k:=rfl
def jfM      : putO G a o Q=Q (gup G a o):=propext ⟨λh=>h.at,λh G1 p=>by rw[p.eq];exact h⟩
def ix_t       (h:atI xs i=some u):ixU (.tup xs) (.int i) G Q=Q u G:=by unfold ixU;lia
def ix_l        (g:G a=some (.lst xs))(h:atI xs i=some u):ixU (.loc a) (.int i) G Q=Q u G:=by unfold ixU;lia
def ix_d        (g:G a=some (.dK kvs))(h:dGet kvs (.inr x)=some u):ixU (.loc a) (.str x) G Q=Q u G:=by unfold ixU;dsimp only;rw[g];show(match dGet kvs (.inr x)with|some u=>Q u G|none=>False)=_;rw[h]
def jit       (g:G a=some (.lst xs))(h0:0<=r)(h1:r<xs.length)(q:∀u∈xs,Q u G):ixU (.loc a) (.int r) G Q:=by
 obtain⟨u,hu,e⟩:=jfx h0 h1;rw[ix_l g e];exact q u hu
def jaL  (zs:List Int){r:Int}(g:G a=some (.lst (zs.map .int)))(h0:0<=r)(h1:r<zs.length)(q:∀z∈zs,Q (.int z) G):ixU (.loc a) (.int r) G Q:=
 jit g h0 (by simp_all) λu hu=>by
  grind
theorem jcN  : ∀zs ,jc1 (zs.map .str)=some zs
 |[]=>rfl
 |x::r=>by show(match jc1 (r.map .str)with|some l=>some (x::l)|none=>none)=_;rw[jcN r]
def mt_join    : mtU .join (.str z) G=some ("str", "str.join"):=rfl
def jfd       (g:G a=some (.lst (ys.map .str))):jau .join (.str z) [.loc a] G Q=(z.length<=16/\(ys.map (·.length)).sum+ys.length<=1048576/\Q (.str (YaU z ys)) G):=by
 unfold jau jl9;dsimp only;rw[g];dsimp only;rw[jcN]
def ix_s       (h1:x.length<=Yaf)(h:atI x.cps.toList i=some c)(q:Q (.str ⟨#[c]⟩) G):ixU (.str x) (.int i) G Q:=by unfold ixU;lia
def jdq  (zs:List Str):(zs.map U.str).all flat=true:=by simp[flat]
def in_l       (g:G a=some (.lst ys))(h1:flat x=true)(h2:ys.all flat=true)(q:k (ys.any λy=>eqF y x)):inU x (.loc a) G k:=by
 cases x<;>first|(cases h1;done)|(unfold inU;lia)
def jaR      (g:G a=some (.lst xs)):lenU [.loc a] G Q=Q (.int xs.length) G:=by unfold lenU;lia
def jpX      (g:G a=some (.fro xs)):lenU [.loc a] G Q=Q (.int xs.length) G:=by unfold lenU;lia
def it_l      (g:G a=some (.lst xs)):itU (.loc a) G k=k xs λG'=>lsG G' a=some xs:=by unfold itU;dsimp only;have e:lsG G a=some xs:=(by unfold lsG;rw[g]);rw[e]
def jeL       (g:G a=some (.lst xs)):jau .append (.loc a) [v] G Q=(xs.length<Yaf/\putO G a (.lst (xs++[v])) (Q .non)):=by unfold jau jgg;dsimp only;rw[g]
def jb4     (g:G a=some (.lst xs)):mtU .append (.loc a) G=some ("list", "list.append"):=by unfold mtU;lia
def jm2         (g:G a=some (.lst xs))(h:ixN xs.length i=some j):setU (.loc a) (.int i) v G Q=putO G a (.lst (xs.set j v)) Q:=by unfold setU;lia
def jjv        (g:G a=some (.dK kvs)):setU (.loc a) (.str x) v G Q=(kvs.length<Yaf/\putO G a (.dK (dPut kvs (.inr x) v)) Q):=by unfold setU;dsimp only;rw[g];rfl
def jiv   (h:j<n):ixN n (j:Int)=some j:=by unfold ixN;simp_all
noncomputable def jj7  : Nat->Ss->Ss
 |0,s=>s
 |_+1,.nil=>.nil
 |n+1,.cons _ r=>jj7 n r
def dr_0   : jj7 0 s=s:=rfl
def dr_s     : jj7 (n+1) (.cons s r)=jj7 n r:=rfl
def pk_nil   : jci [] ς=[]:=rfl
def pk_none    : jci (none::r) ς=none::jci r ς:=rfl
def pk_some     : jci (some j::r) ς=(ς[j]?).join::jci r ς:=rfl
def K_str   : kU (.str x)=some (.inr x):=rfl
def K_int   : kU (.int i)=some (.inl i):=rfl
def sl_f       (g:G a=some (.fro xs)):slU (.loc a) lo hi G Q=newO G (.lst (cut xs lo hi)) Q:=by unfold slU;dsimp only;have e:lsG G a=some xs:=(by unfold lsG;rw[g]);rw[e]
def sl_l       (g:G a=some (.lst xs)):slU (.loc a) lo hi G Q=newO G (.lst (cut xs lo hi)) Q:=by unfold slU;dsimp only;have e:lsG G a=some xs:=(by unfold lsG;rw[g]);rw[e]
def jbT   (f:α->β)(xs:List α) lo hi:cut (xs.map f) lo hi=(cut xs lo hi).map f:=by unfold cut;simp_all
def jfm   (xs:List α)(n:Nat):cut xs none (some (n:Int))=xs.take n:=by
 unfold cut;rw[HT.sIx_none,HT.sIx_nat,YdE,Nat.sub_zero,List.take_eq_take_iff]
 lia
def jcW   (xs:List α)(n:Nat):cut xs (some (n:Int)) none=xs.drop n:=by
 unfold cut;rw[HT.sIx_none,HT.sIx_nat];by_cases h:n<=xs.length
 ·rw[Nat.min_eq_left h,Ybt (by simp)]
 ·rw[Nat.min_eq_right (by lia),Yfg (Yag _),Yfg (by lia),List.take_nil]
def fx_cells      : ixU (.loc f) (.str "cells") (gup G f (.dK (fdU c a l t))) Q=Q (.loc c) (gup G f (.dK (fdU c a l t))):=ix_d jaE jmm
def fx_at      : ixU (.loc f) (.str "at") (gup G f (.dK (fdU c a l t))) Q=Q (.int a) (gup G f (.dK (fdU c a l t))):=ix_d jaE g_at
def fx_left      : ixU (.loc f) (.str "left") (gup G f (.dK (fdU c a l t))) Q=Q (.int l) (gup G f (.dK (fdU c a l t))):=ix_d jaE jou
def fx_turn      : ixU (.loc f) (.str "turn") (gup G f (.dK (fdU c a l t))) Q=Q (.int t) (gup G f (.dK (fdU c a l t))):=ix_d jaE jkI
def fs_at      : setU (.loc f) (.str "at") (.int x) (gup G f (.dK (fdU c a l t))) Q=Q (gup G f (.dK (fdU c x l t))):=by rw[jjv jaE,p_at,jfM,jiE];exact propext ⟨λh=>h.2,λh=>⟨jiK,h⟩⟩
def fs_left      : setU (.loc f) (.str "left") (.int x) (gup G f (.dK (fdU c a l t))) Q=Q (gup G f (.dK (fdU c a x t))):=by rw[jjv jaE,jnB,jfM,jiE];exact propext ⟨λh=>h.2,λh=>⟨jiK,h⟩⟩
end Z

namespace Y
open PySem L2
noncomputable def nO  : Obj:=⟨.none,none,.fields ⟨[]⟩,⟨[]⟩⟩
noncomputable def tO  (v:List Value):Obj:=⟨.type "tuple",none,.seq ⟨v⟩ 0,⟨[]⟩⟩
noncomputable def sO  (c:Value)(v:List Value):Obj:=⟨c,none,.fields ⟨v⟩,⟨[]⟩⟩
noncomputable def rO  (v:List (Option Value)):Obj:=⟨.type "frame",none,.plain,⟨v⟩⟩
noncomputable def gO  (x q:Str)(s:Stmt):Obj:=⟨.none,none,.func { name:=x,qualname:=q,params:=jaA s,body:=.stmts (jaf s),scope:=jaa s,globals:=0,closure:=[],defaults:=.none,kwdefaults:=.none },⟨[]⟩⟩
noncomputable def fO  (x q:Str)(s:Stmt)(m:Value)(c:Nat):Obj:=⟨.type "function",none,.func (Ya7 x q (jaA s) (jaf s) (jaa s) .none .none .none m none (.ref c) .none),⟨[]⟩⟩
noncomputable def kO  (fi x q:Str)(t:Nat)(l a f:Int)(r:Nat)(b:Bool)(u v w:Value)(z:Nat):Obj:=⟨.type "code",none,.fields ⟨[.str x t,.str q (t+1),.str fi (t+2),.int l 0,.int a 0,.int 0 0,.int 0 0,.int f 0,.ref r,.bool b,.int 181 0,.ref (r+1),.none,u,v,w,.int z 0,.int l 0,.str fi (z+1)]⟩,⟨[]⟩⟩
noncomputable def dE  (P:Params)(x:Str)(t:Nat)(v:Value):Yew:=⟨PyData.keyHash P x,.str x t,v⟩
noncomputable def dO  (e:List Yew)(n:Nat):Obj:=⟨.type "dict",none,.dict ⟨e⟩ n,⟨[]⟩⟩
noncomputable def cO  (x:Str)(b m:List Value)(n:Nat)(u:List Value)(s:List (Option Value)):Obj:=⟨.type "type",none,.cls { name:=x,bases:=b,mro:=m,ns:=n,qualname:=x,subclasses:=u },⟨s⟩⟩
noncomputable def tE  : Obj:=tO []
noncomputable abbrev bE  : Ycw:=.nil
noncomputable abbrev bN  (o:Obj)(l r:Ycw):Ycw:=.node o l r
noncomputable abbrev bL  (o:Obj):Ycw:=.node o .nil .nil
end Y
namespace Z
open PySem L2
noncomputable def argB  (ps:List Str)(a:Ygv):Bool:=a.posonlyargs.isEmpty&&(a.args.map (·.arg)==ps)&&a.vararg.isNone&&a.kwonlyargs.isEmpty&&a.kwarg.isNone
def jn5  : ∀{ps:List Str} {us:List Value},us.length=ps.length->ps.Nodup->(ps.filterMap λn=>((ps.zip us).lookup n).map (n,·))=ps.zip us/\∀n∈ps,((ps.zip us).lookup n).isSome=true:=by
 have key:∀{l:List Str} {vs:List Value} {L:List (Str×Value)},vs.length=l.length->l.Nodup->(∀(i:Nat) n v,l[i]?=some n->vs[i]?=some v->L.lookup n=some v)->(l.filterMap λn=>(L.lookup n).map (n,·))=l.zip vs/\∀n∈l,(L.lookup n).isSome=true:=by
  intro l
  induction l with
  |nil=>simp_all
  |cons x l ih=>
   intro vs L hl nd hL;obtain _|⟨v,vs⟩:=vs
   ·cases hl
   ·have h0:=hL 0 x v rfl rfl;obtain⟨e1,e2⟩:=ih (L:=L) (vs:=vs) (by simp_all) (List.nodup_cons.mp nd).2 λi n v a b=>hL (i+1) n v a b
    refine⟨?_,λn hn=>?_⟩
    ·simp_all
    grind
 intro ps us hl nd;refine key hl nd λi n v a b=>?_;have hz:(ps.zip us)[i]?=some (n,v):=List.getElem?_zip_eq_some.mpr ⟨a,b⟩;have:∀(l:List (Str×Value)),(l.map (·.1)).Nodup->(n,v)∈l->l.lookup n=some v:=by
  intro l
  induction l with
  |nil=>simp_all
  |cons p l ih=>
   intro nd h;obtain⟨m,u⟩:=p;rw[YaX];by_cases e:n=m
   ·subst e;rw[beq_self_eq_true];rcases YaG.mp h with h|h
    ·cases h;rfl
    ·exact absurd (List.mem_map.mpr ⟨_,h,rfl⟩) (List.nodup_cons.mp nd).1
   ·rw[beq_eq_false_iff_ne.mpr e];rcases YaG.mp h with h|h
    ·cases h;exact absurd rfl e
    ·exact ih (List.nodup_cons.mp nd).2 h
 exact this _ (by rw[Ygp (by lia)];exact nd) (Ya2 hz)
def jgc    (h:argB ps a=true)(nd:ps.Nodup){kV doc pm:Value}(hl:us.length=ps.length) :
  YfU (Ya7 x q a b sc .none kV doc pm an cdv ct) ⟨us,[]⟩=pure (ps.zip us):=by
 obtain⟨po,as,va,ko,kd,ka,df⟩:=a;unfold argB at h;simp only[Yao,List.isEmpty_iff,Option.isNone_iff_eq_none,beq_iff_eq]at h;obtain⟨⟨⟨⟨rfl,rfl⟩,rfl⟩,rfl⟩,rfl⟩:=h;obtain⟨e1,e2⟩:=jn5 hl nd;have e3:(List.filter (λn=>(YbF n ((as.map (·.arg)).zip us)).isNone) (as.map (·.arg)))=[]:=List.filter_eq_nil_iff.mpr λn hn=>by
  have:=e2 n hn
  simp_all
 have e0:seqItems? Ybx=pure none:=rfl;unfold YfU;dsimp only;rw[e0];generalize as.map (·.arg)=ns at *;have e4:ns.take (ns.length-0)=ns:=by simp_all
 simp[hl,e1,e3,e4]

abbrev FL:=List (Addr×Addr×Value)
noncomputable def refB  (v:Option (Option Value))(f:Addr):Bool:=match v with
 |some (some (.ref a))=>a==f
 |_=>false
def jgu    (h:refB v f=true):v=some (some (.ref f)):=by
 unfold refB at h
 lia
noncomputable def dynB  (T:Tab)(K:Yab):Nat->FL->List Fun->List Stmt->Bool
 |_,[],[],[]=>true
 |i,x::fs,d::ds,s::ss=>refB (Ybc K YaC d.name) x.1&&Ybz K (.ref x.2.1) d.name&&(match T.ns.lookup i with|none=>true|some z=>jdB K (.ref x.2.1) z.P)&&argB d.ps (jaA s)&&dynB T K (i+1) fs ds ss
 |_,_,_,_=>false
noncomputable def lkR  : FL->List Fun->List Stmt->List (Option Obj)
 |x::fs,d::ds,s::ss=>some (Y.fO d.name d.name s x.2.2 x.2.1)::lkR fs ds ss
 |_,_,_=>[]
theorem jiL  {T:Tab}:∀{i } {fs } {ds } {ss },dynB T K i fs ds ss=true->fs.map (λx=>K.lookup x.1)=lkR fs ds ss->∀{n } {d } {s },ds[n]?=some d->ss[n]?=some s->
  ∃x:Addr×Addr×Value,Ybc K YaC d.name=some (some (.ref x.1))/\K.lookup x.1=some (Y.fO d.name d.name s x.2.2 x.2.1)/\Ybz K (.ref x.2.1) d.name=true/\(∀z,T.ns.lookup (i+n)=some z->jdB K (.ref x.2.1) z.P=true)/\argB d.ps (jaA s)=true
 |_,_,[],_,_,_,_,_,_,e,_=>by simp at e
 |_,_,_::_,[],_,_,_,_,_,_,e=>by simp at e
 |_,[],_::_,_::_,h,_,_,_,_,_,_=>by unfold dynB at h;cases h
 |i,x::fs,d::ds,s::ss,h,g,n,d',s',e1,e2=>by
  unfold dynB at h;simp only[Yao]at h;obtain⟨⟨⟨⟨h1,h2⟩,h3⟩,h4⟩,h5⟩:=h;unfold lkR at g;rw[Yas]at g;injection g with g1 g2
  cases n with
  |zero=>
   cases(Yan e1:d=d');cases(Yan e2:s=s');exact⟨x,jgu h1,g1,h2,λz hz=>by lia,h4⟩
  |succ n=>
   obtain⟨y,q1,q2,q3,q4,q5⟩:=jiL h5 g2 (n:=n) e1 e2;exact⟨y,q1,q2,q3,λz hz=>q4 z (by rw[show i+1+n=i+(n+1) by lia];exact hz),q5⟩
def jlt    (h:scB N ps sc=true):ps.Nodup:=by
 have S:=jfJ h;rw[<- S.pre];exact S.nd.sublist (YcB _ _)
def jf1        (h:K.lookup f=some ⟨c,d,.func fd,sl⟩):Ybl K (.ref f)=true:=by
 unfold Ybl
 lia
section
variable {T:Tab}{K:Yab}{h:Heap}{mg:Str->Option Value}
def joC   {sts:List Stmt}(X:K.In h)(G:h.Ns YaC mg)(hst:jei T 0 T.funs sts=true)(heq:jeU T sts 0 T.funs sts)(hB:dynB T K 0 fs T.funs sts=true)(hL:fs.map (λx=>K.lookup x.1)=lkR fs T.funs sts):Dyn T K mg sts:=by
 intro n d st h1 h2;obtain⟨x,q1,q2,q3,q4,q5⟩:=jiL hB hL h1 h2;have F:=jiH (st:=st) q2 q3 (jf1 q2);obtain⟨st',e,hs,_⟩:=jch hst heq h1;cases h2.symm.trans e;exact⟨_,_,F,Yc7 X G q1,F.binds λ_ _ _ _ _ _ us hl=>jgc q5 (jlt hs) hl,λz hz=>q4 z (by lia)⟩
noncomputable def bltB  (K:Yab):Bool:=jcb.all λx=>match Ybc K YaC x with
 |some none=>true
 |_=>false
def joN  (X:K.In h)(G:h.Ns YaC mg)(hb:bltB K=true):∀x∈jcb,mg x=none:=λx hx=>by
 have:=Ydk.mp hb x hx;refine PySem.W.mg_none_of X G ?_
 lia
noncomputable def gsB  (K:Yab):List Str->List U->Bool
 |[],[]=>true
 |x::xs,u::us=>(match u,Ybc K YaC x with
  |.int i,some (some (.int j _))=>i==j
  |.str i,some (some (.str j _))=>i==j
  |_,_=>false)&&gsB K xs us
 |_,_=>false
theorem jos  (X:K.In h)(G:h.Ns YaC mg):∀{xs } {us },gsB K xs us=true->∀(n:Nat) x u ,xs[n]?=some x->us[n]?=some u->∃v w,mg x=some w/\RelV v w/\∀H,RU K H u v
 |[],_,_,_,_,_,e,_=>by simp at e
 |_::_,[],_,_,_,_,_,e=>by simp at e
 |x::xs,u::us,hb,n,x',u',e1,e2=>by
  unfold gsB at hb;rw[Yao]at hb;cases n with
  |zero=>
   cases(Yan e1:x=x');cases(Yan e2:u=u');have h1:=hb.1;split at h1
   ·rename_i i j t q;cases eq_of_beq h1;exact⟨.int i,_,Yc7 X G q,⟨_,rfl⟩,λ_=>rfl⟩
   ·rename_i i j t q;cases eq_of_beq h1;exact⟨.str i,_,Yc7 X G q,⟨_,rfl⟩,λ_=>rfl⟩
   lia
  |succ n=>exact jos X G hb.2 n x' u' e1 e2
def CsA  (K:Yab):List Nat->Prop
 |[]=>True
 |n::r=>(∃C,XCls K (gK K) (clsN n) (clsF n) C)/\CsA K r
theorem joI  : ∀{l },CsA K l->∀n∈l,1<=n->∃C,XCls K (gK K) (clsN n) (clsF n) C
 |[],_,_,hn,_=>absurd hn Yar
 |m::r,hc,n,hn,h1=>by
  unfold CsA at hc;rcases YaG.mp hn with rfl|hn
  ·exact hc.1
  ·exact joI hc.2 n hn h1
def all2  {l:Yec}{sts:List Stmt}{d:Fun}(X:K.In h)(G:h.Ns YaC mg)(hfa:mg "law" = some (.ref fa))(hst:jei T 0 T.funs sts=true)(heq:jeU T sts 0 T.funs sts)
  (hU:∀t∈tabs,∀t'∈tabs,t.1=t'.1->t=t') (hB:dynB T K 0 fs T.funs sts=true) (hL:fs.map (λx=>K.lookup x.1)=lkR fs T.funs sts) (hb:bltB K=true) (hg:gsB K T.gn T.gs=true) (hc:CsA K T.cs)
  (hd:T.funs[n]?=some d) (hs:sts[n]?=some st) (hn:T.ns.lookup n=none) (hdn:d.name = "law") (hps:d.ps=[("_law_script" : Str)]) :
  ∃fd ,(∀(s:Shared) v ,BindsTo s fd ⟨[v],[]⟩ [("_law_script",v)])/\∀base ,K.In base->base.Ns YaC mg->BmAt mg base->FnOk l.prog w K mg base (CX1 l.prog w) (k+2) fa fd ["_law_script"] (lSp K (jac T k n)):=by
 have dyn:=joC X G hst heq hB hL;obtain⟨x,q1,q2,q3,q4,q5⟩:=jiL hB hL hd hs;obtain⟨st',e,hsc,_⟩:=jch hst heq hd;cases hs.symm.trans e;have F:=jiH (st:=st) q2 q3 (jf1 q2);rw[hdn]at q1;cases hfa.symm.trans (Yc7 X G q1);refine⟨Ya7 d.name d.name (jaA st) (jaf st) (jaa st) .none .none .none x.2.2 none (.ref x.2.1) .none,λs v=>.of_eq ((jgc (us:=[v]) q5 (jlt hsc) (by rw[hps];rfl)).trans (by rw[hps];rfl)),λbase hKb _ hBm=>?_⟩
 rw[<- hps];exact jg7 F hst heq dyn hU hKb hBm (joN X G hb) (jos X G hg) (joI hc) (jn1 X G) hd hs hn
end

noncomputable def jqe  (x:Str)(D N b t t':Nat)(u:List Value):Obj:=Y.cO x [.type "ValueError"] (.ref D::bmV) N u [some (.ref b),none,some (.str x t),some (.str x t'),some (.builtin "ValueError.__new__"),some (.bool true)]
noncomputable def clsO  (x:Str)(C D N b t t':Nat):Obj:=Y.cO x [.ref D] (.ref C::.ref D::bmV) N [] [some (.ref b),none,some (.str x t),some (.str x t'),some (.builtin "ValueError.__new__"),some (.bool true)]
def xb_mk   D N b t t' u (l:K.lookup D=some (jqe "PlanError" D N b t t' u))(h:(refB (Ybc K YaC "PlanError") D&&Ybl K (.ref D)&&(jdV K N==some ksB)&&offB ksB && !ksB.contains ("__init__" : Str))=true):∃mD,XBase K (gK K) D mD:=by
 simp only[Yao,YcC]at h;obtain⟨⟨⟨⟨h1,h2⟩,h3⟩,h4⟩,h5⟩:=h;exact jjf (jgu h1) h2 l (eq_of_beq h3) h4 h5
def xc_mk   (B:∃mD,XBase K (gK K) D mD) x qual fs st (C N b t t' fI c:Nat)(m:Value)(l1:K.lookup C=some (clsO x C D N b t t'))(l2:K.lookup fI=some (Y.fO "__init__" qual st m c))
  (h:(refB (Ybc K YaC x) C&&Ybl K (.ref C)&&(jdV K N==some ksC)&&offB ksC&&refB (Ybc K N "__init__") fI&&Ybz K (.ref c) qual&&scB (("self" : Str)::fs) ("self" :: fs) (jaa st)&&((("self" : Str)::fs).all λy=>(jaa st).names.lookup y==some .local)&&argB (("self" : Str)::fs) (jaA st))=true)
  (bd:(∃f p1 p2 p3 pos,fs=[f]/\jaf st=[.Assign [.Attribute (.Name "self" p1) f p2] (.Name f p3) pos])\/∃f f2 p1 p2 p3 pos q1 q2 q3 qos,fs=[f,f2]/\f≠f2/\jaf st=[.Assign [.Attribute (.Name "self" p1) f p2] (.Name f p3) pos,.Assign [.Attribute (.Name "self" q1) f2 q2] (.Name f2 q3) qos]):∃C,XCls K (gK K) x fs C:=by
 obtain⟨mD,B⟩:=B;simp only[Yao]at h;obtain⟨⟨⟨⟨⟨⟨⟨⟨h1,h2⟩,h3⟩,h4⟩,h5⟩,h6⟩,h7⟩,h8⟩,h9⟩:=h;have F:=jiH (st:=st) l2 h6 (jf1 l2);exact⟨C,jkY B (jgu h1) h2 l1 (eq_of_beq h3) h4 (jgu h5) F l2 h7 (F.binds λ_ _ _ _ _ _ us hl=>jgc h9 (jlt h7) hl) h8 bd⟩
section
local macro_rules
 |`(#[])=>`(.nil)
 |`(#[$x])=>`(.cons $x .nil)
 |`(#[$x,$xs,*])=>`(.cons $x #[$xs,*])
noncomputable abbrev je7  : Nat:=0
noncomputable abbrev jbH  : Nat:=1
noncomputable abbrev jaz  : Nat:=2
noncomputable abbrev jb2  : Nat:=4
noncomputable abbrev jcx  : Nat:=5
noncomputable abbrev je6  : Nat:=6
noncomputable abbrev jdc  : Nat:=7
noncomputable abbrev jcz  : Nat:=8
noncomputable abbrev jcy  : Nat:=9
noncomputable abbrev jdS  : Nat:=10
noncomputable abbrev jab  : Nat:=11
noncomputable abbrev jdd  : Nat:=12
noncomputable abbrev jdf  : Nat:=13
noncomputable abbrev jby  : Nat:=14
noncomputable abbrev jcl  : Nat:=15
noncomputable abbrev jcn  : Nat:=16
noncomputable abbrev jdh  : Nat:=17
noncomputable abbrev jde  : Nat:=18
noncomputable abbrev jal  : Nat:=19
noncomputable abbrev jb3  : Nat:=20
noncomputable abbrev jbp  : Nat:=21
noncomputable abbrev jcm  : Nat:=22
noncomputable abbrev jdR  : Nat:=23
noncomputable abbrev jdg  : Nat:=24
noncomputable abbrev jbq  : Nat:=25
noncomputable abbrev jbM  : Nat:=26
noncomputable abbrev jbz  : Nat:=27
noncomputable abbrev jbQ  : Nat:=28
noncomputable abbrev jcA  : Nat:=29
noncomputable abbrev jaw  : Nat:=30
noncomputable abbrev jbd  : Nat:=31
noncomputable abbrev jaZ  : Nat:=32
noncomputable abbrev jlX  : Nat:=33
noncomputable def jfl  : Fun:=⟨"is_name",["thing"],["thing"],#[.ite (.not (.bop true (.blt .isi #[.v 0,.ty "str"]) #[.cmp2 .LtE .LtE (.int 1) (.blt .len #[.v 0]) (.g 0)])) #[.ret (.bl false)] .nil,.ret (.blt .all #[.lc [none] (.n 0) (.s (.v 0)) .nil (.cmp2 .LtE .LtE (.str "a") (.v 0) (.str "z"))])]⟩
noncomputable def jdY  : Fun:=⟨"words_of",["line"],["line"],#[.ret (.meth .split (.v 0) #[.str " "])]⟩
noncomputable def jbS  : Fun:=⟨"number_in",["word"],["word"],#[.ite (.bop false (.not (.cmp2 .LtE .LtE (.int 1) (.blt .len #[.v 0]) (.g 1))) #[.not (.blt .all #[.lc [none] (.n 0) (.s (.v 0)) .nil (.cmp .In (.v 0) (.g 2))])]) #[.ret .non] .nil,.ret (.ife (.bop true (.cmp .Gt (.blt .len #[.v 0]) (.int 1)) #[.cmp .Eq (.ix (.v 0) (.int 0)) (.str "0")]) .non (.blt .int #[.v 0]))]⟩
noncomputable def jaS  : Fun:=⟨"first_fault",["words", "least", "fits"],["words", "least", "fits", "at"],#[.fr (.n 3) (.r1 (.blt .len #[.v 0])) #[.ite (.not (.app 2 #[.v 3])) #[.ret (.v 3)] .nil],.ret (.ife (.cmp .Lt (.blt .len #[.v 0]) (.v 1)) (.blt .len #[.v 0]) .non)]⟩
noncomputable abbrev jdK  : Nat:=35
noncomputable def jbl  : Fun:=⟨"works_fault",["words"],["words", "fits"],#[.ret (.call 34 #[.v 0,.v 0,.int 2])]⟩
noncomputable def ja8  : Fun:=⟨"ff@works_fault",["words", "w@", "n@"],["words", "w@", "n@", "at@"],#[.fr (.n 3) (.r1 (.blt .len #[.v 1])) #[.ite (.not (.call 35 #[.v 3,.v 0])) #[.ret (.v 3)] .nil],.ret (.ife (.cmp .Lt (.blt .len #[.v 1]) (.v 2)) (.blt .len #[.v 1]) .non)]⟩
noncomputable def ja9  : Fun:=⟨"fits@works_fault",["at", "words"],["at", "words"],#[.ite (.cmp .Eq (.v 0) (.int 0)) #[.ret (.cmp .Eq (.ix (.v 1) (.v 0)) (.str "works"))] .nil,(.ret (.bop true (.cmp .LtE (.v 0) (.g 3)) #[.call je7 #[.ix (.v 1) (.v 0)],.cmp .NotIn (.ix (.v 1) (.v 0)) (.sl (.v 1) (.so (.int 1)) (.so (.v 0)))]))]⟩
noncomputable def jbV  : Nst:=⟨148,3,34,35,[0],0,1,2, "words", "fits", "at"⟩
noncomputable abbrev jet  : Nat:=37
noncomputable def jbB  : Fun:=⟨"span_fault",["names", "words"],["names", "words", "fits"],#[.ret (.call 36 #[.v 0,.v 1,.v 1,.int 5])]⟩
noncomputable def jbh  : Fun:=⟨"ff@span_fault",["names", "words", "w@", "n@"],["names", "words", "w@", "n@", "at@"],#[.fr (.n 4) (.r1 (.blt .len #[.v 2])) #[.ite (.not (.call 37 #[.v 4,.v 0,.v 1])) #[.ret (.v 4)] .nil],.ret (.ife (.cmp .Lt (.blt .len #[.v 2]) (.v 3)) (.blt .len #[.v 2]) .non)]⟩
noncomputable def jbj  : Fun:=⟨"fits@span_fault",["at", "names", "words"],["at", "names", "words"],#[.ite (.cmp .Eq (.v 0) (.int 0)) #[.ret (.cmp .In (.ix (.v 2) (.v 0)) (.tup #[.str "span",.str "apart"]))] .nil,.ite (.cmp .Lt (.v 0) (.int 3)) #[.ret (.cmp .In (.ix (.v 2) (.v 0)) (.v 1))] .nil,.ite (.bop false (.cmp .Gt (.v 0) (.int 4)) #[.cmp .Is (.call jaz #[.ix (.v 2) (.v 0)]) .non]) #[.ret (.bl false)] .nil,.ret (.bop false (.cmp .Eq (.v 0) (.int 3)) #[.cmp .Eq (.ix (.v 2) (.int 0)) (.str "apart"),.cmp .LtE (.call jaz #[.ix (.v 2) (.int 3)]) (.call jaz #[.ix (.v 2) (.int 4)])])]⟩
noncomputable def jcs  : Nst:=⟨155,3,36,37,[0,1],1,2,5, "words", "fits", "at"⟩
noncomputable def jfk  : Fun:=⟨"span_in",["names", "words"],["names", "words", "word", "one", "other", "low", "high"],#[.unp #[.n 2,.n 3,.n 4,.n 5,.n 6] (.v 1),(.ret (.tup #[.v 2,.meth .index (.v 0) #[.v 3],.meth .index (.v 0) #[.v 4],.call jaz #[.v 5],.call jaz #[.v 6]]))]⟩
noncomputable def jdr  : Fun:=⟨"read_plan",["lines"],["lines", "first", "at", "names", "spans", "row", "words"],#[.ite (.not (.v 0)) #[.raise 4 #[.int 0,.int 0]] .nil,.asg (.n 1) (.call jbH #[.ix (.v 0) (.int 0)]),.asg (.n 2) (.call jb2 #[.v 1]),.ite (.cmp .IsNot (.v 2) .non) #[.raise 4 #[.int 0,.v 2]] .nil,.asg (.n 3) (.mkT (.sl (.v 1) (.so (.int 1)) .no)),.asg (.n 4) (.lst .nil),(.fr (.n 5) (.r2 (.int 1) (.blt .len #[.v 0])) #[.asg (.n 6) (.call jbH #[.ix (.v 0) (.v 5)]),.asg (.n 2) (.ife (.cmp .LtE (.v 5) (.g 4)) (.call jcx #[.v 3,.v 6]) (.int 0)),.ite (.cmp .IsNot (.v 2) .non) #[.raise 4 #[.v 5,.v 2]] .nil,.expr (.meth .append (.v 4) #[.call je6 #[.v 3,.v 6]])]),.ret (.tup #[.v 3,.mkT (.v 4)])]⟩
noncomputable abbrev jeu  : Nat:=39
noncomputable def jbC  : Fun:=⟨"line_fault",["names", "told", "beat", "words"],["names", "told", "beat", "words", "fits"],#[.ret (.call 38 #[.v 0,.v 1,.v 2,.v 3,.v 3,.int 2])]⟩
noncomputable def jbi  : Fun:=⟨"ff@line_fault",["names", "told", "beat", "words", "w@", "n@"],["names", "told", "beat", "words", "w@", "n@", "at@"],#[.fr (.n 6) (.r1 (.blt .len #[.v 4])) #[.ite (.not (.call 39 #[.v 6,.v 0,.v 1,.v 2,.v 3])) #[.ret (.v 6)] .nil],.ret (.ife (.cmp .Lt (.blt .len #[.v 4]) (.v 5)) (.blt .len #[.v 4]) .non)]⟩
noncomputable def jbk  : Fun:=⟨"fits@line_fault",["at", "names", "told", "beat", "words"],["at", "names", "told", "beat", "words", "word"],#[.asg (.n 5) (.ix (.v 4) (.v 0)),.ite (.cmp .Eq (.v 0) (.int 0)) #[.ret (.cmp .Eq (.v 5) (.blt .str #[.v 3]))] .nil,.ite (.bop true (.cmp .Eq (.v 0) (.int 1)) #[.cmp .Eq (.v 5) (.g 5)]) #[.ret (.bl true)] .nil,.ite (.bop false (.cmp .Eq (.ix (.v 4) (.int 1)) (.g 5)) #[.cmp .NotIn (.v 5) (.v 1),.cmp .In (.v 5) (.v 2)]) #[.ret (.bl false)] .nil,.ret (.bop false (.cmp .Eq (.v 0) (.int 1)) #[.cmp .Lt (.meth .index (.v 1) #[.ix (.v 4) (.bin .Sub (.v 0) (.int 1))]) (.meth .index (.v 1) #[.v 5])])]⟩
noncomputable def jct  : Nst:=⟨176,3,38,39,[0,1,2,3],3,4,2, "words", "fits", "at"⟩
noncomputable def jcC  : Fun:=⟨"read_board",["plan", "period", "lines"],["plan", "period", "lines", "names", "told", "row", "line", "words", "at", "name"],#[.asg (.n 3) (.ix (.v 0) (.int 0)),.asg (.n 4) (.dic .nil),(.fr (.t #[.n 5,.n 6]) (.enum (.v 2)) #[.asg (.n 7) (.call jbH #[.v 6]),.asg (.n 8) (.ife (.cmp .Lt (.v 5) (.v 1)) (.call jcz #[.v 3,.v 4,.v 5,.v 7]) (.int 0)),.ite (.cmp .IsNot (.v 8) .non) #[.raise 4 #[.v 5,.v 8]] .nil,.fr (.n 9) (.e (.sl (.v 7) (.so (.int 1)) .no)) #[.ite (.cmp .NotEq (.v 9) (.g 5)) #[.setS (.v 4) (.v 9) (.v 5)] .nil]]),(.ite (.bop false (.cmp .Lt (.blt .len #[.v 2]) (.v 1)) #[.cmp .Lt (.blt .len #[.v 4]) (.blt .len #[.v 3])]) #[(.raise 4 #[.blt .len #[.v 2],.int 0])] .nil),.ret (.mkT (.lc [none,some 4] (.n 0) (.e (.v 3)) .nil (.ix (.v 1) (.v 0))))]⟩
noncomputable def jd3  : Fun:=⟨"_law_feed",["_law_script"],["_law_script"],#[(.ret (.dic #[.str "cells",.bin .Add (.mkL (.sl (.v 0) .no (.so (.int 63)))) (.bin .Mult (.lst #[.int 0]) (.blt .int #[.cmp .Eq (.blt .len #[.v 0]) (.int 0)])),.str "at",.int 0,.str "left",.int 0,.str "turn",.int 0]))]⟩
noncomputable def jd4  : Fun:=⟨"_law_draw",["_law_feed_here", "_law_many"],["_law_feed_here", "_law_many", "_law_cell", "_law_mixed", "_law_found"],#[.setS (.v 0) (.str "turn") (.bin .Add (.ix (.v 0) (.str "turn")) (.int 1)),(.ite (.cmp .Eq (.ix (.v 0) (.str "left")) (.int 0)) #[.asg (.n 2) (.ix (.ix (.v 0) (.str "cells")) (.bin .Mod (.ix (.v 0) (.str "at")) (.blt .len #[.ix (.v 0) (.str "cells")]))),.setS (.v 0) (.str "at") (.bin .Add (.ix (.v 0) (.str "at")) (.int 1)),.ite (.cmp .Lt (.v 2) (.bin .Pow (.int 10) (.int 18))) #[.asg (.n 3) (.bin .Mod (.bin .Mult (.bin .Add (.bin .Mod (.v 2) (.int 2147483629)) (.bin .Mult (.int 1013) (.ix (.v 0) (.str "turn")))) (.int 48271)) (.int 2147483647)),.asg (.n 3) (.bin .Mod (.bin .Mult (.bin .Add (.bin .FloorDiv (.v 3) (.int 64)) (.bin .Mult (.int 41) (.ix (.v 0) (.str "turn")))) (.int 69621)) (.int 2147483587)),.ret (.bin .Mod (.bin .FloorDiv (.v 3) (.int 64)) (.v 1))] .nil,.setS (.v 0) (.str "left") (.v 2)] .nil),.asg (.n 4) (.bin .Mod (.ix (.v 0) (.str "left")) (.v 1)),.setS (.v 0) (.str "left") (.bin .FloorDiv (.ix (.v 0) (.str "left")) (.v 1)),.ret (.v 4)]⟩
noncomputable def jdt  : Fun:=⟨"_law_names",["_law_feed_here", "_law_many"],["_law_feed_here", "_law_many", "_law_menu", "_law_first", "_law_step", "_law_names_here", "_law_signs_here"],#[.asg (.n 2) (.lst #[.str "a",.str "ab",.str "abc",.str "works",.str "span",.str "apart",.str "none",.str "round",.str "held",.str "zzzzzzzz",.str "undo",.str "b",.str "ba",.str "plan"]),.expr (.meth .append (.v 2) #[.str "x"]),.asg (.n 3) (.call jab #[.v 0,.int 15]),.asg (.n 4) (.ix (.lst #[.int 1,.int 2,.int 4,.int 7,.int 8,.int 11,.int 13,.int 14]) (.call jab #[.v 0,.int 8])),.asgC 5 (.lc [none,some 2,some 3,some 4] (.n 0) (.r1 (.v 1)) .nil (.ix (.v 1) (.bin .Mod (.bin .Add (.v 2) (.bin .Mult (.v 3) (.v 0))) (.int 15)))),(.ite (.cmp .Eq (.call jab #[.v 0,.int 3]) (.int 0)) #[.asgC 6 (.lc [none,some 0] (.n 0) (.r1 (.bin .Add (.int 1) (.call jab #[.v 0,.int 8]))) .nil (.ix (.str "abcdefghijklmnopqrstuvwxyz") (.call jab #[.v 1,.int 26]))),.ite (.cmp .NotIn (.meth .join (.str "") #[.v 6]) (.v 5)) #[.setS (.v 5) (.call jab #[.v 0,.v 1]) (.meth .join (.str "") #[.v 6])] .nil] .nil),.ret (.mkT (.v 5))]⟩
noncomputable def jdv  : Fun:=⟨"_law_cycle",["_law_feed_here"],["_law_feed_here"],#[.ret (.ix (.lst #[.int 1,.int 2,.int 3,.int 4,.int 5,.int 6,.int 7,.int 8,.int 10,.int 12,.int 30,.int 60,.int 120,.int 600]) (.call jab #[.v 0,.int 14]))]⟩
noncomputable def jcE  : Fun:=⟨"_law_number",["_law_feed_here", "_law_cycle_here"],["_law_feed_here", "_law_cycle_here", "_law_way"],#[.asg (.n 2) (.call jab #[.v 0,.int 6]),.ite (.cmp .Lt (.v 2) (.int 3)) #[.ret (.call jab #[.v 0,.bin .Add (.v 1) (.int 1)])] .nil,.ite (.cmp .Eq (.v 2) (.int 3)) #[.ret (.ix (.lst #[.int 0,.int 1,.v 1,.bin .Sub (.bin .Mult (.int 2) (.v 1)) (.int 1),.bin .Mult (.int 2) (.v 1)]) (.call jab #[.v 0,.int 5]))] .nil,.ret (.call jab #[.v 0,.ix (.lst #[.bin .Add (.bin .Mult (.int 3) (.v 1)) (.int 1),.int 10000]) (.bin .Sub (.v 2) (.int 4))])]⟩
noncomputable def jd0  : Fun:=⟨"_law_span",["_law_feed_here", "_law_one", "_law_other", "_law_cycle_here"],["_law_feed_here", "_law_one", "_law_other", "_law_cycle_here", "_law_low", "_law_more"],#[.asg (.n 4) (.call jby #[.v 0,.v 3]),.ite (.cmp .Eq (.call jab #[.v 0,.int 4]) (.int 0)) #[.ret (.tup #[.str "apart",.v 1,.v 2,.v 4,.call jby #[.v 0,.v 3]])] .nil,.asg (.n 5) (.ix (.lst #[.int 0,.int 0,.int 1,.int 2,.bin .FloorDiv (.v 3) (.int 2),.bin .Sub (.v 3) (.int 1),.bin .Mult (.int 3) (.v 3),.int 9999]) (.call jab #[.v 0,.int 8])),.ret (.tup #[.str "span",.v 1,.v 2,.v 4,.blt .min #[.int 9999,.bin .Add (.v 4) (.v 5)]])]⟩
noncomputable def jd2  : Fun:=⟨"_law_plan",["_law_feed_here", "_law_cycle_here"],["_law_feed_here", "_law_cycle_here", "_law_works", "_law_names_here", "_law_spans", "_law_k"],#[.asg (.n 2) (.ix (.lst #[.int 1,.int 2,.int 2,.int 3,.int 3,.int 4,.int 5,.int 8]) (.call jab #[.v 0,.int 8])),.asg (.n 3) (.call jdd #[.v 0,.v 2]),.asg (.n 4) (.lst .nil),(.fr (.n 5) (.r1 (.ix (.lst #[.int 0,.int 1,.int 2,.int 3,.int 4,.int 6,.int 9,.int 24]) (.call jab #[.v 0,.int 8]))) #[(.ite (.bop true (.cmp .NotEq (.v 4) (.lst .nil)) #[.cmp .Eq (.call jab #[.v 0,.int 9]) (.int 0)]) #[.expr (.meth .append (.v 4) #[.ix (.v 4) (.call jab #[.v 0,.blt .len #[.v 4]])])] #[(.expr (.meth .append (.v 4) #[(.call jcl #[.v 0,.call jab #[.v 0,.v 2],.call jab #[.v 0,.v 2],.v 1])]))])]),.ret (.tup #[.v 3,.mkT (.v 4)])]⟩
noncomputable def jdx  : Fun:=⟨"_law_beats",["_law_feed_here", "_law_works", "_law_cycle_here"],["_law_feed_here", "_law_works", "_law_cycle_here"],#[.ret (.mkT (.lc [none,some 0,some 2] (.n 0) (.r1 (.v 1)) .nil (.call jab #[.v 1,.v 2])))]⟩
noncomputable def jdu  : Fun:=⟨"_law_lines",["_law_plan_here"],["_law_plan_here", "_law_names_here", "_law_spans", "_law_lines_here", "_law_word", "_law_one", "_law_other", "_law_low", "_law_high", "_law_words"],#[.asg (.t #[.n 1,.n 2]) (.v 0),.asg (.n 3) (.lst #[.meth .join (.str " ") #[.bin .Add (.lst #[.str "works"]) (.mkL (.v 1))]]),(.fr (.t #[.n 4,.n 5,.n 6,.n 7,.n 8]) (.e (.v 2)) #[.asg (.n 9) (.lst #[.v 4,.ix (.v 1) (.v 5),.ix (.v 1) (.v 6)]),(.expr (.meth .append (.v 3) #[(.meth .join (.str " ") #[(.bin .Add (.v 9) (.lst #[.blt .str #[.v 7],.blt .str #[.v 8]]))])]))]),.ret (.v 3)]⟩
noncomputable def jb9  : Fun:=⟨"_law_figures",["_law_word"],["_law_word"],#[.ite (.bop false (.cmp .NotIn (.blt .len #[.v 0]) (.tup #[.int 1,.int 2,.int 3,.int 4])) #[.cmp .NotEq (.lc [none] (.n 0) (.s (.v 0)) #[.cmp .NotIn (.v 0) (.str "0123456789")] (.v 0)) (.lst .nil)]) #[.ret .non] .nil,.ret (.ife (.bop false (.cmp .Eq (.v 0) (.str "0")) #[.cmp .NotEq (.ix (.v 0) (.int 0)) (.str "0")]) (.blt .int #[.v 0]) .non)]⟩
noncomputable def jb8  : Fun:=⟨"_law_is_name",["_law_word"],["_law_word", "_law_letters"],#[.asgC 1 (.lc [none] (.n 0) (.s (.v 0)) #[.cmp .In (.v 0) (.str "abcdefghijklmnopqrstuvwxyz")] (.v 0)),.ret (.bop true (.cmp2 .LtE .LtE (.int 1) (.blt .len #[.v 0]) (.int 8)) #[.cmp .Eq (.blt .len #[.v 1]) (.blt .len #[.v 0])])]⟩
noncomputable def jbr  : Fun:=⟨"_law_span_words",["_law_names_here", "_law_words"],["_law_names_here", "_law_words", "_law_at", "_law_good", "_law_ends"],#[.ite (.cmp .NotIn (.ix (.v 1) (.int 0)) (.tup #[.str "span",.str "apart"])) #[.ret (.int 0)] .nil,(.fr (.n 2) (.r2 (.int 1) (.blt .len #[.v 1])) #[.asg (.n 3) (.cmp .Lt (.v 2) (.int 5)),.ite (.cmp .In (.v 2) (.tup #[.int 1,.int 2])) #[.asg (.n 3) (.cmp .In (.ix (.v 1) (.v 2)) (.v 0))] .nil,.ite (.cmp .In (.v 2) (.tup #[.int 3,.int 4])) #[.asg (.n 3) (.cmp .IsNot (.call jal #[.ix (.v 1) (.v 2)]) .non)] .nil,.ite (.bop true (.v 3) #[.cmp .Eq (.v 2) (.int 4),.cmp .Eq (.ix (.v 1) (.int 0)) (.str "span")]) #[.asg (.n 3) (.cmp .LtE (.call jal #[.ix (.v 1) (.int 3)]) (.call jal #[.ix (.v 1) (.int 4)]))] .nil,.ite (.not (.v 3)) #[.ret (.v 2)] .nil]),.ite (.cmp .Lt (.blt .len #[.v 1]) (.int 5)) #[.ret (.blt .len #[.v 1])] .nil,(.asg (.n 4) (.lst #[.meth .index (.v 0) #[.ix (.v 1) (.int 1)],.meth .index (.v 0) #[.ix (.v 1) (.int 2)]])),(.ret (.lst #[(.tup #[.ix (.v 1) (.int 0),.ix (.v 4) (.int 0),.ix (.v 4) (.int 1),.call jal #[.ix (.v 1) (.int 3)],.call jal #[.ix (.v 1) (.int 4)]])]))]⟩
noncomputable def jd1  : Fun:=⟨"_law_read",["_law_lines_here"],["_law_lines_here", "_law_words", "_law_names_here", "_law_at", "_law_spans", "_law_row", "_law_found"],#[.asg (.n 1) (.ife (.cmp .NotEq (.v 0) (.lst .nil)) (.meth .split (.ix (.v 0) (.int 0)) #[.str " "]) (.lst #[.str "",.str ""])),.ite (.cmp .NotEq (.ix (.v 1) (.int 0)) (.str "works")) #[.ret (.lst #[.int 0,.int 0])] .nil,.asg (.n 2) (.sl (.v 1) (.so (.int 1)) .no),(.fr (.n 3) (.r1 (.blt .len #[.v 2])) #[(.ite (.bop false (.cmp .Gt (.v 3) (.int 7)) #[.not (.call jb3 #[.ix (.v 2) (.v 3)]),.cmp .In (.ix (.v 2) (.v 3)) (.sl (.v 2) .no (.so (.v 3)))]) #[.ret (.lst #[.int 0,.bin .Add (.v 3) (.int 1)])] .nil)]),.ite (.cmp .Eq (.v 2) (.lst .nil)) #[.ret (.lst #[.int 0,.int 1])] .nil,.asg (.n 4) (.lst .nil),(.fr (.n 5) (.r2 (.int 1) (.blt .len #[.v 0])) #[.asg (.n 6) (.int 0),.ite (.cmp .Lt (.blt .len #[.v 4]) (.int 24)) #[.asg (.n 6) (.call jbp #[.v 2,.meth .split (.ix (.v 0) (.v 5)) #[.str " "]])] .nil,.ite (.not (.blt .isi #[.v 6,.ty "list"])) #[.ret (.lst #[.v 5,.v 6])] .nil,.asg (.n 4) (.bin .Add (.v 4) (.v 6))]),.ret (.tup #[.mkT (.v 2),.mkT (.v 4)])]⟩
noncomputable def jdZ  : Fun:=⟨"_law_told",["_law_lines_here"],["_law_lines_here", "_law_found", "e", "_law_others"],#[.asg (.n 1) .non,(.tr #[.asg (.n 1) (.call jdc #[.v 0])] 0 2 [.asg 1 (.one (.str "other")),.asg 3 (.cond false (false,.isi [1,3,5,2]) [(true,.isiV)]),.ifa true (false,.is1 4) [(true,.v 3)] 1 (.lst [(.att "row"),(.att "word")])]),.ret (.v 1)]⟩
noncomputable def jdw  : Fun:=⟨"_law_board",["_law_plan_here", "_law_cycle_here", "_law_beats_here"],["_law_plan_here", "_law_cycle_here", "_law_beats_here", "_law_lines_here", "_law_beat", "_law_words", "_law_work"],#[.asg (.n 3) (.lst .nil),(.fr (.n 4) (.r1 (.v 1)) #[.asg (.n 5) (.lst #[.blt .str #[.v 4]]),.fr (.n 6) (.r1 (.blt .len #[.v 2])) #[.ite (.cmp .Eq (.ix (.v 2) (.v 6)) (.v 4)) #[.expr (.meth .append (.v 5) #[.ix (.ix (.v 0) (.int 0)) (.v 6)])] .nil],.expr (.meth .append (.v 3) #[.ife (.cmp .Gt (.blt .len #[.v 5]) (.int 1)) (.meth .join (.str " ") #[.v 5]) (.bin .Add (.blt .str #[.v 4]) (.str " -"))])]),.ret (.v 3)]⟩
noncomputable def jbt  : Fun:=⟨"_law_board_told",["_law_plan_here", "_law_cycle_here", "_law_lines_here"],["_law_plan_here", "_law_cycle_here", "_law_lines_here", "_law_found", "e", "_law_others"],#[.asg (.n 3) .non,(.tr #[.asg (.n 3) (.call jcy #[.v 0,.v 1,.v 2])] 0 4 [.asg 3 (.one (.str "other")),.asg 5 (.cond false (false,.isi [1,3,5,2]) [(true,.isiV)]),.ifa true (false,.is1 4) [(true,.v 5)] 3 (.lst [(.att "row"),(.att "word")])]),.ret (.v 3)]⟩
noncomputable def jbN  : Fun:=⟨"_law_line_due",["_law_names_here", "_law_known", "_law_words"],["_law_names_here", "_law_known", "_law_words", "_law_last", "_law_at", "_law_work"],#[.ite (.cmp .Eq (.blt .len #[.v 2]) (.int 1)) #[.ret (.int 1)] .nil,.ite (.cmp .Eq (.ix (.v 2) (.int 1)) (.str "-")) #[.ret (.ife (.cmp .Gt (.blt .len #[.v 2]) (.int 2)) (.int 2) .non)] .nil,.asg (.n 3) (.neg (.int 1)),(.fr (.n 4) (.r2 (.int 1) (.blt .len #[.v 2])) #[.asg (.n 5) (.ife (.cmp .In (.ix (.v 2) (.v 4)) (.v 0)) (.meth .index (.v 0) #[.ix (.v 2) (.v 4)]) (.neg (.int 1))),.ite (.bop false (.cmp .LtE (.v 5) (.v 3)) #[.cmp .In (.v 5) (.v 1)]) #[.ret (.v 4)] .nil,.expr (.meth .append (.v 1) #[.v 5]),.asg (.n 3) (.v 5)]),.ret .non]⟩
noncomputable def jbD  : Fun:=⟨"_law_board_due",["_law_plan_here", "_law_cycle_here", "_law_lines_here"],["_law_plan_here", "_law_cycle_here", "_law_lines_here", "_law_beats_here", "_law_row", "_law_words", "_law_known", "_law_word", "_law_work"],#[.asg (.n 3) (.dic .nil),(.fr (.n 4) (.r1 (.blt .len #[.v 2])) #[.asg (.n 5) (.meth .split (.ix (.v 2) (.v 4)) #[.str " "]),.ite (.bop false (.cmp .GtE (.v 4) (.v 1)) #[.cmp .NotEq (.ix (.v 5) (.int 0)) (.blt .str #[.v 4])]) #[.ret (.lst #[.v 4,.int 0])] .nil,.asg (.n 6) (.mkD (.v 3)),.asg (.n 7) (.call jbM #[.ix (.v 0) (.int 0),.v 6,.v 5]),.ite (.cmp .IsNot (.v 7) .non) #[.ret (.lst #[.v 4,.v 7])] .nil,.fr (.n 8) (.e (.v 6)) #[.expr (.meth .setd (.v 3) #[.v 8,.v 4])]]),(.ite (.bop false (.cmp .Lt (.blt .len #[.v 2]) (.v 1)) #[.cmp .Lt (.blt .len #[.v 3]) (.blt .len #[.ix (.v 0) (.int 0)])]) #[(.ret (.lst #[.blt .len #[.v 2],.int 0]))] .nil),.ret (.mkT (.lc [none,some 3] (.n 0) (.r1 (.blt .len #[.ix (.v 0) (.int 0)])) .nil (.ix (.v 1) (.v 0))))]⟩
noncomputable def jds  : Fun:=⟨"_law_signs",[],["_law_some"],#[.asg (.n 0) (.str " !\"#$&'()*+,-./0123456789:;<=>?@ABCDEFGHIJKLMNOPQRSTUVWXYZ[\\]^_`"),.ret (.bin .Add (.bin .Add (.v 0) (.str "abcdefghijklmnopqrstuvwxyz{|}~")) (.bin .Mult (.str " ") (.int 6)))]⟩
noncomputable def ja2  : Ss:=#[.expr (.meth .append (.v 6) #[.bin .Add (.bin .Add (.sl (.v 1) .no (.so (.v 4))) (.rev (.sl (.v 1) (.so (.v 4)) (.so (.bin .Add (.v 4) (.int 2)))) (.neg (.int 1)))) (.sl (.v 1) (.so (.bin .Add (.v 4) (.int 2))) .no)]),.ret (.ix (.v 6) (.call jab #[.v 0,.int 4]))]
noncomputable def ja3  : Ss:=(.cons (.asg (.n 4) (.call jab #[.v 0,.bin .Add (.blt .len #[.v 1]) (.int 1)])) (.cons (.asg (.n 5) (.ix (.call jbQ .nil) (.call jab #[.v 0,.blt .len #[.call jbQ .nil]]))) (.cons (.asg (.n 6) (.lst #[.bin .Add (.bin .Add (.sl (.v 1) .no (.so (.v 4))) (.v 5)) (.sl (.v 1) (.so (.v 4)) .no),.bin .Add (.bin .Add (.sl (.v 1) .no (.so (.v 4))) (.v 5)) (.sl (.v 1) (.so (.bin .Add (.v 4) (.int 1))) .no),.bin .Add (.sl (.v 1) .no (.so (.v 4))) (.sl (.v 1) (.so (.bin .Add (.v 4) (.int 1))) .no)])) ja2)))
noncomputable def ja4  : Ss:=(.cons (.ite (.bop true (.cmp .NotEq (.v 3) (.lst .nil)) #[.cmp .Eq (.call jab #[.v 0,.int 3]) (.int 0)]) #[.asg (.n 4) (.ix (.v 3) (.call jab #[.v 0,.blt .len #[.v 3]])),.setS (.v 2) (.v 4) (.blt .str #[.bin .Add (.call jal #[.ix (.v 2) (.v 4)]) (.ix (.lst #[.int 1,.neg (.int 1)]) (.call jab #[.v 0,.int 2]))]),.ret (.meth .join (.str " ") #[.v 2])] .nil) ja3)
noncomputable def jcD  : Fun:=⟨"_law_spoilt",["_law_feed_here", "_law_text"],["_law_feed_here", "_law_text", "_law_words", "_law_numbers", "_law_at", "_law_sign", "_law_some"],(.cons (.asg (.n 2) (.meth .split (.v 1) #[.str " "])) (.cons (.asgC 3 (.lc [none,some 2] (.n 0) (.r1 (.blt .len #[.v 2])) #[.cmp .IsNot (.call jal #[.ix (.v 1) (.v 0)]) .non] (.v 0))) ja4))⟩
noncomputable def jbs  : Fun:=⟨"_law_one_spoilt",["_law_feed_here", "_law_lines_here"],["_law_feed_here", "_law_lines_here", "_law_at"],#[.asg (.n 2) (.call jab #[.v 0,.blt .len #[.v 1]]),.ret (.bin .Add (.bin .Add (.sl (.v 1) .no (.so (.v 2))) (.lst #[.call jcA #[.v 0,.ix (.v 1) (.v 2)]])) (.sl (.v 1) (.so (.bin .Add (.v 2) (.int 1))) .no))]⟩
noncomputable def jas  : Ss:=#[.asg (.n 6) (.mkL (.v 5)),.ite (.bop false (.cmp .NotEq (.blt .repr #[.call jdR #[.v 6]]) (.blt .repr #[.call jcm #[.v 5]])) #[.cmp .NotEq (.v 6) (.v 5)]) #[.ret (.bl false)] .nil,.expr (.meth .clear (.v 6) .nil)]
noncomputable def jax  : Ss:=#[.fr (.n 5) (.e (.tup #[.v 4,.v 4,.v 2])) jas]
noncomputable def jaV  : Ss:=#[.fr (.n 3) (.r1 (.int 14)) (.cons (.asg (.n 4) (.call jaw #[.v 0,.v 2])) (.cons (.ite (.cmp .Eq (.bin .Mod (.v 3) (.int 4)) (.int 3)) #[.asg (.n 4) (.call jaw #[.v 0,.v 4])] .nil) jax)),.ret (.bl true)]
noncomputable def jbe  : Fun:=⟨"_law_lines_right",["_law_feed_here"],["_law_feed_here", "_law_plan_here", "_law_lines_here", "_law_turn", "_law_bent", "_law_some", "_law_handed"],(.cons (.asg (.n 1) (.call jcn #[.v 0,.call jdf #[.v 0]])) (.cons (.asg (.n 2) (.call jde #[.v 1])) jaV))⟩
noncomputable def jap  : Ss:=#[.asg (.n 8) (.mkL (.v 7)),.asg (.n 9) (.call jbq #[.v 2,.v 1,.v 8]),.ite (.bop false (.cmp .NotEq (.blt .repr #[.v 9]) (.blt .repr #[.call jbz #[.v 2,.v 1,.v 7]])) #[.cmp .NotEq (.v 8) (.v 7)]) #[.ret (.bl false)] .nil]
noncomputable def jav  : Ss:=#[.fr (.n 7) (.e (.tup #[.v 6,.v 6,.v 4])) jap]
noncomputable def jaP  : Ss:=#[.fr (.n 5) (.r1 (.int 10)) (.cons (.asg (.n 6) (.call jaw #[.v 0,.v 4])) (.cons (.ite (.cmp .Eq (.bin .Mod (.v 5) (.int 4)) (.int 3)) #[.asg (.n 6) (.call jaw #[.v 0,.v 6])] .nil) jav)),.ret (.bl true)]
noncomputable def ja0  : Fun:=⟨"_law_boards_right",["_law_feed_here"],["_law_feed_here", "_law_cycle_here", "_law_plan_here", "_law_beats_here", "_law_lines_here", "_law_turn", "_law_bent", "_law_some", "_law_handed", "_law_told_here"],(.cons (.asg (.n 1) (.ix (.lst #[.int 2,.int 5,.int 12,.int 30,.int 60]) (.call jab #[.v 0,.int 5]))) (.cons (.asg (.n 2) (.call jcn #[.v 0,.v 1])) (.cons (.asg (.n 3) (.call jdh #[.v 0,.blt .len #[.ix (.v 2) (.int 0)],.v 1])) (.cons (.asg (.n 4) (.call jdg #[.v 2,.v 1,.v 3])) jaP))))⟩
noncomputable def joG  : Fun:=⟨"law",["_law_script"],["_law_script", "_law_feed_here"],#[.asg (.n 1) (.call jdS #[.v 0]),.ret (.bop true (.call jbd #[.v 1]) #[.call jaZ #[.v 1]])]⟩
noncomputable def T  : Tab:=⟨[jfl,jdY,jbS,jaS,jbl,jbB,jfk,jdr,jbC,jcC,jd3,jd4,jdt,jdv,jcE,jd0,jd2,jdx,jdu,jb9,jb8,jbr,jd1,jdZ,jdw,jbt,jbN,jbD,jds,jcD,jbs,jbe,ja0,joG],[(.int 8),(.int 4),(.str "0123456789"),(.int 8),(.int 24),(.str "-")],["MOST_SIGNS", "MOST_FIGURES", "FIGURES", "MOST_NAMES", "MOST_SPANS", "NO_NAME"],[1,2,3,4,5],[ja8,ja9,jbh,jbj,jbi,jbk],[(4,jbV),(5,jcs),(8,jct)]⟩
def top  (i:Nat):Stmt:=PySem.Challenge.pw_beatplans_k85_lines_and_boards_spoilt_an.main.body.getD i (.Pass ⟨0,0,0,0⟩)
noncomputable abbrev s_is_name  : Stmt:=top 11
noncomputable abbrev s_words_of  : Stmt:=top 15
noncomputable abbrev s_number_in  : Stmt:=top 16
noncomputable abbrev s_first_fault  : Stmt:=top 17
noncomputable abbrev s_works_fault  : Stmt:=top 18
noncomputable abbrev s_span_fault  : Stmt:=top 19
noncomputable abbrev s_span_in  : Stmt:=top 20
noncomputable abbrev s_read_plan  : Stmt:=top 21
noncomputable abbrev s_line_fault  : Stmt:=top 24
noncomputable abbrev s_read_board  : Stmt:=top 25
noncomputable abbrev s_law_feed  : Stmt:=top 27
noncomputable abbrev s_law_draw  : Stmt:=top 28
noncomputable abbrev s_law_names  : Stmt:=top 29
noncomputable abbrev s_law_cycle  : Stmt:=top 30
noncomputable abbrev s_law_number  : Stmt:=top 31
noncomputable abbrev s_law_span  : Stmt:=top 32
noncomputable abbrev s_law_plan  : Stmt:=top 33
noncomputable abbrev s_law_beats  : Stmt:=top 34
noncomputable abbrev s_law_lines  : Stmt:=top 35
noncomputable abbrev s_law_figures  : Stmt:=top 36
noncomputable abbrev s_law_is_name  : Stmt:=top 37
noncomputable abbrev s_law_span_words  : Stmt:=top 38
noncomputable abbrev s_law_read  : Stmt:=top 39
noncomputable abbrev s_law_told  : Stmt:=top 40
noncomputable abbrev s_law_board  : Stmt:=top 41
noncomputable abbrev s_law_board_told  : Stmt:=top 42
noncomputable abbrev s_law_line_due  : Stmt:=top 43
noncomputable abbrev s_law_board_due  : Stmt:=top 44
noncomputable abbrev s_law_signs  : Stmt:=top 45
noncomputable abbrev s_law_spoilt  : Stmt:=top 46
noncomputable abbrev s_law_one_spoilt  : Stmt:=top 47
noncomputable abbrev s_law_lines_right  : Stmt:=top 48
noncomputable abbrev s_law_boards_right  : Stmt:=top 49
noncomputable abbrev s_law  : Stmt:=top 50
end
local macro_rules
 |`(tactic| simp! only[$xs,*])=>do
  let ys <- ("D_v T_v D_non D_bl D_int D_str D_g T_g D_ty T_ty D_bin T_bin D_neg D_cmp T_cmp D_cmp2 T_cmp2 D_tup D_lst D_dic D_ix T_ix D_sl D_rev D_call T_call D_blt T_blt D_meth D_lc D_mkD T_mkD D_mkL D_mkT D_not T_not D_ife T_ife D_bop0 D_and D_or T_and T_or O_no O_so A_nil A_cons C_nil C_cons P_nil P_cons I_e I_r1 I_r2 I_enum I_s F_nil F_cons S_unp S_expr S_asg S_asgC S_setS S_ite S_fr S_ret S_raise S_tr B_nil B_cons V_add V_cat V_catL V_sub V_mul V_mulL V_mulT V_fdiv V_mod V_pow V_neg W_eqI W_neI W_eqS W_neS W_lt W_le W_gt W_ge W_neT W_eqT W_eqT0 W_neL W_eqL W_in W_nin W_is W_isn Y_bl Y_non Y_int Y_tup J_tup X_tup F_len F_repr F_min F_all F_int F_str F_isi X_str V_addB V_subB V_subI F_lenT F_min2 F_max2 F_intB F_intI G_n G_t G_nil G_cons sl_0 sl_s dr_0 dr_s pk_nil pk_none pk_some K_str K_int fx_cells fx_at fx_left fx_turn fs_at fs_left".splitOn " ").toArray.mapM λs=>`(Ygb| $(Lean.mkIdent s.toName):ident)
  `(tactic| try simp only[Yas,YcY,Ygs,Yb5,Ybd,YcP,YdX,YdY,YfY,List.zip_nil_right,List.zip_nil_left,YeA,List.foldl_nil,List.getElem?_cons_zero,List.getElem?_cons_succ,Option.join_some,ite_true,ite_false,Ybk,Ygu,$ys:simpLemma,*,$xs,*])
def jfp  (x y:Str):(x++y).cps.toList=x.cps.toList++y.cps.toList:=by
 show(x.cps++y.cps).toList=_;simp
def jfH  {x y:Str}(h:x.cps.toList=y.cps.toList):x=y:=Str.ext' (Array.toList_inj.mp h)
def jcT    : YaU y (a::b::r)=a++y++YaU y (b::r):=rfl
def jlf  : (" " : Str)=⟨#[32]⟩:=by decide +kernel
def jjr   x c:Ya1 x ⟨#[c]⟩≠[]:=by
 intro h;have e:=StrLaws.join_split x ⟨#[c]⟩;unfold Ya1 at h;split at h
 ·cases h
 ·split at h
  ·cases h
  ·rw[StrLaws.partsBetween_eq]at h;obtain⟨p,q,e⟩:=StrLaws.partsFrom_ne x (⟨#[c]⟩:Str).length 0 (Yaw x ⟨#[c]⟩ 0 x.length (x.length+1));rw[h]at e;cases e

def jaj    (hf:Fd G f c)(h0:0<m)(h1:m<1073741824)(q:∀r G' ,0<=r->r<m->Fd G' f c->Sm f G G'->Q (.int r) G'):jac T (k+1) jab [.loc f,.int m] G Q X:=by
 obtain⟨ns,a,l,t,g1,g2,hn⟩:=hf.ex;have fin:∀(z a' l' t':Int),Q (.int (z%m)) (gup G f (.dK (fdU c a' l' t'))):=λz a' l' t'=>q _ _ (YeI z (by lia)) (Yd2 z h0) (Fd.put ⟨rfl⟩ g1 g2 hn) Sm.put
 have hlen:0<ns.length:=List.length_pos_iff.mpr hn;have gc:∀kvs,gup G f (.dK kvs) c=some (.lst (ns.map .int)):=λkvs=>by rw[jbA (λz=>by rw[z,g1]at g2;cases g2)];exact g2
 obtain⟨z,hz,ez⟩:=jfx (l:=ns) (r:=a%ns.length) (YeI _ (by lia)) (Yd2 _ (by lia))
 refine⟨rfl,?_⟩;simp! only[jd4,jae,Yaa,ix_d g1 jkI,jjv g1,jfM,jnA,jiK,true_and,jaR (gc _),Yae,ix_l (gc _) ((jge U.int ns _).trans (congrArg _ ez))];have cut:∀(l' a' t':Int),(0<m/\0<m/\m<1073741824/\Q (.int (l'%m)) (gup G f (.dK (fdU c a' (l'/m) t')))):=λl' a' t'=>⟨h0,h0,by lia,fin _ _ _ _⟩
 by_cases hl:l=0
 ·rw[if_pos (by simpa using hl)]
  refine⟨by lia,by constructor<;>decide,?_⟩
  by_cases hc:z<10 ^ Int.toNat 18
  ·rw[if_pos (by simpa using hc)]
   exact⟨by decide,.inl (by decide),.inr (by decide),by decide,by decide,by decide,.inl (by decide),.inr (by decide),by decide,by decide,by decide,h0,fin _ _ _ _⟩
  ·rw[if_neg (by simpa using hc)]
   exact cut _ _ _
 ·rw[if_neg (by simpa using hl)]
  exact cut _ _ _
def jlR   {ns:List Int}(ha:G a=some (.fro (ns.map .int)))(hl:ns.length<=63)(q:∀f c G' ,Fd G' f c->Q (.loc f) G'):jac T (k+1) jdS [.loc a] G Q X:=by
 have hcl:(cut ns none (some 63)).length<=63:=by rw[show(63:Int)=((63:Nat):Int)from rfl,jfm];simp;lia
 refine⟨rfl,?_⟩;simp! only[jd3,jae,Yaa,sl_f ha,jbT];intro p1 G1 n1;rw[it_l n1.at];intro p2 G2 n2;refine⟨by decide,λp3 G3 n3=>?_⟩
 simp! only[jpX (n3.sa _ _ (n2.sa _ _ (n1.sa _ _ ha)))];obtain⟨zs,ez,lz,hz⟩:∃zs:List Int,(Yaa (Int.toNat (if decide (((ns.map U.int).length:Int)=0)=true then 1 else 0)) [U.int 0]).flatten=zs.map U.int/\zs.length<=1/\(ns=[]->zs≠[]):=by
  by_cases h:ns=[]
  ·subst h;exact⟨[0],rfl,by decide,λ_=>by simp⟩
  ·refine⟨[],?_,by decide,λz=>absurd z h⟩
   rw[if_neg (by simpa using h)]
   rfl
 refine⟨_,n3.at,by split<;>decide,by split<;>decide,by split<;>decide,λp4 G4 n4=>?_⟩
 rw[ez]at n4;refine⟨_,_,n4.sa _ _ (n3.sa _ _ n2.at),n4.at,?_,λp5 G5 n5=>⟨by decide,λp6 G6 n6=>?_⟩⟩
 ·rw[Yae,Yae];exact Yai (Nat.add_le_add hcl lz) (by decide:63+1<=Yaf)
 rw[jn3]at n6;rw[<- Yav]at n5;refine q _ p5 _ ⟨_,0,0,0,n6.at,n6.sa _ _ n5.at,λz=>?_⟩;obtain⟨z1,z2⟩:=List.append_eq_nil_iff.mp z;refine hz ?_ z2;rw[show(63:Int)=((63:Nat):Int)from rfl,jfm]at z1;cases ns with
 |nil=>rfl
 |cons _ _=>cases z1

structure Nm (x:Str):Prop where
 l8:x.length<=8
 ch:∀c∈x.cps.toList,c<128
 lw:∀c∈x.cps.toList,97<=c
 up:∀c∈x.cps.toList,c<=122
 ne:0<x.length
noncomputable def menu  : List Str:=["a", "ab", "abc", "works", "span", "apart", "none", "round", "held", "zzzzzzzz", "undo", "b", "ba", "plan", "x"]
def jl1  : ∀x∈menu,Nm x:=by
 have h:∀x∈menu,x.length<=8/\(∀c∈x.cps.toList,c<128)/\(∀c∈x.cps.toList,97<=c)/\(∀c∈x.cps.toList,c<=122)/\0<x.length:=by decide +kernel
 exact λx hx=>⟨(h x hx).1,(h x hx).2.1,(h x hx).2.2.1,(h x hx).2.2.2.1,(h x hx).2.2.2.2⟩
noncomputable def nm3  (first step:Int)(k:Nat):Str:=menu.getD ((first+step*(k:Int))%15).toNat "a"
def jid  {first step:Int}(h0:0<=first)(h1:first<15)(hs:step∈([1,2,4,7,8,11,13,14]:List Int))(hn:n<=8):((YaH n).map (nm3 first step)).Nodup:=by
 have key:∀f∈YaH 15,∀st∈([1,2,4,7,8,11,13,14]:List Int),((YaH 8).map (nm3 (f:Int) st)).Nodup:=by decide +kernel
 have h2:=key first.toNat (List.mem_range.mpr (by lia)) step hs
 rw[YcT h0]at h2;have e:(YaH n).map (nm3 first step)=((YaH 8).map (nm3 first step)).take n:=by
  rw[<- List.map_take,List.take_range,Nat.min_eq_left hn]
 rw[e];exact h2.sublist (YcB _ _)
theorem je5  {α:Type}:∀{l:List α} {i } {x },l.Nodup->x∉l->(l.set i x).Nodup
 |[],_,_,_,_=>by simp
 |a::r,0,x,h,hx=>by
  rw[YdX];exact List.nodup_cons.mpr ⟨λm=>hx (Yah _ m),(List.nodup_cons.mp h).2⟩
 |a::r,i+1,x,h,hx=>by
  rw[YdY];have h2:=List.nodup_cons.mp h;refine List.nodup_cons.mpr ⟨λm=>?_,je5 h2.2 λm=>hx (Yah _ m)⟩;rcases Ycj m with z|z
  ·exact h2.1 z
  ·exact hx (by rw[z];simp)
def jgh   {l:List Str}:((l.map U.str).any λy=>eqF y (.str x))=decide (x∈l):=by
 induction l with
 |nil=>simp
 |cons y r ih=>
  rw[Yas,Ybn,ih];show((y==x)||_)=_;by_cases h:x=y
  ·subst h;simp
  ·have:¬y=x:=λz=>h z.symm;simp[h,this]
structure Nms (xs:List Str):Prop where
 ok:∀x∈xs,Nm x
 nd:xs.Nodup
 one:∃w,∀x∈xs,x∈menu\/x=w

def jjP    (hf:Fd G f c)(h0:0<m)(h1:m<=8)(q:∀(xs:List Str) G' ,xs.length=m->Nms xs->Fd G' f c->Sm f G G'->Q (.tup (xs.map .str)) G'):jac T (k+2) jdd [.loc f,.int m] G Q X:=by
 refine⟨rfl,?_⟩;simp! only[jdt,jae,Yaa];refine⟨by decide,λp G1 n1=>?_⟩
 simp! only[jb4 n1.at,jeL n1.at];refine⟨by decide,λG2 p2=>?_⟩
 have hp:=hf.away n1;have f2:=(hf.new n1).off hp p2;have s2:Sm f G G2:=Sm.wr Sm.refl n1.no n1.sa.sm p2;have g2:G2 p=some (.lst (menu.map .str)):=p2.at
 refine jaj f2 (by decide) (by decide) λfirst G3 a3 b3 f3 s3=>?_
 have g3:=s3 _ _ hp.1 g2;refine⟨by decide,λp4 G4 n4=>jaj (f3.new n4) (by decide) (by decide) λr5 G5 a5 b5 f5 s5=>?_⟩
 have g5:=s5 _ _ hp.1 (n4.sa _ _ g3);refine jaL [1,2,4,7,8,11,13,14] (s5 _ _ (f3.away n4).1 n4.at) a5 b5 λstep hs=>?_;have s5':=(s2.trans s3).nw n4 |>.trans s5;refine⟨by lia,by lia,by rw[jaF];exact Yai h1 (by decide),?_⟩
 have fin:∀(xs:List Str) (p6:Addr) (G6:Gp),xs.length=m->Nms xs->Fd G6 f c->Sm f G G6->G6 p6=some (.lst (xs.map .str))->itU (.loc p6) G6 λxs _=>Q (.tup xs) G6:=λxs p6 G6 e1 e2 e3 e4 e5=>by
  rw[it_l e5];exact q xs G6 e1 e2 e3 e4
 refine ja1 (λi acc G'=>G'=G5/\∃xs:List Str,acc=xs.map .str/\xs.length=i/\(∀x∈xs,x∈menu)/\xs=(YaH i).map (nm3 first step)) ?_ ?_ ⟨rfl,[],rfl,rfl,(λ_ h=>(nomatch h)),rfl⟩
 ·rintro acc G' ⟨rfl,xs,rfl,hl,hm,hxe⟩;rw[jaF]at hl hxe;have hnd:xs.Nodup:=by rw[hxe];exact jid a3 b3 hs (by lia)
  have hx:∀x∈xs,Nm x:=λx hx=>jl1 x (hm x hx);have hN:Nms xs:=⟨hx,hnd, "a",λx hx=>.inl (hm x hx)⟩;refine⟨trivial,λp6 G6 n6=>?_⟩;have f6:=f5.new n6;have h6:=f5.away n6;have s6:=s5'.nw n6;refine jaj f6 (by decide) (by decide) λr7 G7 a7 b7 f7 s7=>?_
  have g7:=s7 _ _ h6.1 n6.at
  simp! only[];by_cases hr:r7=0
  ·rw[if_pos (by simpa using hr)]
   refine jaj f7 (by decide) (by decide) λr8 G8 a8 b8 f8 s8=>?_
   have g8:=s8 _ _ h6.1 g7;simp! only[];refine⟨by lia,by lia,by rw[jaF];exact Yai (by lia:(1+r8).toNat<=8) (by decide),?_⟩
   refine ja1 (λi acc G'=>Fd G' f c/\Sm f G8 G'/\∃zs:List Str,acc=zs.map .str/\zs.length=i/\∀x∈zs,x.length=1/\∀c∈x.cps.toList,c<128/\97<=c/\c<=122) ?_ ?_ ⟨f8,Sm.refl,[],rfl,rfl,λ_ h=>nomatch h⟩
   ·rintro acc G9 ⟨f9,s9,zs,rfl,lz,hz⟩;rw[jaF]at lz;refine⟨trivial,λpa Ga na=>?_⟩;have fa:=f9.new na;have ga:=na.sa _ _ (s9 _ _ h6.1 g8);have sa:=(s6.trans (s7.trans (s8.trans s9))).nw na;have hnew:Nm (YaU "" zs):=by
     refine⟨?_,λc hc=>?_,λc hc=>?_,λc hc=>?_,?_⟩
     ·rw[ja7 zs λt ht=>(hz t ht).1];lia
     ·obtain⟨t,ht,hd⟩:=(ja6 zs c).mp hc;exact((hz t ht).2 c hd).1
     ·obtain⟨t,ht,hd⟩:=(ja6 zs c).mp hc;exact((hz t ht).2 c hd).2.1
     ·obtain⟨t,ht,hd⟩:=(ja6 zs c).mp hc;exact((hz t ht).2 c hd).2.2
     ·rw[ja7 zs λt ht=>(hz t ht).1];lia
    have hsum:(zs.map (·.length)).sum+zs.length<=1048576:=by
     have:∀l:List Str,(∀x∈l,x.length=1)->(l.map (·.length)).sum=l.length:=λl=>by
      induction l with
      |nil=>intro _;rfl
      |cons x r ih=>
       intro h;rw[Yas,Ye6,Ybd,ih λy hy=>h y (Yah _ hy),h x (by simp)]
       lia
     rw[this zs λt ht=>(hz t ht).1];lia
    simp! only[mt_join,jfd na.at];refine⟨by decide,hsum,in_l ga rfl (jdq _) ?_⟩
    rw[jgh];split
    ·rename_i hni;have hni':YaU "" zs∉xs:=by simpa using hni
     refine⟨by decide,hsum,jaj fa (by lia) (by lia) λr G' a' b' f' s'=>?_⟩
     have g':=s' _ _ h6.1 ga;rw[jm2 g' (show ixN _ r=some r.toNat from by
      rw[Yae];obtain⟨j,rfl⟩:=Ya0 a';exact jiv (by lia))]
     intro Gb pb;have e:(xs.map U.str).set r.toNat (.str (YaU "" zs))=(xs.set r.toNat (YaU "" zs)).map .str:=by rw[List.map_set]
     rw[e]at pb;refine fin _ p6 Gb (by rw[List.length_set];exact hl) ⟨λx hx'=>?_,je5 hnd hni',YaU "" zs,λx hx'=>?_⟩ (f'.off h6 pb) (Sm.wr s5' n6.no (sa.trans s') pb) pb.at
     ·rcases Ycj hx' with z|z
      ·exact hx x z
      ·rw[z];exact hnew
     ·rcases Ycj hx' with z|z
      ·exact .inl (hm x z)
      ·exact .inr z
    ·exact fin xs p6 Ga hl hN fa sa ga
   ·rintro i x acc G9 K hx9 ⟨f9,s9,zs,rfl,lz,hz⟩ hk _;refine⟨trivial,jaj f9 (by decide) (by decide) λr G' a' b' f' s'=>?_⟩
    have hb:∀c∈("abcdefghijklmnopqrstuvwxyz" : Str).cps.toList,c<128/\97<=c/\c<=122:=by decide +kernel
    have e26:("abcdefghijklmnopqrstuvwxyz" : Str).cps.toList.length=26:=by decide +kernel
    obtain⟨d,hd,ed⟩:=jfx (l:=("abcdefghijklmnopqrstuvwxyz" : Str).cps.toList) a' (by rw[e26];exact b')
    refine ix_s (by decide +kernel) ed (hk _ _ ⟨f',s9.trans s',zs++[⟨#[d]⟩],by simp,by simp[lz],λz hz'=>?_⟩)
    rcases List.mem_append.mp hz' with z'|z'
    ·exact hz z z'
    ·rw[List.mem_singleton.mp z'];exact⟨rfl,λe he=>by
      have:e=d:=by simpa using he
      rw[this];exact hb d hd⟩
  ·rw[if_neg (by simpa using hr)]
   exact fin xs p6 G7 hl hN f7 (s6.trans s7) g7
 ·rintro i x acc G' K hx ⟨rfl,xs,rfl,hl,hn,hxe⟩ hk _;obtain⟨hi,rfl⟩:=jaK hx;simp! only[];have e0:0<=(first+step*(i:Int))%15:=YeI _ (by decide)
  have e1:(first+step*(i:Int))%15<15:=Yd2 _ (by decide)
  have hlt:((first+step*(i:Int))%15).toNat<menu.length:=by show _<15;lia
  have ey:menu[((first+step*(i:Int))%15).toNat]?=some (nm3 first step i):=by unfold nm3;simp[List.getD,hlt]
  have ea:atI menu ((first+step*(i:Int))%15)=some (nm3 first step i):=by
   have:=jbb ey
   rwa [YcT e0]at this
  have hy:=Ya2 ey;refine⟨trivial,.inr (by constructor<;>lia),by decide,?_⟩
  rw[ix_l g5 ((jge U.str menu _).trans (congrArg _ ea))];exact hk _ _ ⟨rfl,xs++[nm3 first step i],by simp,by simp[hl],λz hz=>by
   rcases List.mem_append.mp hz with z'|z'
   ·exact hn z z'
   ·rw[List.mem_singleton.mp z'];exact hy,by rw[hxe,YbL,Yav];rfl⟩
def jjR   (hf:Fd G f c)(q:∀P G' ,1<=P->P<=600->Fd G' f c->Sm f G G'->Q (.int P) G'):jac T (k+2) jdf [.loc f] G Q X:=by
 refine⟨rfl,?_⟩;simp! only[jdv,jae,Yaa];refine⟨by decide,λp G1 n1=>jaj (hf.new n1) (by decide) (by decide) λr G2 a2 b2 f2 s2=>?_⟩
 refine jaL [1,2,3,4,5,6,7,8,10,12,30,60,120,600] (s2 _ _ (hf.away n1).1 n1.at) a2 b2 λz hz=>?_;have:1<=z/\z<=600:=by simp only[YaG,Yar,or_false]at hz;first|omega
 exact q z _ this.1 this.2 f2 (n1.sa.sm.trans s2)
def je0    (hf:Fd G f c)(h1:1<=P)(h2:P<=600)(q:∀z G' ,0<=z->z<=9999->Fd G' f c->Sm f G G'->Q (.int z) G'):jac T (k+2) jby [.loc f,.int P] G Q X:=by
 refine⟨rfl,?_⟩;simp! only[jcE,jae,Yaa];refine jaj hf (by decide) (by decide) λw G1 a1 b1 f1 s1=>?_
 simp! only[];by_cases hw:w<3
 ·rw[if_pos (by simpa using hw)]
  exact jaj f1 (by lia) (by lia) λr G2 a2 b2 f2 s2=>q r _ a2 (by lia) f2 (s1.trans s2)
 rw[if_neg (by simpa using hw)]
 by_cases hw':w=3
 ·rw[if_pos (by simpa using hw')]
  refine⟨.inl (by decide),.inl (by decide),by decide,λp G2 n2=>jaj (f1.new n2) (by decide) (by decide) λr G3 a3 b3 f3 s3=>?_⟩
  refine jaL [0,1,P,2*P-1,2*P] (s3 _ _ (f1.away n2).1 n2.at) a3 b3 λz hz=>?_;have:0<=z/\z<=9999:=by simp only[YaG,Yar,or_false]at hz;lia
  exact q z _ this.1 this.2 f3 ((s1.nw n2).trans s3)
 ·rw[if_neg (by simpa using hw')]
  refine⟨.inl (by decide),by decide,λp G2 n2=>?_⟩
  refine jaL [3*P+1,10000] n2.at (by lia) (by show w-4<2;lia) λz hz=>?_
  have:0<z/\z<=10000:=by simp only[YaG,Yar,or_false]at hz;lia
  exact jaj (f1.new n2) this.1 (by lia) λr G3 a3 b3 f3 s3=>q r _ a3 (by lia) f3 ((s1.nw n2).trans s3)

structure Spn where
 w:Str
 o:Nat
 t:Nat
 lo:Int
 hi:Int
noncomputable def Spn.u  (s:Spn):U:=.tup [.str s.w,.int s.o,.int s.t,.int s.lo,.int s.hi]
structure Spn.Ok (W:Nat)(s:Spn):Prop where
 w:s.w = "apart" \/ s.w = "span"
 o:s.o<W
 t:s.t<W
 lo:0<=s.lo/\s.lo<=9999
 hi:0<=s.hi/\s.hi<=9999
 le:s.w = "span" -> s.lo<=s.hi
noncomputable def jlU  (l:List Int):U:=.tup (l.map .int)
def jfB  {x:Str}(h:x = "apart" \/ x = "span"):x.length<=8/\∀c∈x.cps.toList,c<128:=by
 rcases h with rfl|rfl
 ·exact⟨by decide +kernel,by decide +kernel⟩
 ·exact⟨by decide +kernel,by decide +kernel⟩
def Spn.Ok.sml   {s:Spn}(h:s.Ok W):Sml 1 s.u:=Sml.tup λu hu=>by
 simp only[YaG,Yar,or_false]at hu;rcases hu with rfl|rfl|rfl|rfl|rfl
 ·exact Sml.str (jfB h.w).2
 all_goals exact Sml.int _
def jgP   (h:-100000<=i/\i<=100000):Ft 1921 0 (.int i):=Ft.int (YaV (show i.natAbs<=100000 by lia) (by decide))

def jlQ     (hf:Fd G f c)(h1:1<=P)(h2:P<=600)(ho:o<W)(ht:t<W)(q:∀(s:Spn) G' ,s.Ok W->Fd G' f c->Sm f G G'->Q s.u G'):jac T (k+3) jcl [.loc f,.int o,.int t,.int P] G Q X:=by
 refine⟨rfl,?_⟩;simp! only[jd0,jae,Yaa];refine je0 hf h1 h2 λlo G1 a1 b1 f1 s1=>?_;refine jaj f1 (by decide) (by decide) λr G2 a2 b2 f2 s2=>?_
 simp! only[];by_cases hr:r=0
 ·rw[if_pos (by simpa using hr)]
  refine je0 f2 h1 h2 λhi G3 a3 b3 f3 s3=>⟨by decide,?_⟩
  exact q ⟨"apart",o,t,lo,hi⟩ _ ⟨.inl rfl,ho,ht,⟨a1,b1⟩,⟨a3,b3⟩,λz=>absurd (show("apart" : Str) = "span" from z) (by decide +kernel)⟩ f3 (s1.trans (s2.trans s3))
 ·rw[if_neg (by simpa using hr)]
  refine⟨by decide,by decide,.inl (by decide),by decide,λp G3 n3=>jaj (f2.new n3) (by decide) (by decide) λr4 G4 a4 b4 f4 s4=>?_⟩
  refine jaL [0,0,1,2,P/2,P-1,3*P,9999] (s4 _ _ (f2.away n3).1 n3.at) a4 b4 λz hz=>?_;have hz':0<=z:=by simp only[YaG,Yar,or_false]at hz;lia
  simp! only[];refine⟨by decide,q ⟨"span",o,t,lo,if lo+z<9999 then lo+z else 9999⟩ _ ⟨.inr rfl,ho,ht,⟨a1,b1⟩,by dsimp only;split<;>lia,λ_=>by dsimp only;split<;>lia⟩ f4 ((s1.trans s2).nw n3 |>.trans s4)⟩
def jh7    (hf:Fd G f c)(h1:1<=P)(h2:P<=600)(q:∀(xs:List Str) (ss:List Spn) G' ,0<xs.length->xs.length<=8->Nms xs->ss.length<=24->(∀s∈ss,s.Ok xs.length)->Fd G' f c->Sm f G G'->Q (.tup [.tup (xs.map .str),.tup (ss.map Spn.u)]) G') :
  jac T (k+4) jcn [.loc f,.int P] G Q X:=by
 refine⟨rfl,?_⟩;simp! only[jd2,jae,Yaa];refine⟨by decide,λp G1 n1=>jaj (hf.new n1) (by decide) (by decide) λr G2 a2 b2 f2 s2=>?_⟩
 refine jaL [1,2,2,3,3,4,5,8] (s2 _ _ (hf.away n1).1 n1.at) a2 b2 λW' hW=>?_;have hW':1<=W'/\W'<=8:=by simp only[YaG,Yar,or_false]at hW;lia
 obtain⟨W,rfl⟩:=Ya0 (show 0<=W' by lia)
 refine jjP f2 (by lia) (by lia) λxs G3 l3 x3 f3 s3=>?_
 have S3:Sm f G G3:=n1.sa.sm.trans (s2.trans s3);refine⟨by decide,λp4 G4 n4=>⟨by decide,λp5 G5 n5=>jaj ((f3.new n4).new n5) (by decide) (by decide) λr6 G6 a6 b6 f6 s6=>?_⟩⟩
 have aw:=f3.away n4;have S6:Sm f G G6:=((S3.nw n4).nw n5).trans s6;refine jaL [0,1,2,3,4,6,9,24] (s6 _ _ ((f3.new n4).away n5).1 n5.at) a6 b6 λm hm=>?_;have hm':0<=m/\m<=24:=by simp only[YaG,Yar,or_false]at hm;lia
 have g6:G6 p4=some (.lst []):=s6 _ _ aw.1 (n5.sa _ _ n4.at);simp! only[];refine⟨by lia,by lia,?_⟩
 refine jaq (λi ς G'=>∃(ss:List Spn) (o:Option U),ς=[some (.loc f),some (.int P),some (.int (W:Int)),some (.tup (xs.map .str)),some (.loc p4),o]/\Fd G' f c/\Sm f G G'/\G' p4=some (.lst (ss.map Spn.u))/\ss.length=i/\∀s∈ss,s.Ok W) ?_ ?_ ⟨[],_,rfl,f6,S6,g6,rfl,λ_ h=>nomatch h⟩
 ·rintro ς G7 ⟨ss,o,rfl,f7,s7,g7,l7,o7⟩;rw[jaF]at l7;simp! only[];refine⟨trivial,?_⟩;rw[it_l g7];exact⟨by decide,q xs ss _ (by lia) (by lia) x3 (by lia) (by rw[l3];exact o7) f7 s7⟩
 ·rintro i x ς G7 K hx ⟨ss,o,rfl,f7,s7,g7,l7,o7⟩ hk;obtain⟨hi,rfl⟩:=jaK hx;simp! only[];have add:∀(s:Spn) (G8:Gp),s.Ok W->Fd G8 f c->Sm f G G8->G8 p4=some (.lst (ss.map Spn.u))->∀o,((ss.map Spn.u).length<Yaf/\putO G8 p4 (.lst (ss.map Spn.u++[s.u])) λG'=>K [some (.loc f),some (.int P),some (.int (W:Int)),some (.tup (xs.map .str)),some (.loc p4),o] G'):=λs G8 e1 e2 e3 e4 o=>by
   refine⟨?_,λG9 p9=>?_⟩
   ·rw[Yae];exact Yap (show ss.length<25 by lia) (by decide)
   ·refine hk _ _ ⟨ss++[s],_,rfl,e2.off aw p9,Sm.wr S3 n4.no e3 p9,by rw[Yav];exact p9.at,by simp[l7],λz hz=>?_⟩
    rcases List.mem_append.mp hz with z'|z'
    ·exact o7 z z'
    ·rw[List.mem_singleton.mp z'];exact e1
  have fresh:∀(o:Option U) (G8:Gp),Fd G8 f c->Sm f G G8->G8 p4=some (.lst (ss.map Spn.u))->(match mtU .append (.loc p4) G8 with
    |some _=>jac T (k+3) jab [.loc f,.int (W:Int)] G8 (λx G1=>jac T (k+3) jab [.loc f,.int (W:Int)] G1 (λx_1 G1=>jac T (k+3) jcl [.loc f,x,x_1,.int P] G1 (λx_2 G1=>jau .append (.loc p4) [x_2] G1 λ_ G1=>K [some (.loc f),some (.int P),some (.int (W:Int)),some (.tup (xs.map .str)),some (.loc p4),o] G1) X) X) X
    |none=>False):=λo G8 e1 e2 e3=>by
   rw[jb4 e3];refine jaj e1 (by lia) (by lia) λr9 G9 a9 b9 f9 s9=>jaj f9 (by lia) (by lia) λra Ga aa ba fa sa=>?_
   obtain⟨o1,rfl⟩:=Ya0 a9;obtain⟨o2,rfl⟩:=Ya0 aa;refine jlQ (W:=W) fa h1 h2 (by lia) (by lia) λs Gb ob fb sb=>?_
   have gb:=sb _ _ aw.1 (sa _ _ aw.1 (s9 _ _ aw.1 e3));rw[jeL gb];exact add s Gb ob fb (e2.trans (s9.trans (sa.trans sb))) gb _
  refine⟨trivial,by decide,λpb Gb nb=>?_⟩
  have gb:=nb.sa _ _ g7;have fb:=f7.new nb;have sb:=s7.nw nb;simp! only[];refine joy gb nb.at (λu hu=>?_) (show 1<100 by decide) ?_
  ·obtain⟨s,hs,rfl⟩:=List.mem_map.mp hu;exact(o7 s hs).sml
  by_cases hss:ss=[]
  ·rw[if_neg (by rw[hss];simp)]
   exact fresh _ Gb fb sb gb
  ·rw[if_pos (by simpa using hss)]
   refine jaj fb (by decide) (by decide) λr8 G8 a8 b8 f8 s8=>?_
   have g8:=s8 _ _ aw.1 gb;have hl:0<ss.length:=List.length_pos_iff.mpr hss;simp! only[];by_cases hr:r8=0
   ·rw[if_pos (by simpa using hr)]
    simp! only[jb4 g8,jaR g8,Yae];refine jaj f8 (by lia) (by lia) λr9 G9 a9 b9 f9 s9=>?_
    have g9:=s9 _ _ aw.1 g8;obtain⟨s,hs,es⟩:=jfx (l:=ss) a9 b9;rw[ix_l g9 ((jge Spn.u ss _).trans (congrArg _ es)),jeL g9];exact add s G9 (o7 s hs) f9 (sb.trans (s8.trans s9)) g9 _
   ·rw[if_neg (by simpa using hr)]
    exact fresh _ G8 f8 (sb.trans s8) g8

noncomputable def nstr  (t:Int):Str:=(toString t:String)
theorem jiN  : ∀n m ,m<=n->0<m->((YbP 10 m).map Yca).head?≠some 48
 |0,m,h,h0=>by lia
 |n+1,m,h,h0=>by
  by_cases hm:m<10
  ·rw[Ydi hm];have:∀m∈YaH 10,0<m->([Yff m].map Yca).head?≠some 48:=by decide
   exact this m (List.mem_range.mpr hm) h0
  ·rw[Nat.toDigits_of_base_le (by decide) (by lia),Yav]
   have ih:=jiN n (m/10) (by lia) (by lia)
   cases hc:(YbP 10 (m/10)).map Yca with
   |nil=>exact absurd (YfK.mp hc) Nat.toDigits_ne_nil
   |cons a l=>
    rw[hc]at ih;rw[Ygs];exact ih
def jcj   (h0:0<=t)(h1:t<=9999):(1<=(nstr t).length/\(nstr t).length<=4)/\(∀c∈(nstr t).cps.toList,48<=c/\c<=57)/\((nstr t).length<=1\/(nstr t).cps.toList.head?≠some 48):=by
 obtain⟨m,rfl⟩:=Ya0 h0;have e:nstr (m:Int)=⟨((YbP 10 m).map Yca).toArray⟩:=Yd4 m;have el:(nstr (m:Int)).length=(YbP 10 m).length:=by
  rw[e];show(((YbP 10 m).map Yca).toArray).size=_;rw[Yam,Yae]
 have ec:(nstr (m:Int)).cps.toList=(YbP 10 m).map Yca:=by rw[e]
 rw[el,ec];refine⟨⟨Nat.length_toDigits_pos,(YcX (by decide) (by decide)).mpr (by lia)⟩,λc hc=>?_,?_⟩
 ·obtain⟨d,hd,rfl⟩:=List.mem_map.mp hc;have:=Nat.isDigit_of_mem_toDigits (by decide) (by decide) hd
  unfold Char.isDigit at this;obtain⟨a,b⟩:=(Yao _ _).mp this |> λz=>(⟨of_decide_eq_true z.1,of_decide_eq_true z.2⟩:_/\_);exact⟨UInt32.le_iff_toNat_le.mp a,UInt32.le_iff_toNat_le.mp b⟩
 ·by_cases hm:m<10
  ·exact .inl ((YcX (by decide) (by decide)).mpr (by lia))
  ·exact .inr (jiN m m (Yag _) (by lia))
def jb1   (h0:0<=t)(h1:t<=9999):intText? (nstr t)=some t:=PySem.W.KIN.num_reads h0 (by lia)
def jjT   (h0:0<=t)(h1:t<=9999)(u0:0<=u)(u1:u<=9999)(e:nstr t=nstr u):t=u:=by
 have:=jb1 h0 h1;rw[e,jb1 u0 u1]at this;exact(Yan this).symm
def jfa  {t:Int}(h0:0<=t)(h1:t<=9999):t.natAbs.log2<1920:=by
 have h2:t.natAbs<2 ^ 14:=by lia
 by_cases hz:t.natAbs=0
 ·rw[hz];decide
 ·exact Ydw ((Nat.log2_lt hz).mpr h2) (by decide)


def g0   : glU T.gs 0 φ=φ (.int 8):=rfl
def g1   : glU T.gs 1 φ=φ (.int 4):=rfl
def g2   : glU T.gs 2 φ=φ (.str "0123456789"):=rfl
def g3   : glU T.gs 3 φ=φ (.int 8):=rfl
def joE  : ∀c,48<=c->c<=57->(Yaw "0123456789" ⟨#[c]⟩ 0 ("0123456789" : Str).length 1).isEmpty=false:=by
 have h:∀d∈YaH 10,(Yaw "0123456789" ⟨#[48+d]⟩ 0 ("0123456789" : Str).length 1).isEmpty=false:=by decide +kernel
 intro c h1 h2;have:=h (c-48) (List.mem_range.mpr (by lia))
 rw[show 48+(c-48)=c by lia]at this
 exact this
def jfb   : lenU [.str x] G Q=(x.length<=Yaf/\Q (.int x.length) G):=rfl
def jew    : cmpU .LtE (.int x) (.int y) G φ=φ (decide (x<=y)):=rfl
def jj6    : cmpU .Eq (.str x) (.str y) G φ=φ (decide (x=y)):=rfl
def jn8    : cmpU .LtE (.str x) (.str y) G φ=φ (!decide (y.cps.toList<x.cps.toList)):=rfl
def jj3    : inU (.str x) (.str y) G φ=φ (!(Yaw y x 0 y.length 1).isEmpty):=rfl
def sg_s    : sgU (.str z) φ=(z.cps.all (·< 128)=true/\φ (z.cps.toList.map λc=>.str ⟨#[c]⟩)):=rfl
def jcY    : truU (.bl b) G φ=φ b:=rfl
def jqf    (g:G p=some (.lst (Yaa m (.bl true))))(q:Q (.bl true) G):allU [.loc p] G Q:=by
 have e:∀m:Nat,jbG (Yaa m (.bl true))=some (Yaa m true):=λm=>by
  induction m with
  |zero=>rfl
  |succ m ih=>
   rw[YaS,YaS];show(match jbG (Yaa m (.bl true))with|some l=>some (true::l)|none=>none)=_
   rw[ih]
 unfold allU;dsimp only;rw[g];show(match jbG (Yaa m (.bl true))with|some bs=>Q (.bl (bs.all id)) G|none=>False)
 rw[e];show Q (.bl ((Yaa m true).all id)) G;have h:(Yaa m true).all id=true:=Ydk.mpr λb hb=>List.eq_of_mem_replicate hb;rw[h];exact q
def jfy  {z:Str}(h:∀c∈z.cps.toList,c<128):z.cps.all (·< 128)=true:=by
 rw[<- Ygf];exact Ydk.mpr λc hc=>decide_eq_true (h c hc)
def jiT  {z:Str}{kk:List U->Gp->Prop}(hb:∀c∈z.cps.toList,∀K ,K (some (.bl true)) G->b (.str ⟨#[c]⟩) G K)(q:kk (Yaa z.cps.toList.length (.bl true)) G) :
  jcI (λ_=>True) b (z.cps.toList.map λc=>.str ⟨#[c]⟩) [] G kk:=by
 refine jdA (λ_=>.bl true) trivial (λx hx K hk=>?_) ?_
 ·obtain⟨c,hc,rfl⟩:=List.mem_map.mp hx;exact hb c hc K hk
 ·rw[Yb5,Ybp];have e:(z.cps.toList.map ((λ_=>U.bl true) ∘ λc=>U.str ⟨#[c]⟩))=Yaa z.cps.toList.length (U.bl true):=List.map_const' ..;rw[e];exact q
def jeZ   (h0:0<=t)(h1:t<=9999)(q:∀G',Sa G G'->Q (.int t) G'):jac T (k+1) jaz [.str (nstr t)] G Q X:=by
 obtain⟨⟨l1,l4⟩,hd,hz⟩:=jcj h0 h1;refine⟨rfl,?_⟩;simp! only[jbS,jae,Yaa,jfb,jew,g1,sg_s];have hs:(nstr t).length<=Yaf:=Yai l4 (by decide)
 have hlen:(nstr t).cps.toList.length=(nstr t).length:=by simp[YcO]
 refine⟨hs,?_⟩;rw[if_pos (by simp;lia),if_neg (by simp;lia)]
 refine⟨jfy λc hc=>by have:=(hd c hc).2;lia,by rw[Yae,hlen];exact hs,?_⟩
 refine jiT (λc hc K hk=>?_) λp G1 n1=>?_
 ·rw[g2,jj3,joE c (hd c hc).1 (hd c hc).2];exact hk
 ·refine jqf n1.at ?_;rw[jcY,if_neg (by simp)]
  have fin:intU [.str (nstr t)] G1 Q:=⟨t,jb1 h0 h1,Yai l4 (by decide),q G1 n1.sa⟩
  refine⟨hs,?_⟩;by_cases h2:1<(nstr t).length
  ·rw[if_pos (by simp;lia)]
   obtain⟨d,r,e⟩:∃d r,(nstr t).cps.toList=d::r:=by
    cases e:(nstr t).cps.toList with
    |nil=>rw[e]at hlen;simp at hlen;lia
    |cons d r=>exact⟨d,r,rfl⟩
   refine ix_s hs (c:=d) (by rw[e];exact jdN _ _) ?_
   rw[jj6,if_neg]
   ·exact fin
   ·intro z;have z:(⟨#[d]⟩:Str) = "0" := by simpa using z
    have hd0:d≠48:=by
     rcases hz with hz|hz
     ·lia
     ·rw[e]at hz;intro y;exact hz (by rw[y];rfl)
    have:[d]=[48]:=by
     have:=congrArg (λs:Str=>s.cps.toList) z;have e0:("0" : Str).cps.toList=[48]:=by decide +kernel
     rw[show(⟨#[d]⟩:Str).cps.toList=[d]from rfl,e0]at this;exact this
    exact hd0 (Yf0 this).1
  ·rw[if_neg (by simp;lia)]
   exact fin
def jmc   : jff [.str x,.ty "str"] G Q=Q (.bl true) G:=rfl

noncomputable def jjD  (xs:List Str)(ss:List Spn):U:=.tup [.tup (xs.map .str),.tup (ss.map Spn.u)]
noncomputable def wl  (xs:List Str):List Str := "works" :: xs
noncomputable def sw  (xs:List Str)(s:Spn):List Str:=[s.w,xs.getD s.o "",xs.getD s.t "",nstr s.lo,nstr s.hi]
noncomputable def jdk  (xs:List Str)(ss:List Spn):List Str:=YaU " " (wl xs)::ss.map λs=>YaU " " (sw xs s)
structure Pl (xs:List Str)(ss:List Spn):Prop where
 x0:0<xs.length
 x8:xs.length<=8
 nm:Nms xs
 sl:ss.length<=24
 so:∀s∈ss,s.Ok xs.length
section
variable {k n:Nat}{G:Gp}{Q:K1}{X:KX}{xs:List Str}{ss:List Spn}
def at_o   (hx:xs.length=W)(h:o<W):xs[o]?=some (xs.getD o "")/\xs.getD o "" ∈ xs:=by
 have ho:o<xs.length:=by lia
 have e:xs.getD o "" = xs[o]:=by simp[List.getD,ho]
 rw[e];exact⟨by simp[ho],YbA ho⟩
theorem jkp   : ∀{l:List Str},(∀x∈l,x.length<=n)->(l.map (·.length)).sum<=l.length*n
 |[],_=>Ybh _
 |x::r,h=>by
  rw[Yas,Ye6,Ybd,Yfv];have:=jkp (l:=r) λy hy=>h y (Yah _ hy);have:=h x (by simp)
  lia
structure Wd (x:Str):Prop where
 l:x.length<=8
 c:∀c∈x.cps.toList,c<128/\c≠32
def Nm.wd   (h:Nm x):Wd x:=⟨h.l8,λc hc=>⟨h.ch c hc,λz=>absurd (h.lw c hc) (by lia)⟩⟩
def jkx   (h0:0<=t)(h1:t<=9999):Wd (nstr t):=by
 obtain⟨⟨_,l4⟩,hd,_⟩:=jcj h0 h1;exact⟨by lia,λc hc=>⟨by have:=(hd c hc).2;lia,by have:=(hd c hc).1;lia⟩⟩
def jjg  : Wd "works" := ⟨by decide +kernel,by decide +kernel⟩
def w_wd  {x:Str}(h:x = "apart" \/ x = "span"):Wd x:=by
 rcases h with rfl|rfl
 ·exact⟨by decide +kernel,by decide +kernel⟩
 ·exact⟨by decide +kernel,by decide +kernel⟩
def Pl.wl (h:Pl xs ss):(∀x∈wl xs,Wd x)/\(wl xs).length<=9:=⟨λx hx=>by
 rcases YaG.mp hx with rfl|hx
 ·exact jjg
 ·exact(h.nm.ok x hx).wd,by have:=h.x8;show xs.length+1<=9;lia⟩
def Pl.sw (h:Pl xs ss){s:Spn}(hs:s∈ss):(∀x∈sw xs s,Wd x)/\(sw xs s).length<=9:=⟨λx hx=>by
 have o:=h.so s hs;unfold Z.sw at hx;simp only[YaG,Yar,or_false]at hx;rcases hx with rfl|rfl|rfl|rfl|rfl
 ·exact w_wd o.w
 ·exact(h.nm.ok _ (at_o rfl o.o).2).wd
 ·exact(h.nm.ok _ (at_o rfl o.t).2).wd
 ·exact jkx o.lo.1 o.lo.2
 ·exact jkx o.hi.1 o.hi.2,by show 5<=9;decide⟩
def jhu  {ws:List Str}(h:(∀x∈ws,Wd x)/\ws.length<=9):(ws.map (·.length)).sum+ws.length<=81:=by
 have:=jkp (n:=8) λx hx=>(h.1 x hx).l;have:=h.2
 lia
def jir   (h:(∀x∈ws,Wd x)/\ws.length<=9):(YaU " " ws).length<=100/\∀c∈(YaU " " ws).cps.toList,c<128:=by
 refine⟨?_,?_⟩
 ·have a:=YeO " " ws;have e:(" " : Str).length=1:=rfl;rw[e]at a;have:=jhu h
  lia
 ·have key:∀(ws:List Str),(∀x∈ws,∀c∈x.cps.toList,c<128)->∀c∈(YaU " " ws).cps.toList,c<128:=by
   intro ws
   induction ws with
   |nil=>intro _ c hc;exact absurd hc (by show c∉([]:List Nat);simp)
   |cons x r ih=>
    intro hw c hc;cases r with
    |nil=>exact hw x (by simp) c hc
    |cons y r=>
     rw[jcT,jfp,jfp]at hc;rcases List.mem_append.mp hc with hc|hc
     ·rcases List.mem_append.mp hc with hc|hc
      ·exact hw x (by simp) c hc
      ·have:c=32:=by simpa[jlf]using hc
       lia
     ·exact ih (λz hz=>hw z (Yah _ hz)) c hc
  exact key _ λx hx c hc=>((h.1 x hx).c c hc).1
def jcf  {α:Type}{l:List α}{a:α}(h:l[i]?=some a):l.take (i+1)=l.take i++[a]:=by
 rw[List.take_succ,h];rfl
def je2  (h:Pl xs ss)(q:∀p G' ,G p=none->Sa G G'->G' p=some (.lst ((jdk xs ss).map .str))->Q (.loc p) G'):jac T (k+1) jde [jjD xs ss] G Q X:=by
 refine⟨rfl,?_⟩;simp! only[jdu,jae,Yaa,jjD,mt_join];refine⟨trivial,by decide,λpa Ga na pb Gb nb=>?_⟩
 have ga:=nb.sa _ _ na.at
 refine⟨_,_,ga,nb.at,by simp;exact Yai (YcS h.x8 1) (by decide),λpc Gc nc=>?_⟩
 dsimp only;rw[jfd (ys:=wl xs) nc.at];refine⟨by decide,Yai (jhu h.wl) (by decide),by decide,λp1 G1 n1=>?_⟩
 have s1:Sa G G1:=na.sa.trans (nb.sa.trans (nc.sa.trans n1.sa));have hp1:G p1=none:=by
  cases e:G p1 with
  |none=>rfl
  |some o=>have:=n1.no;rw[nc.sa _ _ (nb.sa _ _ (na.sa _ _ e))]at this;cases this
 refine jaq (λi ς G'=>(∃o4 o5 o6 o7 o8 o9,ς=[some (jjD xs ss),some (.tup (xs.map .str)),some (.tup (ss.map Spn.u)),some (.loc p1),o4,o5,o6,o7,o8,o9])/\Sa G G'/\G' p1=some (.lst ((YaU " " (wl xs)::(ss.take i).map λs=>YaU " " (sw xs s)).map .str))) ?_ ?_ ⟨⟨_,_,_,_,_,_,rfl⟩,s1,n1.at⟩
 ·rintro ς G2 ⟨⟨o4,o5,o6,o7,o8,o9,rfl⟩,s2,g2⟩;rw[Yae,Ygo]at g2;simp! only[];exact⟨trivial,q p1 G2 hp1 s2 g2⟩
 ·rintro i x ς G2 K hx ⟨⟨o4,o5,o6,o7,o8,o9,rfl⟩,s2,g2⟩ hk;have hi:i<ss.length:=by have:=(List.getElem?_eq_some_iff.mp hx).1;simpa using this
  have es:ss[i]?=some ss[i]:=by simp[hi]
  have eu:x=ss[i].u:=by
   rw[Yay,es]at hx;exact(Yan hx).symm
  subst eu;have hm:ss[i]∈ss:=YbA hi;have o:=h.so _ hm;have ao:atI (xs.map U.str) (ss[i].o:Int)=some (.str (xs.getD ss[i].o "")):=jbb (by rw[Yay,(at_o rfl o.o).1];rfl)
  have at':atI (xs.map U.str) (ss[i].t:Int)=some (.str (xs.getD ss[i].t "")):=jbb (by rw[Yay,(at_o rfl o.t).1];rfl)
  simp! only[Spn.u,ix_t ao,ix_t at'];refine⟨trivial,trivial,by decide,λpd Gd nd=>?_⟩
  have gd2:=nd.sa _ _ g2;simp! only[jb4 gd2,mt_join];refine⟨jfa o.lo.1 o.lo.2,jfa o.hi.1 o.hi.2,by decide,λpe Ge ne=>?_⟩
  refine⟨_,_,ne.sa _ _ nd.at,ne.at,by show 3+2<=Yaf;decide,λpf Gf nf=>?_⟩
  dsimp only;rw[jfd (ys:=sw xs ss[i]) nf.at];refine⟨by decide,Yai (jhu (h.sw hm)) (by decide),?_⟩
  have gf2:=nf.sa _ _ (ne.sa _ _ gd2);rw[jeL gf2];refine⟨by simp;exact YaV (show _<=25 by have:=h.sl;lia) (by decide),λG3 w3=>hk _ _ ⟨⟨_,_,_,_,_,_,rfl⟩,λb o h=>w3.sm b o (λz=>by rw[z,hp1]at h;cases h) (nf.sa _ _ (ne.sa _ _ (nd.sa _ _ (s2 b o h)))),?_⟩⟩
  rw[w3.at,jcf es,Yav,Yas,Yas,Yav];rfl
end

theorem joF  : ∀n (l:List Nat),l.length=n+1->(∀c∈l,48<=c/\c<=57)->l.head?≠some 48->∃m ,0<m/\l=(YbP 10 m).map Yca
 |0,l,hl,hd,hh=>by
  obtain⟨c,rfl⟩:=List.length_eq_one_iff.mp hl;have h1:=hd c (by simp)
  have h2:c≠48:=λz=>hh (by rw[z];rfl)
  refine⟨c-48,by lia,?_⟩
  rw[Ydi (by lia)]
  have:∀d∈YaH 10,[48+d]=[Yff d].map Yca:=by decide
  have:=this (c-48) (List.mem_range.mpr (by lia))
  rw[<- this,show 48+(c-48)=c by lia]
 |n+1,l,hl,hd,hh=>by
  have hne:l≠[]:=λz=>by rw[z]at hl;simp at hl
  have e:=List.dropLast_concat_getLast hne;obtain⟨a,ea⟩:∃a,a=l.dropLast:=⟨_,rfl⟩;obtain⟨c,ec⟩:∃c,c=l.getLast hne:=⟨_,rfl⟩;rw[<- ea,<- ec]at e;have la:a.length=n+1:=by rw[ea,List.length_dropLast];lia
  have ha:a.head?=l.head?:=by
   rw[<- e];cases a with
   |nil=>simp at la
   |cons x r=>rfl
  obtain⟨m,h0,em⟩:=joF n a la (λx hx=>hd x (by rw[<- e];simp[hx])) (by rw[ha];exact hh)
  have hc:=hd c (by rw[<- e];simp)
  refine⟨10*m+(c-48),by lia,?_⟩
  rw[<- Nat.toDigits_append_toDigits (b:=10) (n:=m) (d:=c-48) (by decide) h0 (by lia),Yav,<- em,Ydi (by lia)]
  have:∀d∈YaH 10,[48+d]=[Yff d].map Yca:=by decide
  have:=this (c-48) (List.mem_range.mpr (by lia))
  rw[<- this,show 48+(c-48)=c by lia,e]
def jgD   (h1:1<=x.length)(h4:x.length<=4)(hd:∀c∈x.cps.toList,48<=c/\c<=57)(hh:x.length<=1\/x.cps.toList.head?≠some 48):∃t ,0<=t/\t<=9999/\x=nstr t:=by
 have hlen:x.cps.toList.length=x.length:=by simp[YcO]
 have key:∃m:Nat,x.cps.toList=(YbP 10 m).map Yca:=by
  by_cases hz:x.cps.toList.head?=some 48
  ·have h:x.length<=1:=by rcases hh with h|h;exact h;exact absurd hz h
   obtain⟨c,e⟩:=List.length_eq_one_iff.mp (show x.cps.toList.length=1 by lia)
   rw[e]at hz ⊢;have:c=48:=by simpa using hz
   subst this;exact⟨0,by decide⟩
  ·obtain⟨m,_,e⟩:=joF (x.length-1) x.cps.toList (by lia) hd hz
   exact⟨m,e⟩
 obtain⟨m,e⟩:=key;have el:(YbP 10 m).length=x.length:=by rw[<- hlen,e,Yae]
 have hm:m<10 ^ 4:=(YcX (by decide) (by decide)).mp (by lia)
 refine⟨m,by lia,by lia,jfH ?_⟩
 rw[e,show nstr (m:Int)=⟨((YbP 10 m).map Yca).toArray⟩from Yd4 m]
def NumW  (x:Str):Option Int->Prop
 |some t=>0<=t/\t<=9999/\x=nstr t
 |none=>∀t:Int,0<=t->t<=9999->x≠nstr t
noncomputable def oI  : Option Int->U
 |some t=>.int t
 |none=>.non
def NumW.uniq   : ∀{o o' },NumW x o->NumW x o'->o=o'
 |some t,some u,⟨a,b,c⟩,⟨a',b',c'⟩=>by rw[jjT a b a' b' (c.symm.trans c')]
 |some t,none,⟨a,b,c⟩,h=>absurd c (h t a b)
 |none,some t,h,⟨a,b,c⟩=>absurd c (h t a b)
 |none,none,_,_=>rfl
def NumW.ex   x:∃o,NumW x o:=by
 by_cases h:∃t:Int,0<=t/\t<=9999/\x=nstr t
 ·obtain⟨t,h⟩:=h;exact⟨some t,h⟩
 ·exact⟨none,λt a b c=>h ⟨t,a,b,c⟩⟩
def jkP  : ∀c,c<128->(!(Yaw "0123456789" ⟨#[c]⟩ 0 ("0123456789" : Str).length 1).isEmpty)=decide (48<=c/\c<=57):=by
 have h:∀d∈YaH 128,(!(Yaw "0123456789" ⟨#[d]⟩ 0 ("0123456789" : Str).length 1).isEmpty)=decide (48<=d/\d<=57):=by decide +kernel
 exact λc hc=>h c (List.mem_range.mpr hc)
def jn6  : ∀c,c<128->(!(Yaw "abcdefghijklmnopqrstuvwxyz" ⟨#[c]⟩ 0 ("abcdefghijklmnopqrstuvwxyz" : Str).length 1).isEmpty)=decide (97<=c/\c<=122):=by
 have h:∀d∈YaH 128,(!(Yaw "abcdefghijklmnopqrstuvwxyz" ⟨#[d]⟩ 0 ("abcdefghijklmnopqrstuvwxyz" : Str).length 1).isEmpty)=decide (97<=d/\d<=122):=by decide +kernel
 exact λc hc=>h c (List.mem_range.mpr hc)
def lex2  {a b:Nat}:decide ([a] < [b])=decide (a<b):=by
 refine decide_eq_decide.mpr ?_;rw[List.cons_lt_cons_iff];simp
def jjb  {l:List Nat}[DecidablePred P]:(l.map λc=>decide (P c)).all id=decide (∀c∈l,P c):=by
 rw[Ya5,Ydk,decide_eq_true_iff];constructor
 ·exact λh c hc=>of_decide_eq_true (h _ (List.mem_map.mpr ⟨c,hc,rfl⟩))
 ·rintro h b hb;obtain⟨c,hc,rfl⟩:=List.mem_map.mp hb;exact decide_eq_true (h c hc)

def jkS   {bs:List Bool}(g:G p=some (.lst (bs.map .bl)))(q:Q (.bl (bs.all id)) G):allU [.loc p] G Q:=by
 have e:∀bs:List Bool,jbG (bs.map .bl)=some bs:=λbs=>by
  induction bs with
  |nil=>rfl
  |cons b r ih=>
   show(match jbG (r.map .bl)with|some l=>some (b::l)|none=>none)=_
   rw[ih]
 unfold allU;dsimp only;rw[g];show(match jbG (bs.map .bl)with|some bs=>Q (.bl (bs.all id)) G|none=>False)
 rw[e];exact q
def jiV  {z:Str}{kk:List U->Gp->Prop}(hb:∀c∈z.cps.toList,∀K ,K (some (.bl (f c))) G->b (.str ⟨#[c]⟩) G K)(q:kk ((z.cps.toList.map f).map .bl) G) :
  jcI (λ_=>True) b (z.cps.toList.map λc=>.str ⟨#[c]⟩) [] G kk:=by
 refine jdA (λu=>match u with|.str s=>.bl (f (s.cps.toList.headD 0))|_=>.non) trivial (λx hx K hk=>?_) ?_
 ·obtain⟨c,hc,rfl⟩:=List.mem_map.mp hx;exact hb c hc K hk
 ·rw[Yb5,Ybp];rw[Ybp]at q;exact q
def jeo   (hx : x.length <= 10000)(ha : ∀ c ∈ x.cps.toList, c < 128)(q : ∀ o, NumW x o -> ∀ G', Sa G G' -> Q (oI o) G') : jac T (k + 1) jaz [.str x] G Q X := by
  by_cases hn : ∃ t : Int, 0 <= t /\ t <= 9999 /\ x = nstr t
  · obtain ⟨t, h0, h1, rfl⟩ := hn
    exact jeZ h0 h1 λG' s => q (some t) ⟨h0, h1, rfl⟩ G' s
  · have hq : ∀ G', Sa G G' -> Q .non G' := q none λt a b c => hn ⟨t, a, b, c⟩
    have hs : x.length <= Yaf := Yai hx (by decide)
    have hlen : x.cps.toList.length = x.length := by simp [YcO]
    refine ⟨rfl, ?_⟩
    simp! only [jbS, jae, Yaa, jfb, jew, g1, sg_s]
    refine ⟨hs, ?_⟩
    by_cases h1 : 1 <= x.length
    · rw [if_pos (by simp; lia)]
      by_cases h4 : x.length <= 4
      · rw [if_neg (by simp; lia)]
        refine ⟨jfy ha, by rw [Yae, hlen]; exact hs, ?_⟩
        refine jiV (f := λc => decide (48 <= c /\ c <= 57)) (λc hc K hk => ?_) λp G1 n1 => ?_
        · rw [g2, jj3, jkP c (ha c hc)]
          exact hk
        · refine jkS n1.at ?_
          rw [jcY, jjb]
          by_cases hd : ∀ c ∈ x.cps.toList, 48 <= c /\ c <= 57
          · rw [decide_eq_true hd, if_neg (by simp)]
            refine ⟨hs, ?_⟩
            have h2 : 1 < x.length := Nat.lt_of_not_le λz => hn (jgD h1 h4 hd (.inl z))
            have hz : x.cps.toList.head? = some 48 := Ybw λz => hn (jgD h1 h4 hd (.inr z))
            rw [if_pos (by simp; lia)]
            obtain ⟨r, e⟩ : ∃ r, x.cps.toList = 48 :: r := by
              cases e : x.cps.toList with
              | nil => rw [e] at hlen; simp at hlen; lia
              | cons d r => rw [e] at hz; have : d = 48 := by simpa using hz
                            exact ⟨r, by rw [this]⟩
            refine ix_s hs (c := 48) (by rw [e]; exact jdN _ _) ?_
            rw [jj6, if_pos (by decide +kernel)]
            exact hq G1 n1.sa
          · rw [decide_eq_false hd, if_pos (by simp)]
            exact hq G1 n1.sa
      · rw [if_pos (by simp; lia)]
        exact hq G λ_ _ h => h
    · rw [if_neg (by simp; lia)]
      exact hq G λ_ _ h => h


theorem jer  : ∀l:List Str,noBs (l.map YcJ)=true
 |[]=>rfl
 |_::r=>by
  show(noB (.str _)&&noBs (r.map YcJ))=true;rw[jer r];rfl
def jjn  {l l':List Str}(h:l.map YcJ=l'.map YcJ):l=l':=by
 have:=congrArg (List.map λd:PyData=>match d with|.str x=>x|_ => "") h
 rw[Ybp,Ybp]at this;have e:((λd:PyData=>match d with|.str x=>x|_ => "") ∘ YcJ)=id:=rfl
 rw[e,List.map_id,List.map_id]at this;exact this
def jcg  {l:List Str}(h:∀x∈l,∀c∈x.cps.toList,c<128):Small (.list (l.map .str))/\DUs G (l.map .str) (l.map YcJ):=by
 have hs:∀u∈l.map U.str,Sml 0 u:=λu hu=>by
  obtain⟨x,hx,rfl⟩:=List.mem_map.mp hu;exact Sml.str (h x hx)
 obtain⟨h1,h2,h3⟩:=smls hs;have e:pds (l.map U.str)=l.map YcJ:=by rw[jhY,Ybp];rfl
 rw[e]at h2 h3;refine⟨⟨h2,?_⟩,by have:=jfj (G:=G) h1;rw[e]at this;exact this⟩
 show YbZ (l.map YcJ)+1<=100
 lia
def jf7   {l l':List Str}(ga:G a=some (.lst (l.map .str)))(gb:G b=some (.lst (l'.map .str)))(h:∀x∈l,∀c∈x.cps.toList,c<128)(h':∀x∈l',∀c∈x.cps.toList,c<128)(q:φ (decide (l=l'))):eqU (.loc a) (.loc b) G φ:=by
 obtain⟨s1,d1⟩:=jcg (G:=G) h;obtain⟨s2,d2⟩:=jcg (G:=G) h';refine⟨.list (l.map .str),.list (l'.map .str),.lst (by unfold lsG;rw[ga]) d1,.lst (by unfold lsG;rw[gb]) d2,s1,s2,?_⟩
 have e:YaJ (.list (l.map .str)) (.list (l'.map .str))=decide (l=l'):=by
  by_cases hl:l=l'
  ·subst hl;rw[Yey _ s1.1];simp
  ·rw[decide_eq_false hl];cases e:YaJ (.list (l.map .str)) (.list (l'.map .str))with
   |false=>rfl
   |true=>
    have:=jkL (d:=.list (l.map .str)) (e:=.list (l'.map .str)) (jer l) (jer l') e;exact absurd (jjn (PyData.list.inj this)) hl
 rw[e];exact q
def jme    (g:G p=some (.lst us)):jff [.loc p,.ty "list"] G Q=Q (.bl true) G:=by
 unfold jff isiU tyN;dsimp only;rw[g];rfl
def jmv    : cmpU .Eq (.loc a) (.loc b) G φ=eqU (.loc a) (.loc b) G φ:=rfl
def jmu    : cmpU .NotEq (.loc a) (.loc b) G φ=eqU (.loc a) (.loc b) G λb=>φ (!b):=rfl
def jes    : cmpU .NotEq (.str x) (.str y) G φ=φ (!decide (x=y)):=rfl

theorem jkK {f:Nat->Bool}:∀l:List Nat,(l.map λc=>U.str ⟨#[c]⟩).filterMap (λu=>match u with|.str s=>if f (s.cps.toList.headD 0)=true then some u else none|_=>none)=(l.filter f).map λc=>U.str ⟨#[c]⟩
 |[]=>rfl
 |c::r=>by
  rw[Yas,YcQ,jkK r,List.filter_cons];have e:f ((⟨#[c]⟩:Str).cps.toList.headD 0)=f c:=rfl;dsimp only;rw[e];cases f c<;>rfl
def jiJ  {l:List Nat}[DecidablePred P]:(l.filter λc=>!decide (P c))=[]↔∀c∈l,P c:=by
 rw[List.filter_eq_nil_iff];simp
def jmn  {l:List Nat}[DecidablePred P]:(l.filter λc=>decide (P c)).length=l.length↔∀c∈l,P c:=by
 rw[List.length_filter_eq_length_iff];simp
instance (x:Str):Decidable (Nm x):=decidable_of_iff (x.length<=8/\(∀c∈x.cps.toList,97<=c/\c<=122)/\0<x.length) ⟨λh=>⟨h.1,λc hc=>by have:=h.2.1 c hc;lia,λc hc=>(h.2.1 c hc).1,λc hc=>(h.2.1 c hc).2,h.2.2⟩,λh=>⟨h.l8,λc hc=>⟨h.lw c hc,h.up c hc⟩,h.ne⟩⟩

def jiU  {z:Str}{kk:List U->Gp->Prop}(hb:∀c∈z.cps.toList,∀K ,K (if f c=true then some (.str ⟨#[c]⟩) else none) G->b (.str ⟨#[c]⟩) G K)(q:kk ((z.cps.toList.filter f).map λc=>.str ⟨#[c]⟩) G) :
  jcI (λ_=>True) b (z.cps.toList.map λc=>.str ⟨#[c]⟩) [] G kk:=by
 refine jcF (λu=>match u with|.str s=>if f (s.cps.toList.headD 0)=true then some u else none|_=>none) trivial (λx hx K hk=>?_) ?_
 ·obtain⟨c,hc,rfl⟩:=List.mem_map.mp hx;exact hb c hc K hk
 ·rw[Yb5,jkK];exact q
def jfT   (hx:x.length<=10000)(ha:∀c∈x.cps.toList,c<128)(q:∀G',Sa G G'->Q (.bl (decide (Nm x))) G'):jac T (k+1) je7 [.str x] G Q X:=by
 have hs:x.length<=Yaf:=Yai hx (by decide)
 have hlen:x.cps.toList.length=x.length:=by simp[YcO]
 refine⟨rfl,?_⟩;simp! only[jfl,jae,Yaa,jfb,jew,g0,sg_s,jmc,jcY];refine⟨hs,?_⟩;by_cases h1:1<=x.length
 ·rw[if_pos (by simp;lia)]
  by_cases h8:x.length<=8
  ·rw[if_neg (by simp;lia)]
   refine⟨jfy ha,by rw[Yae,hlen];exact hs,?_⟩
   refine jiV (f:=λc=>decide (97<=c/\c<=122)) (λc hc K hk=>?_) λp G1 n1=>jkS n1.at ?_
   ·have ea:("a" : Str).cps.toList=[97]:=by decide +kernel
    have ez:("z" : Str).cps.toList=[122]:=by decide +kernel
    rw[jn8,ea,show(⟨#[c]⟩:Str).cps.toList=[c]from rfl,lex2];by_cases hc1:97<=c
    ·rw[if_pos (by simp;lia),jn8,ez,show(⟨#[c]⟩:Str).cps.toList=[c]from rfl,lex2]
     have e:(!decide (122<c))=decide (97<=c/\c<=122):=by
      rw[Ya5];simp
      lia
     rw[e];exact hk
    ·rw[if_neg (by simp;lia)]
     rw[show decide (97<=c/\c<=122)=false from decide_eq_false λz=>hc1 z.1]at hk;exact hk
   ·rw[jjb];have e:decide (∀c∈x.cps.toList,97<=c/\c<=122)=decide (Nm x):=decide_eq_decide.mpr ⟨λh=>⟨h8,ha,λc hc=>(h c hc).1,λc hc=>(h c hc).2,h1⟩,λh c hc=>⟨h.lw c hc,h.up c hc⟩⟩;rw[e];exact q G1 n1.sa
  ·rw[if_pos (by simp;lia)]
   have:=q G λ_ _ h=>h;rw[decide_eq_false λh:Nm x=>h8 h.l8]at this;exact this
 ·rw[if_neg (by simp;lia)]
  have:=q G λ_ _ h=>h;rw[decide_eq_false λh:Nm x=>h1 h.ne]at this;exact this
def jdI   (hx:x.length<=10000)(ha:∀c∈x.cps.toList,c<128)(q:∀G',Sa G G'->Q (.bl (decide (Nm x))) G'):jac T (k+1) jb3 [.str x] G Q X:=by
 have hs:x.length<=Yaf:=Yai hx (by decide)
 have hlen:x.cps.toList.length=x.length:=by simp[YcO]
 refine⟨rfl,?_⟩;simp! only[jb8,jae,Yaa,jfb,jew,sg_s];refine⟨jfy ha,by rw[Yae,hlen];exact hs,?_⟩
 refine jiU (f:=λc=>decide (97<=c/\c<=122)) (λc hc K hk=>?_) λp G1 n1=>?_
 ·show inU _ _ _ _;rw[jj3,jn6 c (ha c hc)];cases hd:decide (97<=c/\c<=122)<;>rw[hd]at hk<;>exact hk
 ·simp! only[jfb,jew,jaR n1.at];refine⟨hs,?_⟩;have q1:=q G1 n1.sa;by_cases h1:1<=x.length
  ·rw[if_pos (by simp;lia)]
   by_cases h8:x.length<=8
   ·rw[if_pos (by simp;lia)]
    refine⟨hs,?_⟩;have e:decide (((((x.cps.toList.filter λc=>decide (97<=c/\c<=122)).map λc=>U.str ⟨#[c]⟩).length:Nat):Int)=(x.length:Int))=decide (Nm x):=by
     refine decide_eq_decide.mpr ?_;rw[Yae,<- hlen,Int.ofNat_inj,jmn];exact⟨λh=>⟨h8,ha,λc hc=>(h c hc).1,λc hc=>(h c hc).2,h1⟩,λh c hc=>⟨h.lw c hc,h.up c hc⟩⟩
    rw[e];exact q1
   ·rw[if_neg (by simp;lia),decide_eq_false (by lia)]
    rw[decide_eq_false λh:Nm x=>h8 h.l8]at q1;exact q1
  ·rw[if_neg (by simp;lia)]
   rw[decide_eq_false λh:Nm x=>h1 h.ne]at q1;exact q1
def jhd   (hx:x.length<=10000)(ha:∀c∈x.cps.toList,c<128)(q:∀o,NumW x o->∀G',Sa G G'->Q (oI o) G'):jac T (k+1) jal [.str x] G Q X:=by
 have hs:x.length<=Yaf:=Yai hx (by decide)
 have hlen:x.cps.toList.length=x.length:=by simp[YcO]
 refine⟨rfl,?_⟩;simp! only[jb9,jae,Yaa,jfb,jew,sg_s];refine⟨hs,by decide,rfl,rfl,?_⟩
 have e4:([U.int 1,U.int 2,U.int 3,U.int 4].any λy=>eqF y (.int x.length))=decide (1<=x.length/\x.length<=4):=by
  rw[Ya5];simp[eqF]
  lia
 rw[e4];by_cases h14:1<=x.length/\x.length<=4
 ·rw[decide_eq_true h14];show if (!true)=true then _ else _
  rw[if_neg (by simp)]
  refine⟨jfy ha,by rw[Yae,hlen];exact hs,?_⟩
  refine jiU (f:=λc=>!decide (48<=c/\c<=57)) (λc hc K hk=>?_) λp G1 n1=>⟨by decide,λp2 G2 n2=>?_⟩
  ·show inU _ _ _ _;rw[jj3,jkP c (ha c hc)];cases hd:decide (48<=c/\c<=57)<;>rw[hd]at hk<;>exact hk
  ·have g1:G2 p=some (.lst (((x.cps.toList.filter λc=>!decide (48<=c/\c<=57)).map λc=>(⟨#[c]⟩:Str)).map .str)):=by
    rw[Ybp];exact n2.sa _ _ n1.at
   have g2':G2 p2=some (.lst (([]:List Str).map .str)):=n2.at
   have sa:Sa G G2:=λb o h=>n2.sa b o (n1.sa b o h);show eqU (.loc p) (.loc p2) G2 λb=>if (!b)=true then _ else _
   refine jf7 g1 g2' (λy hy c hc=>?_) (λy hy=>nomatch hy) ?_
   ·obtain⟨d,hd,rfl⟩:=List.mem_map.mp hy;have:c=d:=by simpa using hc
    rw[this];exact ha d (List.mem_filter.mp hd).1
   ·by_cases hd:∀c∈x.cps.toList,48<=c/\c<=57
    ·rw[decide_eq_true (by rw[YfK];exact jiJ.mpr hd),if_neg (by simp)]
     by_cases hn:∃t:Int,0<=t/\t<=9999/\x=nstr t
     ·obtain⟨t,h0,h1,e⟩:=hn;have fin:intU [.str x] G2 Q:=⟨t,by rw[e];exact jb1 h0 h1,Yai h14.2 (by decide),q (some t) ⟨h0,h1,e⟩ G2 sa⟩
      obtain⟨_,_,hz⟩:=jcj h0 h1;rw[<- e]at hz;by_cases h0':x = "0"
      ·rw[if_pos (decide_eq_true h0')];exact fin
      ·rw[if_neg (λz=>h0' (of_decide_eq_true z))];obtain⟨d,r,ed⟩:∃d r,x.cps.toList=d::r:=by
        cases e:x.cps.toList with
        |nil=>rw[e]at hlen;simp at hlen;lia
        |cons d r=>exact⟨d,r,rfl⟩
       refine ix_s hs (c:=d) (by rw[ed];exact jdN _ _) ?_
       have e0:("0" : Str).cps.toList=[48]:=by decide +kernel
       have hd0:d≠48:=by
        rintro rfl;rcases hz with hz|hz
        ·refine h0' (jfH ?_);rw[ed]at hlen;have:r=[]:=List.length_eq_zero_iff.mp (by simp at hlen;lia)
         rw[ed,this,e0]
        ·rw[ed]at hz;exact hz rfl
       rw[jes,if_pos]
       ·exact fin
       ·rw[YcC,decide_eq_false_iff_not];intro z;have:=congrArg (λs:Str=>s.cps.toList) z;rw[show(⟨#[d]⟩:Str).cps.toList=[d]from rfl]at this;exact hd0 (Yf0 (this.trans e0)).1
     ·have q1:=q none (λt a b c=>hn ⟨t,a,b,c⟩) G2 sa;have h2:1<x.length:=Nat.lt_of_not_le λz=>hn (jgD h14.1 h14.2 hd (.inl z));have hz:x.cps.toList.head?=some 48:=Ybw λz=>hn (jgD h14.1 h14.2 hd (.inr z));obtain⟨r,e⟩:∃r,x.cps.toList=48::r:=by
       cases e:x.cps.toList with
       |nil=>rw[e]at hlen;simp at hlen;lia
       |cons d r=>
        rw[e]at hz;have:d=48:=by simpa using hz
        exact⟨r,by rw[this]⟩
      rw[if_neg (λz=>by
       have z:x = "0" := of_decide_eq_true z;rw[z]at h2;exact absurd h2 (by decide))]
      refine ix_s hs (c:=48) (by rw[e];exact jdN _ _) ?_
      rw[jes,if_neg (by decide +kernel)]
      exact q1
    ·rw[decide_eq_false (λz=>by rw[YfK]at z;exact hd (jiJ.mp z)),if_pos (by simp)]
     refine q none (λt a b c=>hd ?_) G2 sa;rw[c];exact(jcj a b).2.1
 ·rw[decide_eq_false h14];show if (!false)=true then _ else _
  rw[if_pos (by simp)]
  refine q none (λt a b c=>h14 ?_) G λ_ _ h=>h;rw[c];exact(jcj a b).1

noncomputable def wd  (ws:List Str)(i:Nat):Str:=ws.getD i ""
def Fw  (fit:Nat->Bool)(n least:Nat):Option Nat->Prop
 |some i=>(∀j,j<i->fit j=true)/\((i<n/\fit i=false)\/(i=n/\n<least))
 |none=>(∀j,j<n->fit j=true)/\least<=n
noncomputable def oN  : Option Nat->U
 |some i=>.int i
 |none=>.non
def Fw.uniq    : ∀{o o' },Fw fit n l o->Fw fit n l o'->o=o'
 |some i,some i',⟨h1,h2⟩,⟨h1',h2'⟩=>by
  rcases Yef i i' with h|h|h
  ·have:=h1' i h;rcases h2 with⟨_,e⟩|⟨e,l⟩
   ·rw[this]at e;cases e
   ·rcases h2' with⟨l',_⟩|⟨l',_⟩<;>lia
  ·rw[h]
  ·have:=h1 i' h;rcases h2' with⟨_,e⟩|⟨e,l⟩
   ·rw[this]at e;cases e
   ·rcases h2 with⟨l',_⟩|⟨l',_⟩<;>lia
 |some i,none,⟨_,h2⟩,⟨h1',h2'⟩=>by
  rcases h2 with⟨l,e⟩|⟨e,l⟩
  ·rw[h1' i l]at e;cases e
  ·lia
 |none,some i,⟨h1',h2'⟩,⟨_,h2⟩=>by
  rcases h2 with⟨l,e⟩|⟨e,l⟩
  ·rw[h1' i l]at e;cases e
  ·lia
 |none,none,_,_=>rfl
structure Ww (ws:List Str):Prop where
 l:ws.length<=10000
 w:∀x∈ws,x.length<=10000/\∀c∈x.cps.toList,c<128
noncomputable def fitW  (ws:List Str)(i:Nat):Bool:=if i=0 then decide (wd ws 0 = "works") else decide (i<=8/\Nm (wd ws i)/\wd ws i∉(ws.drop 1).take (i-1))
def jbv    (h:i<ws.length):wd ws i∈ws:=by
 unfold wd;rw[YaL,YaF h];exact YbA h
def jaM  {ws:List Str}(hj:j<ws.length):atI (ws.map U.str) (j:Int)=some (.str (wd ws j)):=jbb (by simp[wd,hj])

def in_t   {ys:List Str}(q:φ (decide (x∈ys))):inU (.str x) (.tup (ys.map .str)) G φ:=⟨rfl,jdq _,by rw[jgh];exact q⟩
def jiA   {ys:List Str}(h:x∈ys)(q:Q (.int (ys.idxOf x)) G):jau .index (.tup (ys.map .str)) [.str x] G Q:=by
 show(match jc1 (ys.map .str)with|some ys=>x∈ys/\Q (.int (ys.idxOf x)) G|none=>False)
 rw[jcN];exact⟨h,q⟩
def jmj    {ys:List Str}(g:G a=some (.lst (ys.map .str)))(q:φ (decide (x∈ys))):inU (.str x) (.loc a) G φ:=in_l g rfl (jdq _) (by rw[jgh];exact q)
def jqb   (l:List α) n:cut l (some 1) (some ((n+1:Nat):Int))=(l.drop 1).take n:=by
 unfold cut;have e1:HT.sIx l.length 0 (some 1)=min 1 l.length:=HT.sIx_nat l.length 0 1;have e2:HT.sIx l.length l.length (some ((n+1:Nat):Int))=min (n+1) l.length:=HT.sIx_nat l.length l.length (n+1);rw[e1,e2];cases l with
 |nil=>simp
 |cons a r=>
  have:min 1 (a::r).length=1:=by simp
  rw[this];show(r.drop 0).take _=(r.drop 0).take n;rw[YdE];by_cases h:n<=r.length
  ·rw[show min (n+1) (a::r).length-1=n by simp;lia]
  ·rw[Ybt (by simp;lia),Ybt (by lia)]
def jhb     (h:Ww ws)(hi:i<ws.length)(gw:G pw=some (.lst (ws.map .str)))(q:∀G',Sa G G'->Q (.bl (fitW ws i)) G'):jac T (k+2) jdK [.int i,.loc pw] G Q X:=by
 refine⟨rfl,?_⟩;simp! only[ja9,jae,Yaa,ix_l gw (jaM hi)];unfold fitW at q;obtain _|i:=i
 ·rw[if_pos (by simp)]
  rw[if_pos rfl]at q;exact q G Sa.refl
 ·rw[if_neg (by simp;lia)]
  rw[if_neg (by lia)]at q
  rw[g3,jew];obtain⟨w1,w2⟩:=h.w _ (jbv hi);by_cases h8:i+1<=8
  ·rw[if_pos (by simp;lia)]
   refine jfT w1 w2 λG1 s1=>?_;have gw1:=s1 _ _ gw;rw[jcY];by_cases hn:Nm (wd ws (i+1))
   ·rw[decide_eq_true hn,if_pos rfl,ix_l gw1 (jaM hi),sl_l gw1,jbT,jqb];intro p2 G2 n2;refine jmj n2.at ?_;have q2:=q G2 (s1.trans n2.sa);have e:decide (i+1<=8/\Nm (wd ws (i+1))/\wd ws (i+1)∉(ws.drop 1).take (i+1-1)) = !decide (wd ws (i+1)∈(ws.drop 1).take i):=by
     rw[Ya5];simp[hn,h8]
    rw[e]at q2;exact q2
   ·rw[decide_eq_false hn,if_neg (by simp)]
    have q1:=q G1 s1;rw[decide_eq_false (λz=>hn z.2.1)]at q1;exact q1
  ·rw[if_neg (by simp;lia)]
   have q1:=q G Sa.refl;rw[decide_eq_false (λz=>h8 z.1)]at q1;rw[decide_eq_false (by lia)]
   exact q1
def jc6    (h:Ww ws)(gw:G pw=some (.lst (ws.map .str)))(q:∀o,Fw (fitW ws) ws.length 2 o->∀G',Sa G G'->Q (oN o) G'):jac T (k+4) jb2 [.loc pw] G Q X:=by
 refine⟨rfl,?_⟩;simp! only[jbl,jae,Yaa];refine⟨rfl,?_⟩;simp! only[ja8,jae,Yaa,jaR gw];have hs:(10000:Nat)<=Yaf:=by decide
 have hw:=h.l;refine⟨by lia,by simp;lia,?_⟩
 refine jaq (λi ς G'=>(∃o,ς=[some (.loc pw),some (.loc pw),some (.int 2),o])/\Sa G G'/\∀j,j<i->fitW ws j=true) ?_ ?_ ⟨⟨_,rfl⟩,Sa.refl,λ_ h=>absurd h (Ybj _)⟩
 ·rintro ς G1 ⟨⟨o,rfl⟩,s1,hf⟩;have hf:∀j,j<ws.length->fitW ws j=true:=λj hj=>hf j (by unfold rngU;simpa using hj)
  simp! only[jaR (s1 _ _ gw)];refine⟨trivial,?_⟩;by_cases h2:ws.length<2
  ·rw[if_pos (by simpa using (by exact_mod_cast h2))]
   have:=q (some ws.length) ⟨hf,.inr ⟨rfl,h2⟩⟩ G1 s1;simpa[oN]using this
  ·rw[if_neg (by simp;lia)]
   exact q none ⟨hf,by lia⟩ G1 s1
 ·rintro i x ς G1 K hx ⟨⟨o,rfl⟩,s1,hf⟩ hk';obtain⟨hi,rfl⟩:=jaK hx;have hi:i<ws.length:=by simpa using hi
  simp! only[];refine⟨trivial,?_⟩;refine jhb h hi (s1 _ _ gw) λG2 s2=>?_;rw[jcY];cases hb:fitW ws i
  ·rw[if_pos (by simp)]
   exact q (some i) ⟨hf,.inl ⟨hi,hb⟩⟩ G2 (s1.trans s2)
  ·rw[if_neg (by simp)]
   refine hk' _ _ ⟨⟨_,rfl⟩,s1.trans s2,λj hj=>?_⟩;rcases Nat.lt_succ_iff_lt_or_eq.mp hj with h|h
   ·exact hf j h
   ·rw[h];exact hb

noncomputable def nmW  (x:Str):Option Int:=Classical.choose (NumW.ex x)
def jic   x:NumW x (nmW x):=Classical.choose_spec (NumW.ex x)
def jkz    (h:NumW x o):o=nmW x:=h.uniq (jic x)
noncomputable def leO  : Option Int->Option Int->Bool
 |some a,some b=>decide (a<=b)
 |_,_=>false
noncomputable def fitS  (nm ws:List Str)(i:Nat):Bool:=
 if i=0 then decide (wd ws 0∈(["span", "apart"]:List Str)) else if i<3 then decide (wd ws i∈nm) else
 if 4<i then false else if (nmW (wd ws i)).isNone=true then false else if i=3 then true else if wd ws 0 = "apart" then true else leO (nmW (wd ws 3)) (nmW (wd ws 4))
section
variable {k:Nat}{G:Gp}{Q:K1}{X:KX}{nm:List Str}
def je1  {x:Str}(h:x.length<=10000/\∀c∈x.cps.toList,c<128)(q:∀G',Sa G G'->Q (oI (nmW x)) G'):jac T (k+1) jaz [.str x] G Q X:=
 jeo h.1 h.2 λo ho G' s=>by rw[jkz ho];exact q G' s
def jc8  {x:Str}(h:x.length<=10000/\∀c∈x.cps.toList,c<128)(q:∀G',Sa G G'->Q (oI (nmW x)) G'):jac T (k+1) jal [.str x] G Q X:=
 jhd h.1 h.2 λo ho G' s=>by rw[jkz ho];exact q G' s
def is_o    : isU (oI o) .non φ=φ o.isNone:=by cases o<;>rfl
def jhc     (h:Ww ws)(hi:i<ws.length)(hp:∀j,j<i->fitS nm ws j=true)(gw:G pw=some (.lst (ws.map .str)))(q:∀G',Sa G G'->Q (.bl (fitS nm ws i)) G'):jac T (k+2) jet [.int i,.tup (nm.map .str),.loc pw] G Q X:=by
 have ww:∀{j:Nat},j<ws.length->(wd ws j).length<=10000/\∀c∈(wd ws j).cps.toList,c<128:=λhj=>h.w _ (jbv hj);refine⟨rfl,?_⟩;simp! only[jbj,jae,Yaa,ix_l gw (jaM hi)];unfold fitS at q;by_cases h0:i=0
 ·subst h0;rw[if_pos rfl]at q;rw[if_pos (by simp)]
  exact⟨by decide,in_t (ys:=["span", "apart"]) (q G Sa.refl)⟩
 ·rw[if_neg h0]at q;rw[if_neg (by simp;lia)]
  by_cases h3:i<3
  ·rw[if_pos h3]at q;rw[if_pos (by simp;lia)]
   exact in_t (q G Sa.refl)
  ·rw[if_neg h3]at q;rw[if_neg (by simp;lia)]
   by_cases h4:4<i
   ·rw[if_pos h4]at q;rw[if_pos (by simp;lia)]
    exact q G Sa.refl
   ·rw[if_neg h4]at q;rw[if_neg (by simp;lia)]
    refine je1 (ww hi) λG1 s1=>?_;have gw1:=s1 _ _ gw;rw[is_o];by_cases hn:(nmW (wd ws i)).isNone=true
    ·rw[if_pos hn]at q;rw[if_pos hn];exact q G1 s1
    ·rw[if_neg hn]at q;rw[if_neg hn];by_cases h3':i=3
     ·rw[if_pos h3']at q;rw[if_pos (by simp;lia)]
      have e:decide ((i:Int)=3)=true:=decide_eq_true (by lia)
      rw[e];exact q G1 s1
     ·rw[if_neg h3']at q;have e4:i=4:=by lia
      subst e4;have f3:(nmW (wd ws 3)).isNone=false:=by
       have:=hp 3 (by lia)
       unfold fitS at this;rw[if_neg (by lia),if_neg (by lia),if_neg (by lia)]at this
       cases z:(nmW (wd ws 3)).isNone with
       |false=>rfl
       |true=>rw[if_pos z]at this;cases this
      have a0:∀{G:Gp} {Q:K1},G pw=some (.lst (ws.map .str))->ixU (.loc pw) (.int 0) G Q=Q (.str (wd ws 0)) G:=λg=>ix_l g (jaM (j:=0) (by lia))
      have a3:∀{G:Gp} {Q:K1},G pw=some (.lst (ws.map .str))->ixU (.loc pw) (.int 3) G Q=Q (.str (wd ws 3)) G:=λg=>ix_l g (jaM (j:=3) (by lia))
      have a4:∀{G:Gp} {Q:K1},G pw=some (.lst (ws.map .str))->ixU (.loc pw) (.int 4) G Q=Q (.str (wd ws 4)) G:=λg=>ix_l g (jaM (j:=4) (by lia))
      rw[if_neg (by simp),a0 gw1,jj6]
      by_cases ha:wd ws 0 = "apart"
      ·rw[if_pos ha]at q;rw[if_pos (decide_eq_true ha),decide_eq_true ha];exact q G1 s1
      ·rw[if_neg ha]at q;rw[if_neg (by simpa using ha),a3 gw1]
       refine je1 (ww (by lia)) λG2 s2=>?_
       rw[a4 (s2 _ _ gw1)];refine je1 (ww hi) λG3 s3=>?_;have q3:=q G3 ((s1.trans s2).trans s3);cases e3:nmW (wd ws 3)with
       |none=>rw[e3]at f3;cases f3
       |some a=>
        cases e4:nmW (wd ws 4)with
        |none=>rw[e4]at hn;exact absurd rfl hn
        |some b=>rw[e3,e4]at q3;exact q3
def jdE    (h:Ww ws)(gw:G pw=some (.lst (ws.map .str)))(q:∀o,Fw (fitS nm ws) ws.length 5 o->∀G',Sa G G'->Q (oN o) G'):jac T (k+4) jcx [.tup (nm.map .str),.loc pw] G Q X:=by
 refine⟨rfl,?_⟩;simp! only[jbB,jae,Yaa];refine⟨rfl,?_⟩;simp! only[jbh,jae,Yaa,jaR gw];have hs:(10000:Nat)<=Yaf:=by decide
 have hw:=h.l;refine⟨by lia,by simp;lia,?_⟩
 refine jaq (λi ς G'=>(∃o,ς=[some (.tup (nm.map .str)),some (.loc pw),some (.loc pw),some (.int 5),o])/\Sa G G'/\∀j,j<i->fitS nm ws j=true) ?_ ?_ ⟨⟨_,rfl⟩,Sa.refl,λ_ h=>absurd h (Ybj _)⟩
 ·rintro ς G1 ⟨⟨o,rfl⟩,s1,hf⟩;have hf:∀j,j<ws.length->fitS nm ws j=true:=λj hj=>hf j (by unfold rngU;simpa using hj)
  simp! only[jaR (s1 _ _ gw)];refine⟨trivial,?_⟩;by_cases h2:ws.length<5
  ·rw[if_pos (by simpa using (by exact_mod_cast h2))]
   have:=q (some ws.length) ⟨hf,.inr ⟨rfl,h2⟩⟩ G1 s1;simpa[oN]using this
  ·rw[if_neg (by simp;lia)]
   exact q none ⟨hf,by lia⟩ G1 s1
 ·rintro i x ς G1 K hx ⟨⟨o,rfl⟩,s1,hf⟩ hk';obtain⟨hi,rfl⟩:=jaK hx;have hi:i<ws.length:=by simpa using hi
  simp! only[];refine⟨trivial,?_⟩;refine jhc h hi hf (s1 _ _ gw) λG2 s2=>?_;rw[jcY];cases hb:fitS nm ws i
  ·rw[if_pos (by simp)]
   exact q (some i) ⟨hf,.inl ⟨hi,hb⟩⟩ G2 (s1.trans s2)
  ·rw[if_neg (by simp)]
   refine hk' _ _ ⟨⟨_,rfl⟩,s1.trans s2,λj hj=>?_⟩;rcases Nat.lt_succ_iff_lt_or_eq.mp hj with h|h
   ·exact hf j h
   ·rw[h];exact hb
end

def jay  (x:Str):((Ya1 x " ").map (·.length)).sum+(Ya1 x " ").length=x.length+1:=by
 unfold Ya1;split
 ·simp
 ·split
  ·simp
  ·have h1:=StrLaws.glued_between_self x " " (x.length+1);have h2:=congrArg YcO h1;rw[size_glued,length_partsBetween]at h2;rw[length_partsBetween];have e:(" " : Str).length=1:=by decide +kernel
   rw[e]at h2 ⊢
   lia
def jfI   x:1<=(Ya1 x " ").length:=by
 have:=jjr x 32;rw[<- jlf]at this;exact List.length_pos_iff.mpr this
noncomputable def jan  (ls:List Str):List (List Str):=ls.map λx=>Ya1 x " "

def jee   (h1:x.length<=9000)(q:newO G (.lst ((Ya1 x " ").map .str)) Q):jau .split (.str x) [.str " "] G Q:=by
 have hs:=jay x;have hz:(9001:Nat)<=Yaf:=by decide
 exact⟨rfl,by lia,by lia,q⟩
def jba   (h:a.length+b.length<=Yaf)(q:Q (.str (a++b)) G):binU .Add (.str a) (.str b) G Q:=⟨h,q⟩
def jc7   (h1:x.length<=9000)(q:∀p G' ,G p=none->Sa G G'->G' p=some (.lst ((Ya1 x " ").map .str))->Q (.loc p) G'):jac T (k+1) jbH [.str x] G Q X:=by
 have hs:=jay x;have hz:(9001:Nat)<=Yaf:=by decide
 refine⟨rfl,?_⟩;simp! only[jdY,jae,Yaa];exact⟨rfl,by lia,by lia,λp G' n'=>q p G' n'.no n'.sa n'.at⟩

noncomputable def Sz  (l:List Str):Nat:=(l.map (·.length)).sum+l.length
def joP   a b:Sz (a++b)=Sz a+Sz b:=by unfold Sz;simp;lia
def jkV  (x:Str):Sz [x]=x.length+1:=by unfold Sz;simp
def jcr  (x:Str) l:Sz (x::l)=x.length+1+Sz l:=by rw[show x::l=[x]++l from rfl,joP,jkV]
def joO  (l:List Str) j (x:Str):Sz (l.set j x)<=Sz l+x.length:=by
 induction l generalizing j with
 |nil=>exact Ybh _
 |cons y r ih=>
  cases j with
  |zero=>rw[YdX,jcr,jcr];lia
  |succ j=>rw[YdY,jcr,jcr];have:=ih j;lia
def jjc    (h:x∈l):x.length<=Sz l:=by
 induction l with
 |nil=>exact nomatch h
 |cons y r ih=>
  rw[jcr];rcases YaG.mp h with rfl|h
  ·lia
  ·have:=ih h;lia
def jaO  (a b:Str):(a++b).length=a.length+b.length:=by
 show(a.cps++b.cps).size=_;exact Yd3
def jmX  : (" " : Str).length=1:=by decide +kernel
theorem jgL  : ∀l ,(YaU " " l).length<=Sz l
 |[]=>Yag _
 |[x]=>by rw[jkV];exact YdS _
 |x::y::r=>by
  have:=jgL (y::r);rw[jcT,jaO,jaO,jmX,jcr]
  lia
def As  (x:Str):Prop:=∀c∈x.cps.toList,c<128
def Lk  (l:List Str):Prop:=∀x∈l,As x
def As.app   (ha:As a)(hb:As b):As (a++b):=λc hc=>by
 rw[jfp]at hc;rcases List.mem_append.mp hc with h|h
 ·exact ha c h
 ·exact hb c h
def jpp  : As " " := by
 have:∀c∈(" " : Str).cps.toList,c<128:=by decide +kernel
 exact this
theorem jis  : ∀{l },Lk l->As (YaU " " l)
 |[],_=>λc hc=>nomatch hc
 |[x],h=>h x (Yat ..)
 |x::y::r,h=>by
  rw[jcT];exact((h x (Yat ..)).app jpp).app (jis λz hz=>h z (Yah _ hz))
def jcP   (h:As x):Lk (Ya1 x " "):=λy hy=>by
 unfold Ya1 at hy;split at hy
 ·rw[List.mem_singleton.mp hy];exact h
 ·split at hy
  ·rw[List.mem_singleton.mp hy];exact h
  ·exact λc hc=>h c (jhZ hy hc)
def Lk.set   (h:Lk l)(hx:As x) j:Lk (l.set j x):=λy hy=>by
 rcases Ycj hy with z|z
 ·exact h y z
 ·rw[z];exact hx

def joK   {xs ys:List Str}(ga:G a=some (.lst (xs.map .str)))(gb:G b=some (.lst (ys.map .str)))(hl:xs.length+ys.length<=Yaf)
  (q:∀p G' ,G p=none->Sa G G'->G' p=some (.lst ((xs++ys).map .str))->Q (.loc p) G'):binU .Add (.loc a) (.loc b) G Q:=by
 rw[V_catL];exact⟨_,_,ga,gb,by simpa using hl,λp G' n=>q p G' n.no n.sa (by rw[n.at,Yav])⟩
def jmY     (g:G a=some (.lst (xs.map .str)))(q:∀p G' ,G p=none->Sa G G'->G' p=some (.lst ((cut xs lo hi).map .str))->Q (.loc p) G'):slU (.loc a) lo hi G Q:=by
 rw[sl_l g,jbT];exact λp G' n=>q p G' n.no n.sa n.at
def Fd.ne_l    (h:Fd G f c)(g:G p=some (.lst xs)):p≠f:=λz=>by
 obtain⟨ns,a,l,t,h1,_,_⟩:=h.ex;rw[z,h1]at g;cases g

noncomputable def jhE  (nm ws:List Str):U:=.tup [.str (wd ws 0),.int (nm.idxOf (wd ws 1)),.int (nm.idxOf (wd ws 2)),oI (nmW (wd ws 3)),oI (nmW (wd ws 4))]
def jcK   (hx:x.length<=9000)(ha:As x):Ww (Ya1 x " "):=by
 have hs:=jay x;refine⟨by lia,λy hy=>⟨?_,jcP ha y hy⟩⟩
 have:=jjc hy;unfold Sz at this
 lia
def five    (h:Fw (fitS nm ws) ws.length 5 none):ws.length=5/\wd ws 1∈nm/\wd ws 2∈nm:=by
 obtain⟨h1,h2⟩:=h;have l5:ws.length=5:=by
  refine Nat.le_antisymm (Ydm λz=>?_) h2;have:=h1 5 z;unfold fitS at this;rw[if_neg (by lia),if_neg (by lia),if_pos (by lia)]at this
  cases this
 have f1:=h1 1 (by lia)
 have f2:=h1 2 (by lia)
 unfold fitS at f1 f2;rw[if_neg (by lia),if_pos (by lia)]at f1 f2
 exact⟨l5,of_decide_eq_true f1,of_decide_eq_true f2⟩
def jpW   (h:ws.length=5):ws=[wd ws 0,wd ws 1,wd ws 2,wd ws 3,wd ws 4]:=by
 match ws,h with
 |[a,b,c,d,e],_=>rfl

def joT       (g:G a=some (.lst us)):unpU ts (.loc a) G ς φ=tgsU ts us ς φ:=by
 have:lsG G a=some us:=by unfold lsG;rw[g]
 unfold unpU;dsimp only;rw[this]
def jfQ    (h:Ww ws)(hf:Fw (fitS nm ws) ws.length 5 none)(gw:G pw=some (.lst (ws.map .str)))(q:∀G',Sa G G'->Q (jhE nm ws) G'):jac T (k+2) je6 [.tup (nm.map .str),.loc pw] G Q X:=by
 obtain⟨l5,m1,m2⟩:=five hf;have ww:∀{j:Nat},j<ws.length->(wd ws j).length<=10000/\∀c∈(wd ws j).cps.toList,c<128:=λhj=>h.w _ (jbv hj);have w3:=ww (j:=3) (by lia)
 have w4:=ww (j:=4) (by lia)
 rw[jpW l5]at gw;refine⟨rfl,?_⟩;simp! only[jfk,jae,Yaa,joT gw];refine⟨trivial,?_⟩;show jau .index _ _ _ _;refine jiA m1 ?_;show jau .index _ _ _ _;refine jiA m2 ?_;exact je1 w3 λG1 s1=>je1 w4 λG2 s2=>⟨by decide,q G2 (s1.trans s2)⟩

noncomputable def rwZ  (ls:List Str)(j:Nat):List Str:=Ya1 (wd ls j) " "
noncomputable def nmZ  (ls:List Str):List Str:=(rwZ ls 0).drop 1
def Row0  (ls:List Str):Prop:=Fw (fitW (rwZ ls 0)) (rwZ ls 0).length 2 none
def jje  (ls:List Str)(i:Nat):Prop:=∀j,1<=j->j<i->j<=24/\Fw (fitS (nmZ ls) (rwZ ls j)) (rwZ ls j).length 5 none
def OutF  (ls:List Str)(a b:Nat):Prop:=
 (ls=[]/\a=0/\b=0)\/(ls≠[]/\a=0/\Fw (fitW (rwZ ls 0)) (rwZ ls 0).length 2 (some b))\/
 (Row0 ls/\1<=a/\a<ls.length/\jje ls a/\((24<a/\b=0)\/(a<=24/\Fw (fitS (nmZ ls) (rwZ ls a)) (rwZ ls a).length 5 (some b))))
def OutR  (ls:List Str):Prop:=ls≠[]/\Row0 ls/\jje ls ls.length
noncomputable def spsZ  (ls:List Str)(n:Nat):List U:=(YaH n).map λj=>jhE (nmZ ls) (rwZ ls (j+1))

def is_n    : isU (oN o) .non φ=φ o.isNone:=by cases o<;>rfl
def jpe     (g:G a=some (.lst us)):truU (.loc a) G φ=φ (!us.isEmpty):=by
 unfold truU;dsimp only;rw[g]
def g4   : glU T.gs 4 φ=φ (.int 24):=rfl
def jcQ    (h:(rngU 1 n)[i]?=some x):i<n/\x=.int (1+(i:Int)):=by
 unfold rngU at h;rw[Yay]at h;by_cases hi:i<n
 ·rw[YdI hi]at h;exact⟨hi,by simpa using h.symm⟩
 ·rw[YcG (by simpa using hi)]at h
  cases h
def jen   (hl:ls.length<=20000)(hb:∀x∈ls,x.length<=9000/\As x)(gl:G pl=some (.lst (ls.map .str)))
  (q:OutR ls->∀G',Sa G G'->Q (.tup [.tup ((nmZ ls).map .str),.tup (spsZ ls (ls.length-1))]) G') (x:∀a b,OutF ls a b->∀G',Sa G G'->X ⟨4,[.int a,.int b]⟩ G'):jac T (k+5) jdc [.loc pl] G Q X:=by
 have hz:(20000:Nat)<=Yaf:=by decide
 refine⟨rfl,?_⟩;simp! only[jdr,jae,Yaa,jpe gl];by_cases h0:ls=[]
 ·rw[if_pos (by simp[h0])]
  exact⟨rfl,x 0 0 (.inl ⟨h0,rfl,rfl⟩) G Sa.refl⟩
 ·rw[if_neg (by simp[h0])]
  have l1:0<ls.length:=List.length_pos_iff.mpr h0;have wb:∀{j:Nat},j<ls.length->(wd ls j).length<=9000/\As (wd ls j):=λhj=>hb _ (jbv hj);have a0:∀{G:Gp} {Q:K1},G pl=some (.lst (ls.map .str))->ixU (.loc pl) (.int 0) G Q=Q (.str (wd ls 0)) G:=λg=>ix_l g (jaM (j:=0) l1);rw[a0 gl];refine jc7 (wb l1).1 λp1 G1 hp1 s1 g1=>?_;have w0:Ww (rwZ ls 0):=jcK (wb l1).1 (wb l1).2;refine jc6 w0 g1 λo ho G2 s2=>?_;have g21:=s2 _ _ g1;simp! only[is_n,sl_l g21];cases o with
  |some b=>
   rw[if_pos (by simp)]
   exact⟨rfl,x 0 b (.inr (.inl ⟨h0,rfl,ho⟩)) G2 (s1.trans s2)⟩
  |none=>
   rw[if_neg (by simp),show(some (1:Int))=some ((1:Nat):Int)from rfl,jbT,jcW]
   intro p3 G3 n3;rw[it_l n3.at];have w0l:=w0.l;refine⟨by decide,λp4 G4 n4=>?_⟩
   have s4:Sa G G4:=s1.trans (s2.trans (n3.sa.trans n4.sa));have gl4:=s4 _ _ gl;have hp4:G p4=none:=by
    cases e:G p4 with
    |none=>rfl
    |some o=>have:=n4.no;rw[n3.sa _ _ (s2 _ _ (s1 _ _ e))]at this;cases this
   dsimp only;simp! only[jaR gl4];rw[Yae];refine⟨by lia,by lia,by lia,by lia,?_⟩
   rw[show((ls.length:Int)-1).toNat=ls.length-1 by lia]
   refine jaq (λi ς G'=>(∃o2 o5 o6,ς=[some (.loc pl),some (.loc p1),o2,some (.tup ((nmZ ls).map .str)),some (.loc p4),o5,o6])/\Sa G G'/\G' p4=some (.lst (spsZ ls i))/\jje ls (i+1)) ?_ ?_ ⟨⟨_,_,_,rfl⟩,s4,n4.at,λj h1 h2=>by lia⟩
   ·rintro ς G5 ⟨⟨o2,o5,o6,rfl⟩,s5,g5,hg⟩;rw[jaF]at g5 hg;simp! only[];rw[it_l g5];rw[show ls.length-1+1=ls.length by lia]at hg
    exact⟨trivial,by decide,q ⟨h0,ho,hg⟩ G5 s5⟩
   ·rintro i y ς G5 K hy ⟨⟨o2,o5,o6,rfl⟩,s5,g5,hg⟩ hk;obtain⟨hi,rfl⟩:=jcQ hy;have al:atI (ls.map U.str) (1+(i:Int))=some (.str (wd ls (i+1))):=by
     rw[show(1+(i:Int))=((i+1:Nat):Int) by lia]
     exact jaM (by lia)
    simp! only[ix_l (s5 _ _ gl) al];have wi:=wb (j:=i+1) (by lia)
    refine⟨trivial,jc7 wi.1 λp6 G6 hp6 s6 g6=>?_⟩;have ww:Ww (rwZ ls (i+1)):=jcK wi.1 wi.2;rw[g4,jew];have ei:((i+1:Nat):Int)=1+(i:Int):=by lia
    have s56:Sa G G6:=s5.trans s6;by_cases h24:i+1<=24
    ·rw[if_pos (by simp;lia)]
     refine jdE ww g6 λo ho' G7 s7=>?_;show isU (oN o) .non _;rw[is_n];have g75:=s7 _ _ (s6 _ _ g5);cases o with
     |some b=>
      rw[if_pos (by simp)]
      have:=x (i+1) b (.inr (.inr ⟨ho,by lia,by lia,hg,.inr ⟨h24,ho'⟩⟩)) G7 (s56.trans s7)
      rw[ei]at this;exact⟨rfl,this⟩
     |none=>
      rw[if_neg (by simp),jb4 g75]
      refine jfQ ww ho' (s7 _ _ g6) λG8 s8=>?_;rw[jeL (s8 _ _ g75)];refine⟨by unfold spsZ;simp;exact YaV (show _<=24 by lia) (by decide),λG9 w9=>hk _ _ ⟨⟨_,_,_,rfl⟩,λb o h=>w9.sm b o (λz=>by rw[z,hp4]at h;cases h) (s8 _ _ (s7 _ _ (s6 _ _ (s5 b o h)))),?_,λj h1 h2=>?_⟩⟩
      ·rw[w9.at];unfold spsZ;rw[YbL,Yav];rfl
      ·rcases Nat.lt_succ_iff_lt_or_eq.mp h2 with h|h
       ·exact hg j h1 h
       ·rw[h];exact⟨h24,ho'⟩
    ·rw[if_neg (by simp;lia)]
     have is_i:∀{z:Int} {φ:Bool->Prop},isU (.int z) .non φ=φ false:=rfl;rw[is_i,if_pos (by simp)]
     have:=x (i+1) 0 (.inr (.inr ⟨ho,by lia,by lia,hg,.inl ⟨by lia,rfl⟩⟩)) G6 s56
     rw[ei]at this;exact⟨rfl,this⟩

def OutF.uniq    (h:OutF ls a b)(h':OutF ls a' b'):a=a'/\b=b':=by
 have no0:∀{b:Nat},Row0 ls->¬Fw (fitW (rwZ ls 0)) (rwZ ls 0).length 2 (some b):=λr z=>nomatch r.uniq z;have l0:∀{a:Nat},a<ls.length->ls≠[]:=λz e=>by rw[e]at z;exact absurd z (Ybj _)
 rcases h with⟨e,rfl,rfl⟩|⟨n,rfl,f⟩|⟨r,h1,h2,g,f⟩<;>rcases h' with⟨e',rfl,rfl⟩|⟨n',rfl,f'⟩|⟨r',h1',h2',g',f'⟩
 ·exact⟨rfl,rfl⟩
 ·exact absurd e n'
 ·exact absurd e (l0 h2')
 ·exact absurd e' n
 ·exact⟨rfl,Yan (f.uniq f')⟩
 ·exact absurd f (no0 r')
 ·exact absurd e' (l0 h2)
 ·exact absurd f' (no0 r)
 ·have bad:∀{a a' b:Nat},jje ls a'->1<=a->a<a'->((24<a/\b=0)\/(a<=24/\Fw (fitS (nmZ ls) (rwZ ls a)) (rwZ ls a).length 5 (some b)))->False:=λg h1 hl f=>by
   obtain⟨x1,x2⟩:=g _ h1 hl;rcases f with⟨f,_⟩|⟨_,f⟩
   ·lia
   ·exact nomatch x2.uniq f
  rcases Yef a a' with z|z|z
  ·exact(bad g' h1 z f).elim
  ·subst z;refine⟨rfl,?_⟩;rcases f with⟨x,rfl⟩|⟨x,f⟩<;>rcases f' with⟨x',rfl⟩|⟨x',f'⟩
   ·rfl
   ·lia
   ·lia
   ·exact Yan (f.uniq f')
  ·exact(bad g h1' z f').elim
def OutF.not    (h:OutF ls a b)(h':OutR ls):False:=by
 obtain⟨n,r,g⟩:=h';rcases h with⟨e,_⟩|⟨_,_,f⟩|⟨_,h1,h2,_,f⟩
 ·exact n e
 ·exact nomatch r.uniq f
 ·obtain⟨x1,x2⟩:=g _ h1 h2;rcases f with⟨f,_⟩|⟨_,f⟩
  ·lia
  ·exact nomatch x2.uniq f


def joo    {ys:List Str}(g:G a=some (.lst (ys.map .str)))(h:x∈ys)(q:Q (.int (ys.idxOf x)) G):jau .index (.loc a) [.str x] G Q:=by
 unfold jau jgN;dsimp only;rw[g];show(match jc1 (ys.map .str)with|some ys=>x∈ys/\Q (.int (ys.idxOf x)) G|none=>False)
 rw[jcN];exact⟨h,q⟩
def in_2    (q:φ (decide (z=a\/z=b))):inU (.int z) (.tup [.int a,.int b]) G φ:=by
 refine⟨rfl,rfl,?_⟩;have e:([U.int a,U.int b].any λy=>eqF y (.int z))=decide (z=a\/z=b):=by
  rw[Ya5,decide_eq_true_iff];simp only[Ybn,List.any_nil,Bool.or_false,Yb8,eqF,beq_iff_eq];exact⟨λh=>h.imp Eq.symm Eq.symm,λh=>h.imp Eq.symm Eq.symm⟩
 rw[e];exact q
def jnZ    (g:G a=some (.lst us)):mtU .index (.loc a) G=some ("list", "list.index"):=by
 unfold mtU;dsimp only;rw[g]
def jem   (h:Ww ws)(l1:1<=ws.length)(gn:G pn=some (.lst (nm.map .str)))(gw:G pw=some (.lst (ws.map .str)))
  (q1:∀b,Fw (fitS nm ws) ws.length 5 (some b)->∀G',Sa G G'->Q (.int b) G')
  (q2:Fw (fitS nm ws) ws.length 5 none->∀p G',G p=none->Sa G G'->G' p=some (.lst [jhE nm ws])->Q (.loc p) G'):jac T (k+2) jbp [.loc pn,.loc pw] G Q X:=by
 have ww:∀{j:Nat},j<ws.length->(wd ws j).length<=10000/\∀c∈(wd ws j).cps.toList,c<128:=λhj=>h.w _ (jbv hj);have hz:(20000:Nat)<=Yaf:=by decide
 have hl:=h.l;have a0:∀{G:Gp} {Q:K1},G pw=some (.lst (ws.map .str))->ixU (.loc pw) (.int 0) G Q=Q (.str (wd ws 0)) G:=λg=>ix_l g (jaM (j:=0) l1);refine⟨rfl,?_⟩;simp! only[jbr,jae,Yaa,a0 gw];refine⟨by decide,in_t (ys:=["span", "apart"]) ?_⟩
 have f0:fitS nm ws 0=decide (wd ws 0∈(["span", "apart"]:List Str)):=rfl;by_cases hs:wd ws 0∈(["span", "apart"]:List Str)
 ·rw[decide_eq_true hs,if_neg (by simp)]
  simp! only[jaR gw];rw[Yae];refine⟨by lia,by lia,by lia,by lia,?_⟩
  rw[show((ws.length:Int)-1).toNat=ws.length-1 by lia]
  refine jaq (λi ς G'=>(∃o2 o3,ς=[some (.loc pn),some (.loc pw),o2,o3,none])/\Sa G G'/\∀j,j<i+1->fitS nm ws j=true) ?_ ?_ ⟨⟨_,_,rfl⟩,Sa.refl,λj hj=>by rw[show j=0 by lia,f0,decide_eq_true hs]⟩
  ·rintro ς G1 ⟨⟨o2,o3,rfl⟩,s1,hf⟩;rw[jaF,show ws.length-1+1=ws.length by lia]at hf
   have gw1:=s1 _ _ gw;have gn1:=s1 _ _ gn;simp! only[jaR gw1,jnZ gn1];refine⟨trivial,?_⟩;rw[Yae];by_cases h5:ws.length<5
   ·rw[if_pos (by simp;lia)]
    exact q1 ws.length ⟨hf,.inr ⟨rfl,h5⟩⟩ G1 s1
   ·rw[if_neg (by simp;lia)]
    have fw:Fw (fitS nm ws) ws.length 5 none:=⟨hf,by lia⟩
    obtain⟨l5,m1,m2⟩:=five fw;have aj:∀{G:Gp} {Q:K1} (j:Nat),j<5->G pw=some (.lst (ws.map .str))->ixU (.loc pw) (.int j) G Q=Q (.str (wd ws j)) G:=λj hj g=>ix_l g (jaM (j:=j) (by lia))
    have a1:∀{G:Gp} {Q:K1},G pw=some (.lst (ws.map .str))->ixU (.loc pw) (.int 1) G Q=Q (.str (wd ws 1)) G:=aj 1 (by lia)
    have a2:∀{G:Gp} {Q:K1},G pw=some (.lst (ws.map .str))->ixU (.loc pw) (.int 2) G Q=Q (.str (wd ws 2)) G:=aj 2 (by lia)
    have a3:∀{G:Gp} {Q:K1},G pw=some (.lst (ws.map .str))->ixU (.loc pw) (.int 3) G Q=Q (.str (wd ws 3)) G:=aj 3 (by lia)
    have a4:∀{G:Gp} {Q:K1},G pw=some (.lst (ws.map .str))->ixU (.loc pw) (.int 4) G Q=Q (.str (wd ws 4)) G:=aj 4 (by lia)
    rw[a1 gw1];refine joo gn1 m1 ?_;rw[jnZ gn1];dsimp only;rw[a2 gw1];refine joo gn1 m2 ⟨by decide,λp2 G2 n2=>?_⟩
    dsimp only;have gw2:=n2.sa _ _ gw1;have b1:atI [U.int (nm.idxOf (wd ws 1)),U.int (nm.idxOf (wd ws 2))] 1=some (.int (nm.idxOf (wd ws 2))):=jbb (j:=1) rfl;rw[a0 gw2,ix_l n2.at (jdN _ _),ix_l n2.at b1,a3 gw2];refine jc8 (ww (by lia)) λG3 s3=>?_
    rw[a4 (s3 _ _ gw2)];refine jc8 (ww (by lia)) λG4 s4=>⟨by decide,by decide,λp5 G5 n5=>?_⟩
    have s14:Sa G G4:=s1.trans (n2.sa.trans (s3.trans s4));refine q2 fw p5 G5 ?_ (s14.trans n5.sa) n5.at
    cases e:G p5 with
    |none=>rfl
    |some o=>have:=n5.no;rw[s14 _ _ e]at this;cases this
  ·rintro i y ς G1 K hy ⟨⟨o2,o3,rfl⟩,s1,hf⟩ hk;obtain⟨hi,rfl⟩:=jcQ hy;have gw1:=s1 _ _ gw;have gn1:=s1 _ _ gn;have al:atI (ws.map U.str) (1+(i:Int))=some (.str (wd ws (i+1))):=by
    rw[show(1+(i:Int))=((i+1:Nat):Int) by lia]
    exact jaM (by lia)
   simp! only[ix_l gw1 al];have ei:((i+1:Nat):Int)=1+(i:Int):=by lia
   have hi':i+1<ws.length:=by lia
   have bad:fitS nm ws (i+1)=false->∀G',Sa G G'->Q (.int (1+(i:Int))) G':=λz G' s=>by
    have:=q1 (i+1) ⟨hf,.inl ⟨hi',z⟩⟩ G' s;rw[ei]at this;exact this
   have good:fitS nm ws (i+1)=true->∀(u:Option U) G',Sa G G'->K [some (.loc pn),some (.loc pw),some (.int (1+(i:Int))),u,none] G':=λz u G' s=>hk _ _ ⟨⟨_,_,rfl⟩,s,λj hj=>by
    rcases Nat.lt_succ_iff_lt_or_eq.mp hj with h|h
    ·exact hf j h
    ·rw[h];exact z⟩
   have both:∀(b:Bool) G',b=fitS nm ws (i+1)->Sa G G'->if (!b)=true then Q (.int (1+(i:Int))) G' else K [some (.loc pn),some (.loc pw),some (.int (1+(i:Int))),some (.bl b),none] G':=λb G' e s=>by
    cases b
    ·exact bad e.symm G' s
    ·exact good e.symm (some (.bl true)) G' s
   refine⟨trivial,by decide,in_2 ?_⟩
   by_cases h2:i<2
   ·have fe:fitS nm ws (i+1)=decide (wd ws (i+1)∈nm):=by
     unfold fitS;rw[if_neg (by lia),if_pos (by lia)]
    rw[decide_eq_true (by lia),if_pos rfl]
    refine jmj gn1 ⟨by decide,in_2 ?_⟩
    rw[decide_eq_false (by lia),if_neg (by simp),<- fe]
    have fin:=both _ G1 rfl s1;by_cases z:fitS nm ws (i+1)=true
    ·rw[if_pos z,if_neg (by simp;lia)]
     exact fin
    ·rw[if_neg z];exact fin
   ·rw[decide_eq_false (by lia),if_neg (by simp)]
    refine⟨by decide,in_2 ?_⟩
    by_cases h4:i<4
    ·rw[decide_eq_true (by lia),if_pos rfl]
     refine jc8 (ww hi') λG2 s2=>?_;show isU (oI _) .non _;rw[is_o];have s12:=s1.trans s2;have gw2:=s2 _ _ gw1;have fe:fitS nm ws (i+1)=if (nmW (wd ws (i+1))).isNone=true then false else if i+1=3 then true else if wd ws 0 = "apart" then true else leO (nmW (wd ws 3)) (nmW (wd ws 4)):=by
      conv=>lhs;unfold fitS
      rw[if_neg (by lia),if_neg (by lia),if_neg (by lia)]
     cases hn:(nmW (wd ws (i+1))).isNone
     ·rw[hn,if_neg (by simp)]at fe
      rw[if_pos (by simp)]
      by_cases h3:i=2
      ·rw[if_pos (by lia)]at fe
       rw[if_neg (by simp;lia)]
       exact both true G2 fe.symm s12
      ·rw[if_neg (by lia)]at fe
       have e3:i=3:=by lia
       subst e3;rw[if_pos (by simp),a0 gw2,jj6]
       have a3:∀{G:Gp} {Q:K1},G pw=some (.lst (ws.map .str))->ixU (.loc pw) (.int 3) G Q=Q (.str (wd ws 3)) G:=λg=>ix_l g (jaM (j:=3) (by lia))
       have a4:∀{G:Gp} {Q:K1},G pw=some (.lst (ws.map .str))->ixU (.loc pw) (.int 4) G Q=Q (.str (wd ws 4)) G:=λg=>ix_l g (jaM (j:=4) (by lia))
       have f3:(nmW (wd ws 3)).isNone=false:=by
        have:=hf 3 (by lia)
        unfold fitS at this;rw[if_neg (by lia),if_neg (by lia),if_neg (by lia)]at this
        cases z:(nmW (wd ws 3)).isNone with
        |false=>rfl
        |true=>rw[if_pos z]at this;cases this
       by_cases hsp:wd ws 0 = "span"
       ·rw[if_neg (by rw[hsp];decide +kernel)]at fe
        rw[if_pos (decide_eq_true hsp),a3 gw2];refine jc8 (ww (by lia)) λG3 s3=>?_
        rw[a4 (s3 _ _ gw2)];refine jc8 (ww (by lia)) λG4 s4=>?_
        cases e3:nmW (wd ws 3)with
        |none=>rw[e3]at f3;cases f3
        |some a=>
         cases e4:nmW (wd ws 4)with
         |none=>rw[e4]at hn;cases hn
         |some b=>
          rw[e3,e4]at fe;exact both _ G4 fe.symm (s12.trans (s3.trans s4))
       ·have hap:wd ws 0 = "apart" := by
         rcases YaG.mp hs with z|z
         ·exact absurd z hsp
         ·exact List.mem_singleton.mp z
        rw[if_pos hap]at fe;rw[if_neg (by simpa using hsp)]
        exact both true G2 fe.symm s12
     ·rw[hn,if_pos rfl]at fe;rw[if_neg (by simp)]
      exact both false G2 fe.symm s12
    ·have fe:fitS nm ws (i+1)=false:=by
      unfold fitS;rw[if_neg (by lia),if_neg (by lia),if_pos (by lia)]
     rw[decide_eq_false (by lia),if_neg (by simp),if_neg (by simp;lia),decide_eq_false (by lia)]
     exact both false G1 fe.symm s1
 ·rw[decide_eq_false hs,if_pos (by simp)]
  exact q1 0 ⟨λj hj=>absurd hj (Ybj _),.inl ⟨l1,by rw[f0,decide_eq_false hs]⟩⟩ G Sa.refl


def jfS   (hl:ls.length<=20000)(hb:∀x∈ls,x.length<=9000/\As x)(gl:G pl=some (.lst (ls.map .str)))
  (q1:∀a b ,OutF ls a b->∀p G',G p=none->Sa G G'->G' p=some (.lst [.int a,.int b])->Q (.loc p) G')
  (q2:OutR ls->∀G',Sa G G'->Q (.tup [.tup ((nmZ ls).map .str),.tup (spsZ ls (ls.length-1))]) G'):jac T (k+3) jcm [.loc pl] G Q X:=by
 have hz:(20000:Nat)<=Yaf:=by decide
 have wb:∀{j:Nat},j<ls.length->(wd ls j).length<=9000/\As (wd ls j):=λhj=>hb _ (jbv hj);have fresh:∀{p:Addr} {G':Gp},Sa G G'->G' p=none->G p=none:=λ{p G'} s e=>by
  cases z:G p with
  |none=>rfl
  |some o=>rw[s _ _ z]at e;cases e
 refine⟨rfl,?_⟩;simp! only[jd1,jae,Yaa];refine⟨by decide,λp1 G1 n1=>?_⟩
 dsimp only;rw[jmu];have ne1:G1 p1=some (.lst (([]:List Str).map .str)):=n1.at
 have gl1:=n1.sa _ _ gl;refine jf7 gl1 ne1 (λx hx=>(hb x hx).2) (λy hy=>nomatch hy) ?_;by_cases h0:ls=[]
 ·rw[decide_eq_true h0];rw[if_neg (by simp)]
  refine⟨by decide,λp2 G2 n2=>?_⟩
  dsimp only;rw[ix_l n2.at (jdN _ _),jes,if_pos (by decide +kernel)]
  exact⟨by decide,λp3 G3 n3=>q1 0 0 (.inl ⟨h0,rfl,rfl⟩) p3 G3 (fresh (n1.sa.trans n2.sa) n3.no) (n1.sa.trans (n2.sa.trans n3.sa)) n3.at⟩
 ·rw[decide_eq_false h0];have l1:0<ls.length:=List.length_pos_iff.mpr h0;have a0:∀{G:Gp} {Q:K1},G pl=some (.lst (ls.map .str))->ixU (.loc pl) (.int 0) G Q=Q (.str (wd ls 0)) G:=λg=>ix_l g (jaM (j:=0) l1);rw[if_pos (by simp),a0 gl1]
  show jau .split _ _ _ _;refine jee (wb l1).1 λp2 G2 n2=>?_;have r1:0<(rwZ ls 0).length:=jfI _;have w0:Ww (rwZ ls 0):=jcK (wb l1).1 (wb l1).2;have g2:G2 p2=some (.lst ((rwZ ls 0).map .str)):=n2.at
  have b0:∀{G:Gp} {Q:K1},G p2=some (.lst ((rwZ ls 0).map .str))->ixU (.loc p2) (.int 0) G Q=Q (.str (wd (rwZ ls 0) 0)) G:=λg=>ix_l g (jaM (j:=0) r1);have s2:Sa G G2:=n1.sa.trans n2.sa;rw[b0 g2,jes];have f0:fitW (rwZ ls 0) 0=decide (wd (rwZ ls 0) 0 = "works"):=rfl;by_cases hw:wd (rwZ ls 0) 0 = "works"
  ·rw[if_neg (by simp[hw]),sl_l g2,show(some (1:Int))=some ((1:Nat):Int)from rfl,jbT,jcW]
   intro p3 G3 n3;have g3:G3 p3=some (.lst ((nmZ ls).map .str)):=n3.at
   have nl:(nmZ ls).length+1=(rwZ ls 0).length:=by unfold nmZ;rw[YbR];lia
   have w0l:=w0.l;have s3:Sa G G3:=s2.trans n3.sa;have nw:∀{i:Nat},wd (nmZ ls) i=wd (rwZ ls 0) (i+1):=λ{i}=>by unfold nmZ wd;rw[YaL,YaL,List.getElem?_drop,Yfw]
   rw[jaR g3]
   try dsimp only
   rw[Yae];refine⟨by lia,by lia,?_⟩
   refine jaq (λi ς G'=>(∃o3,ς=[some (.loc pl),some (.loc p2),some (.loc p3),o3,none,none,none])/\Sa G3 G'/\∀j,j<i+1->fitW (rwZ ls 0) j=true) ?_ ?_ ⟨⟨_,rfl⟩,Sa.refl,λj hj=>by rw[show j=0 by lia,f0,decide_eq_true hw]⟩
   ·rintro ς G4 ⟨⟨o3,rfl⟩,s4,hf⟩;rw[jaF,show(((nmZ ls).length:Int)).toNat=(nmZ ls).length by lia,nl]at hf
    simp! only[];have g4:=s4 _ _ g3;refine⟨trivial,by decide,λp5 G5 n5=>?_⟩
    dsimp only;rw[jmv];have ne5:G5 p5=some (.lst (([]:List Str).map .str)):=n5.at
    refine jf7 (n5.sa _ _ g4) ne5 (λx hx=>(w0.w x (Yfx hx)).2) (λy hy=>nomatch hy) ?_;have s5:Sa G G5:=s3.trans (s4.trans n5.sa);by_cases hn:nmZ ls=[]
    ·rw[decide_eq_true hn,if_pos rfl];have l0:(rwZ ls 0).length=1:=by rw[hn]at nl;simpa using nl.symm
     exact⟨by decide,λp6 G6 n6=>q1 0 1 (.inr (.inl ⟨h0,rfl,λj hj=>hf j (by lia),.inr ⟨l0.symm,by lia⟩⟩)) p6 G6 (fresh s5 n6.no) (s5.trans n6.sa) n6.at⟩
    ·rw[decide_eq_false hn,if_neg (by simp)]
     have n1:0<(nmZ ls).length:=List.length_pos_iff.mpr hn;have ho:Row0 ls:=⟨hf,by lia⟩
     refine⟨by decide,λp6 G6 n6=>?_⟩
     have s6:Sa G G6:=s5.trans n6.sa;have gl6:=s6 _ _ gl
     try dsimp only
     simp! only[jaR gl6];rw[Yae];refine⟨by decide,by decide,by lia,by lia,?_⟩
     rw[show((ls.length:Int)-1).toNat=ls.length-1 by lia]
     have g36:G6 p3=some (.lst ((nmZ ls).map .str)):=n6.sa _ _ (n5.sa _ _ g4);have isn:∀{z:Int} {G:Gp} {Q:K1},jff [.int z,.ty "list"] G Q=Q (.bl false) G:=rfl;refine jaq (λi ς G'=>(∃p7 o5 o6,ς=[some (.loc pl),some (.loc p2),some (.loc p3),o3,some (.loc p7),o5,o6]/\G' p7=some (.lst (spsZ ls i)))/\Sa G6 G'/\jje ls (i+1)) ?_ ?_ ⟨⟨_,_,_,rfl,n6.at⟩,Sa.refl,λj h1 h2=>by lia⟩
     ·rintro ς G7 ⟨⟨p7,o5,o6,rfl,g7⟩,s7,hg⟩;rw[jaF]at g7 hg;rw[show ls.length-1+1=ls.length by lia]at hg
      simp! only[];rw[it_l (s7 _ _ g36),it_l g7];exact⟨trivial,by decide,q2 ⟨h0,ho,hg⟩ G7 (s6.trans s7)⟩
     ·rintro i y ς G7 K hy ⟨⟨p7,o5,o6,rfl,g7⟩,s7,hg⟩ hk;obtain⟨hi,rfl⟩:=jcQ hy;have al:atI (ls.map U.str) (1+(i:Int))=some (.str (wd ls (i+1))):=by
       rw[show(1+(i:Int))=((i+1:Nat):Int) by lia]
       exact jaM (by lia)
      have gl7:=s7 _ _ gl6;have s67:Sa G G7:=s6.trans s7;have spl:(spsZ ls i).length=i:=by unfold spsZ;simp
      have ei:((i+1:Nat):Int)=1+(i:Int):=by lia
      have wi:=wb (j:=i+1) (by lia)
      have ww:Ww (rwZ ls (i+1)):=jcK wi.1 wi.2;have bad:∀b:Nat,((24<i+1/\b=0)\/(i+1<=24/\Fw (fitS (nmZ ls) (rwZ ls (i+1))) (rwZ ls (i+1)).length 5 (some b)))->∀G',Sa G G'->newO G' (.lst [.int (1+(i:Int)),.int b]) Q:=λb z G' s p G'' n=>by
       refine q1 (i+1) b (.inr (.inr ⟨ho,by lia,by lia,hg,z⟩)) p G'' (fresh s n.no) (s.trans n.sa) ?_
       rw[ei];exact n.at
      simp! only[jaR g7,ix_l gl7 al];refine⟨trivial,?_⟩;rw[spl];by_cases h24:i<24
      ·rw[if_pos (by simp;lia)]
       show jau .split _ _ _ _;refine jee wi.1 λp8 G8 n8=>?_;refine jem (nm:=nmZ ls) (ws:=rwZ ls (i+1)) ww (jfI _) (n8.sa _ _ (s7 _ _ g36)) n8.at (λb hb' G9 s9=>?_) (λhf' p9 G9 hp9 s9 g9=>?_)
       ·rw[isn,jcY,if_pos (by simp)]
        exact⟨by decide,bad b (.inr ⟨by lia,hb'⟩) G9 (s67.trans (n8.sa.trans s9))⟩
       ·rw[jme g9,jcY,if_neg (by simp),V_catL]
        refine⟨_,_,s9 _ _ (n8.sa _ _ g7),g9,by rw[spl];simp;lia,λpa Ga na=>hk _ _ ⟨⟨_,_,_,rfl,?_⟩,s7.trans (n8.sa.trans (s9.trans na.sa)),λj h1 h2=>?_⟩⟩
        ·rw[na.at];unfold spsZ;rw[YbL,Yav];rfl
        ·rcases Nat.lt_succ_iff_lt_or_eq.mp h2 with h|h
         ·exact hg j h1 h
         ·rw[h];exact⟨by lia,hf'⟩
      ·rw[if_neg (by simp;lia),isn,jcY,if_pos (by simp)]
       exact⟨by decide,bad 0 (.inl ⟨by lia,rfl⟩) G7 s67⟩
   ·rintro i y ς G4 K hy ⟨⟨o3,rfl⟩,s4,hf⟩ hk;obtain⟨hi,rfl⟩:=jaK hy;have hi:i<(nmZ ls).length:=by simpa using hi
    have al:atI ((nmZ ls).map U.str) (i:Int)=some (.str (wd (nmZ ls) i)):=jaM hi;have g4:=s4 _ _ g3;simp! only[ix_l g4 al];refine⟨trivial,?_⟩;have s34:Sa G G4:=s3.trans s4;have hi':i+1<(rwZ ls 0).length:=by lia
    have fe:fitW (rwZ ls 0) (i+1)=decide (i+1<=8/\Nm (wd (nmZ ls) i)/\wd (nmZ ls) i∉(nmZ ls).take i):=by
     rw[nw];unfold fitW;rw[if_neg (by lia)]
     rfl
    have bad:fitW (rwZ ls 0) (i+1)=false->∀G',Sa G G'->newO G' (.lst [.int 0,.int ((i:Int)+1)]) Q:=λz G' s p G'' n=>
     q1 0 (i+1) (.inr (.inl ⟨h0,rfl,hf,.inl ⟨hi',z⟩⟩)) p G'' (fresh s n.no) (s.trans n.sa) n.at
    obtain⟨m1,m2⟩:=w0.w _ (show wd (nmZ ls) i∈rwZ ls 0 by rw[nw];exact jbv hi')
    by_cases h7:7<i
    ·rw[if_pos (by simp;lia)]
     exact⟨by decide,bad (by rw[fe,decide_eq_false λz=>by lia]) G4 s34⟩
    ·rw[if_neg (by simp;lia)]
     refine jdI m1 m2 λG5 s5=>?_;rw[jcY];by_cases hn:Nm (wd (nmZ ls) i)
     ·rw[decide_eq_true hn,if_neg (by simp),ix_l (s5 _ _ g4) al,sl_l (s5 _ _ g4),jbT,jfm]
      intro p6 G6 n6;refine jmj n6.at ?_;by_cases hm:wd (nmZ ls) i∈(nmZ ls).take i
      ·rw[decide_eq_true hm,if_pos rfl];exact⟨by decide,bad (by rw[fe,decide_eq_false λz=>z.2.2 hm]) G6 (s34.trans (s5.trans n6.sa))⟩
      ·rw[decide_eq_false hm,if_neg (by simp)]
       refine hk _ _ ⟨⟨_,rfl⟩,s4.trans (s5.trans n6.sa),λj hj=>?_⟩;rcases Nat.lt_succ_iff_lt_or_eq.mp hj with h|h
       ·exact hf j h
       ·rw[h,fe,decide_eq_true ⟨by lia,hn,hm⟩]
     ·rw[decide_eq_false hn,if_pos (by simp)]
      exact⟨by decide,bad (by rw[fe,decide_eq_false λz=>hn z.2.1]) G5 (s34.trans s5)⟩
  ·rw[if_pos (by simpa using hw)]
   exact⟨by decide,λp3 G3 n3=>q1 0 0 (.inr (.inl ⟨h0,rfl,λj hj=>absurd hj (Ybj _),.inl ⟨r1,by rw[f0,decide_eq_false hw]⟩⟩)) p3 G3 (fresh s2 n3.no) (s2.trans n3.sa) n3.at⟩

section
variable {k:Nat}{G:Gp}{Q:K1}{X:KX}{ls:List Str}
structure An (ls:List Str)(G:Gp)(Q:K1):Prop where
 r:OutR ls->∀G',Sa G G'->Q (.tup [.tup ((nmZ ls).map .str),.tup (spsZ ls (ls.length-1))]) G'
 f:∀a b:Nat,OutF ls a b->∀p G',G p=none->Sa G G'->G' p=some (.lst [.int a,.int b])->Q (.loc p) G'
def jjN   (hl:ls.length<=20000)(hb:∀x∈ls,x.length<=9000/\As x)(gl:G pl=some (.lst (ls.map .str)))(q:An ls G Q):jac T (k+6) jdR [.loc pl] G Q X:=by
 refine⟨rfl,?_⟩;simp! only[jdZ,jae,Yaa];refine jen (k:=k) hl hb gl (λhR G1 s1=>?_) (λa b hF G1 s1=>⟨.inl trivial,?_⟩)
 ·simp! only[];exact q.r hR G1 s1
 ·simp[hsH,hvH,jbL,lit1,litH,atsH,atH,clsF,clsA,-Yd1];intro p G2 n2;refine q.f a b hF p G2 ?_ (s1.trans n2.sa) n2.at
  cases z:G p with
  |none=>rfl
  |some o=>have:=n2.no;rw[s1 _ _ z]at this;cases this
def jjO   (hl:ls.length<=20000)(hb:∀x∈ls,x.length<=9000/\As x)(gl:G pl=some (.lst (ls.map .str)))(q:An ls G Q):jac T (k+3) jcm [.loc pl] G Q X:=
 jfS hl hb gl q.f q.r
end

noncomputable def fitB  (nm:List Str)(tl:List Nat)(r:Nat)(ws:List Str)(i:Nat):Bool:=
 if i=0 then decide (wd ws 0=nstr r) else if i=1/\wd ws 1 = "-" then true else
 if wd ws 1 = "-" then false else if wd ws i∉nm then false else if nm.idxOf (wd ws i)∈tl then false else decide (i=1\/nm.idxOf (wd ws (i-1))<nm.idxOf (wd ws i))
structure Ks (nm:List Str)(ks:List (Nat×Int)):Prop where
 lt:∀p∈ks,p.1<nm.length
 nd:(ks.map (·.1)).Nodup
noncomputable def tdK  (nm:List Str)(ks:List (Nat×Int)):List (Key×U):=ks.map λp=>(.inr (nm.getD p.1 ""),.int p.2)
noncomputable def btK  (ks:List (Nat×Int)):List (Key×U):=ks.map λp=>(.inl (p.1:Int),.int p.2)
def jj1  {nm:List Str}(h:nm.Nodup)(hj:j<nm.length):nm.idxOf (nm.getD j "")=j:=by
 rw[YaL,YaF hj];exact h.idxOf_getElem j hj
def jol  {nm:List Str}(h:x∈nm):nm.getD (nm.idxOf x) "" = x:=by
 have:=Yb6 h;rw[YaL,YaF this];exact YdZ this
def jpf     (hn:nm.Nodup)(h:Ks nm ks)(hx:x∈nm):(dGet (tdK nm ks) (.inr x)).isSome=decide (nm.idxOf x∈ks.map (·.1)):=by
 unfold dGet tdK;rw[Yc2,Ya5,List.find?_isSome,decide_eq_true_iff];constructor
 ·rintro⟨p,hp,e⟩;obtain⟨q,hq,rfl⟩:=List.mem_map.mp hp;have e:nm.getD q.1 "" = x:=by simpa using e
  refine List.mem_map.mpr ⟨q,hq,?_⟩;rw[<- e,jj1 hn (h.lt q hq)]
 ·intro z;obtain⟨q,hq,e⟩:=List.mem_map.mp z;refine⟨_,List.mem_map.mpr ⟨q,hq,rfl⟩,?_⟩;simp only[decide_eq_true_eq];rw[e,jol hx]

def in_d      (g:G a=some (.dK kvs)):inU (.str x) (.loc a) G φ=φ (dGet kvs (.inr x)).isSome:=by
 unfold inU;dsimp only;rw[g];rfl
def jp2   {R S:Prop}(hR:R)(hS:c=true->R->S):if c=true then S else R:=by
 split
 ·rename_i h;exact hS h hR
 ·exact hR
def jjQ     (hn:nm.Nodup)(hk:Ks nm ks)(hr:r<600)(hi:i<ws.length)(hp:2<=i->fitB nm (ks.map (·.1)) r ws (i-1)=true)
  (gt:G pt=some (.dK (tdK nm ks))) (gw:G pw=some (.lst (ws.map .str))) (q:Q (.bl (fitB nm (ks.map (·.1)) r ws i)) G):jac T (k+1) jeu [.int i,.tup (nm.map .str),.loc pt,.int r,.loc pw] G Q X:=by
 refine⟨rfl,?_⟩;simp! only[jbk,jae,Yaa,ix_l gw (jaM hi)];obtain _|i:=i
 ·rw[if_pos (by simp)]
  exact⟨jfa (by lia) (by lia),q⟩
 ·rw[if_neg (by simp;lia)]
  unfold fitB at q;rw[if_neg (by lia)]at q
  have h1:1<ws.length:=by lia
  have a1:atI (ws.map U.str) 1=some (.str (wd ws 1)):=jaM h1;by_cases hd:wd ws 1 = "-"
  ·by_cases h0:i=0
   ·subst h0;rw[if_pos ⟨rfl,hd⟩]at q;rw[if_pos (by simp)]
    show(if decide (wd ws 1 = "-")=true then _ else _)
    rw[if_pos (decide_eq_true hd)];exact q
   ·rw[if_neg (λz=>h0 (by lia)),if_pos hd]at q
    rw[if_neg (by simp;lia),ix_l gw a1]
    show(if decide (wd ws 1 = "-")=true then _ else _)
    rw[if_pos (decide_eq_true hd)];exact q
  ·rw[if_neg (λz=>hd z.2),if_neg hd]at q;refine jp2 ?_ λhc h=>?_
   ·rw[ix_l gw a1];show(if decide (wd ws 1 = "-")=true then _ else _)
    rw[if_neg (by simpa using hd)]
    refine in_t ?_;by_cases hm:wd ws (i+1)∈nm
    ·rw[if_neg (λz=>z hm)]at q;rw[decide_eq_true hm,if_neg (by simp),in_d gt,jpf hn hk hm]
     by_cases ht:nm.idxOf (wd ws (i+1))∈ks.map (·.1)
     ·rw[if_pos ht]at q;rw[decide_eq_true ht,if_pos rfl];exact q
     ·rw[if_neg ht]at q;rw[decide_eq_false ht,if_neg (by simp)]
      obtain _|i:=i
      ·rw[if_pos (by simp)]
       rw[decide_eq_true (.inl rfl)]at q;exact q
      ·rw[if_neg (by simp;lia)]
       have hpm:wd ws (i+1)∈nm:=by
        have:=hp (by lia)
        unfold fitB at this;rw[show i+1+1-1=i+1 from rfl,if_neg (by lia),if_neg (λz=>hd z.2),if_neg hd]at this
        by_cases z:wd ws (i+1)∈nm
        ·exact z
        ·rw[if_pos z]at this;cases this
       have e2:((i+1+1:Nat):Int)-1=((i+1:Nat):Int):=by lia
       show ixU _ _ _ _;rw[e2,ix_l gw (jaM (by lia))]
       refine jiA hpm ?_;show jau _ _ _ _ _;refine jiA hm ?_;show Q (.bl (decide ((nm.idxOf (wd ws (i+1)):Int)<(nm.idxOf (wd ws (i+1+1)):Int)))) G;have e3:decide ((nm.idxOf (wd ws (i+1)):Int)<(nm.idxOf (wd ws (i+1+1)):Int))=decide (i+1+1=1\/nm.idxOf (wd ws (i+1+1-1))<nm.idxOf (wd ws (i+1+1))):=by
        rw[show i+1+1-1=i+1 from rfl];simp
       rw[e3];exact q
    ·rw[if_pos hm]at q;rw[decide_eq_false hm,if_pos (by simp)]
     exact q
   ·have h0:i=0:=by
     have:(i:Int)+1=1:=by simpa using hc
     lia
    subst h0;show(if decide (wd ws 1 = "-")=true then _ else _)
    rw[if_neg (by simpa using hd)]
    exact h

def FwB  (nm:List Str)(tl:List Nat)(r:Nat)(ws:List Str):Option Nat->Prop
 |some i=>(∀j,j<i->fitB nm tl r ws j=true)/\((i<ws.length/\fitB nm tl r ws i=false)\/(i=ws.length/\ws.length<2))
 |none=>(∀j,j<ws.length->fitB nm tl r ws j=true)/\2<=ws.length
def FwB.uniq      : ∀{o o' },FwB nm tl r ws o->FwB nm tl r ws o'->o=o'
 |some i,some i',⟨h1,h2⟩,⟨h1',h2'⟩=>by
  rcases Yef i i' with h|h|h
  ·have:=h1' i h;rcases h2 with⟨_,e⟩|⟨e,l⟩
   ·rw[this]at e;cases e
   ·rcases h2' with⟨l',_⟩|⟨l',_⟩<;>lia
  ·rw[h]
  ·have:=h1 i' h;rcases h2' with⟨_,e⟩|⟨e,l⟩
   ·rw[this]at e;cases e
   ·rcases h2 with⟨l',_⟩|⟨l',_⟩<;>lia
 |some i,none,⟨_,h2⟩,⟨h1',h2'⟩=>by
  rcases h2 with⟨l,e⟩|⟨e,l⟩
  ·rw[h1' i l]at e;cases e
  ·lia
 |none,some i,⟨h1',h2'⟩,⟨_,h2⟩=>by
  rcases h2 with⟨l,e⟩|⟨e,l⟩
  ·rw[h1' i l]at e;cases e
  ·lia
 |none,none,_,_=>rfl

def jdH     (hn:nm.Nodup)(hk:Ks nm ks)(hr:r<600)(hw:ws.length<=10000)
  (gt:G pt=some (.dK (tdK nm ks))) (gw:G pw=some (.lst (ws.map .str))) (q:∀o,FwB nm (ks.map (·.1)) r ws o->Q (oN o) G):jac T (k+3) jcz [.tup (nm.map .str),.loc pt,.int r,.loc pw] G Q X:=by
 refine⟨rfl,?_⟩;simp! only[jbC,jae,Yaa];refine⟨rfl,?_⟩;simp! only[jbi,jae,Yaa,jaR gw];have hs:(10000:Nat)<=Yaf:=by decide
 refine⟨by lia,by simp;lia,?_⟩
 refine jaq (λi ς G'=>(∃o,ς=[some (.tup (nm.map .str)),some (.loc pt),some (.int r),some (.loc pw),some (.loc pw),some (.int 2),o])/\G'=G/\∀j,j<i->fitB nm (ks.map (·.1)) r ws j=true) ?_ ?_ ⟨⟨_,rfl⟩,rfl,λ_ h=>absurd h (Ybj _)⟩
 ·rintro ς G1 ⟨⟨o,rfl⟩,rfl,hf⟩;have hf:∀j,j<ws.length->fitB nm (ks.map (·.1)) r ws j=true:=λj hj=>hf j (by unfold rngU;simpa using hj)
  simp! only[jaR gw];refine⟨trivial,?_⟩;by_cases h2:ws.length<2
  ·rw[if_pos (by simpa using (by exact_mod_cast h2))]
   have:=q (some ws.length) ⟨hf,.inr ⟨rfl,h2⟩⟩;simpa[oN]using this
  ·rw[if_neg (by simp;lia)]
   exact q none ⟨hf,by lia⟩
 ·rintro i x ς G1 K hx ⟨⟨o,rfl⟩,rfl,hf⟩ hk';obtain⟨hi,rfl⟩:=jaK hx;have hi:i<ws.length:=by simpa using hi
  simp! only[];refine⟨trivial,?_⟩;refine jjQ hn hk hr hi (λh=>hf _ (by lia)) gt gw ?_
  rw[jcY];cases hb:fitB nm (ks.map (·.1)) r ws i
  ·rw[if_pos (by simp)]
   exact q (some i) ⟨hf,.inl ⟨hi,hb⟩⟩
  ·rw[if_neg (by simp)]
   refine hk' _ _ ⟨⟨_,rfl⟩,rfl,λj hj=>?_⟩;rcases Nat.lt_succ_iff_lt_or_eq.mp hj with h|h
   ·exact hf j h
   ·rw[h];exact hb

noncomputable def tl1  (nm:List Str)(r:Nat)(ws:List Str):List (Nat×Int):=if wd ws 1 = "-" then [] else ws.tail.map λw=>(nm.idxOf w,(r:Int))
noncomputable def stK  (nm:List Str)(rows:List (List Str))(m:Nat):List (Nat×Int):=(YaH m).flatMap λr=>tl1 nm r (rows.getD r [])
def jhD     : stK nm rows (m+1)=stK nm rows m++tl1 nm m (rows.getD m []):=by
 unfold stK;rw[YbL,List.flatMap_append];simp
section
variable {nm:List Str}{tl:List Nat}{r m:Nat}{ws:List Str}
def jhK  (h:∀j,j<m->fitB nm tl r ws j=true)(hd:wd ws 1 ≠ "-")(h1:1<=i)(hi:i<m):wd ws i∈nm/\nm.idxOf (wd ws i)∉tl/\(i=1\/nm.idxOf (wd ws (i-1))<nm.idxOf (wd ws i)):=by
 have:=h i hi;unfold fitB at this;rw[if_neg (by lia),if_neg (λz=>hd z.2),if_neg hd]at this
 by_cases a:wd ws i∈nm
 ·rw[if_neg (λz=>z a)]at this;by_cases b:nm.idxOf (wd ws i)∈tl
  ·rw[if_pos b]at this;cases this
  ·rw[if_neg b]at this;exact⟨a,b,of_decide_eq_true this⟩
 ·rw[if_pos a]at this;cases this
theorem jgs  (h:∀j,j<m->fitB nm tl r ws j=true)(hd:wd ws 1 ≠ "-"):∀b a ,1<=a->a<b->b<m->nm.idxOf (wd ws a)<nm.idxOf (wd ws b)
 |0,_,_,h2,_=>absurd h2 (Ybj _)
 |b+1,a,h1,h2,h3=>by
  rcases(jhK h hd (i:=b+1) (by lia) h3).2.2 with z|z
  ·lia
  ·rw[Nat.add_sub_cancel]at z;by_cases e:a=b
   ·rw[e];exact z
   ·exact Ydw (jgs h hd b a h1 (by lia) (by lia)) z
def jbP    hj:ws.tail[j]=wd ws (j+1):=by
 have:j+1<ws.length:=by rw[Ycm]at hj;lia
 unfold wd;rw[List.getElem_tail,YaL,YaF this];rfl
def jmP {ks:List (Nat×Int)}(hk:Ks nm ks)(h:FwB nm (ks.map (·.1)) r ws none):Ks nm (ks++tl1 nm r ws):=by
 unfold tl1;by_cases hd:wd ws 1 = "-"
 ·rw[if_pos hd,YbM];exact hk
 ·rw[if_neg hd];have hm:∀w∈ws.tail,w∈nm/\nm.idxOf w∉ks.map (·.1):=λw hw=>by
   obtain⟨j,hj,rfl⟩:=List.mem_iff_getElem.mp hw;have:j+1<ws.length:=by rw[Ycm]at hj;lia
   rw[jbP hj];have:=jhK h.1 hd (i:=j+1) (by lia) this
   exact⟨this.1,this.2.1⟩
  refine⟨λp hp=>?_,?_⟩
  ·rcases List.mem_append.mp hp with hp|hp
   ·exact hk.lt p hp
   ·obtain⟨w,hw,rfl⟩:=List.mem_map.mp hp;exact Yb6 (hm w hw).1
  ·rw[Yav,Ybp,Yga];refine⟨hk.nd,?_,λa ha b hb e=>?_⟩
   ·have:(ws.tail.map ((λp:Nat×Int=>p.1) ∘ λw=>(nm.idxOf w,(r:Int)))).Pairwise (·< ·):=by
     rw[List.pairwise_iff_getElem];intro i j hi hj hij;rw[Yae]at hi hj;rw[Ydj,Ydj];show nm.idxOf ws.tail[i]<nm.idxOf ws.tail[j];rw[jbP hi,jbP hj];exact jgs h.1 hd _ _ (by lia) (by lia) (by rw[Ycm]at hj;lia)
    exact this.imp λh=>YaI h
   ·obtain⟨w,hw,rfl⟩:=List.mem_map.mp hb;have e:a=nm.idxOf w:=e;exact(hm w hw).2 (by rw[<- e];exact ha)
end
def jcJ  (nm:List Str)(n:Nat)(rows:List (List Str))(m:Nat):Prop:=∀j,j<m->j<n/\FwB nm ((stK nm rows j).map (·.1)) j (rows.getD j []) none
theorem jcJ.ks     : ∀{m },jcJ nm n rows m->Ks nm (stK nm rows m)
 |0,_=>⟨λ_ h=>(nomatch h),List.nodup_nil⟩
 |m+1,h=>by
  rw[jhD];exact jmP (jcJ.ks λj hj=>h j (by lia)) (h m (by lia)).2
def jcJ.sn      (h:jcJ nm n rows m)(h1:m<n)(h2:FwB nm ((stK nm rows m).map (·.1)) m (rows.getD m []) none):jcJ nm n rows (m+1):=λj hj=>by
 rcases Nat.lt_succ_iff_lt_or_eq.mp hj with z|z
 ·exact h j z
 ·rw[z];exact⟨h1,h2⟩
def jdO  (nm:List Str)(n:Nat)(rows:List (List Str))(row w:Nat):Prop:=
 jcJ nm n rows row/\((row<rows.length/\((n<=row/\w=0)\/(row<n/\FwB nm ((stK nm rows row).map (·.1)) row (rows.getD row []) (some w))))\/
  (row=rows.length/\w=0/\(rows.length<n\/(stK nm rows rows.length).length<nm.length)))
def jhs  (nm:List Str)(n:Nat)(rows:List (List Str)):Prop:=jcJ nm n rows rows.length/\¬(rows.length<n\/(stK nm rows rows.length).length<nm.length)
def jdO.uniq      (h:jdO nm n rows a b)(h':jdO nm n rows a' b'):a=a'/\b=b':=by
 have key:∀{a b a' b':Nat},jdO nm n rows a b->jdO nm n rows a' b'->¬a<a':=λ{a b a' b'} h h' hl=>by
  obtain⟨h1,h2⟩:=h.2 |> λz=>(⟨h'.1 a hl,z⟩:_/\_);rcases h2 with⟨_,⟨z,_⟩|⟨_,z⟩⟩|⟨z,_,_⟩
  ·lia
  ·have:=z.uniq h1.2;cases this
  ·rcases h'.2 with⟨y,_⟩|⟨y,_⟩<;>lia
 have e:a=a':=by
  have:=key h h';have:=key h' h
  lia
 subst e;refine⟨rfl,?_⟩;rcases h.2 with⟨l,z⟩|⟨l,z,_⟩
 ·rcases h'.2 with⟨l',z'⟩|⟨l',z',_⟩
  ·rcases z with⟨y,z⟩|⟨y,z⟩
   ·rcases z' with⟨y',z'⟩|⟨y',z'⟩
    ·rw[z,z']
    ·lia
   ·rcases z' with⟨y',z'⟩|⟨y',z'⟩
    ·lia
    ·exact Yan (z.uniq z')
  ·lia
 ·rcases h'.2 with⟨l',z'⟩|⟨l',z',_⟩
  ·lia
  ·rw[z,z']
def jhs.not      (h:jhs nm n rows)(h':jdO nm n rows a b):False:=by
 rcases h'.2 with⟨l,⟨y,_⟩|⟨_,y⟩⟩|⟨_,_,y⟩
 ·have:=(h.1 a l).1;lia
 ·have:=y.uniq (h.1 a l).2;cases this
 ·exact h.2 y

theorem jif  {α:Type}[DecidableEq α]:∀{a b:List α},a.Nodup->(∀x∈a,x∈b)->a.length<=b.length
 |[],_,_,_=>Ybh _
 |x::a,b,h,hs=>by
  have hx:=hs x (Yat ..);have:=jif (a:=a) (b:=b.erase x) (List.nodup_cons.mp h).2 λy hy=>(List.mem_erase_of_ne (λz:y=x=>(List.nodup_cons.mp h).1 (by rw[<- z];exact hy))).mpr (hs y (Yah _ hy))
  rw[List.length_erase_of_mem hx]at this;have:=List.length_pos_of_mem hx;simp only[Ybd]
  lia
section
variable {nm:List Str}{ks:List (Nat×Int)}
noncomputable def vz  (ks:List (Nat×Int))(j:Nat):Int:=((ks.find? λp=>decide (p.1=j)).map (·.2)).getD 0
def Ks.le  (h:Ks nm ks):ks.length<=nm.length:=by
 have:=jif (b:=YaH nm.length) h.nd λx hx=>by
  obtain⟨p,hp,rfl⟩:=List.mem_map.mp hx;exact List.mem_range.mpr (h.lt p hp)
 simpa using this
def Ks.all  (h:Ks nm ks)(hl:nm.length<=ks.length)(hj:j<nm.length):j∈ks.map (·.1):=by
 refine Ybw λz=>?_;have:=jif (a:=j::ks.map (·.1)) (b:=YaH nm.length) (List.nodup_cons.mpr ⟨z,h.nd⟩) λx hx=>by
  rcases YaG.mp hx with rfl|hx
  ·exact List.mem_range.mpr hj
  ·obtain⟨p,hp,rfl⟩:=List.mem_map.mp hx;exact List.mem_range.mpr (h.lt p hp)
 simp at this
 lia
def jla  (hn:nm.Nodup)(h:∀p∈ks,p.1<nm.length)(hw:∀p∈ks,p.1≠nm.idxOf w):∀q∈tdK nm ks,q.1≠.inr w:=λq hq z=>by
 obtain⟨p,hp,rfl⟩:=List.mem_map.mp hq;have z:nm.getD p.1 "" = w:=by simpa using z
 exact hw p hp (by rw[<- z,jj1 hn (h p hp)])
def jmQ  (hn:nm.Nodup)(h:Ks nm ks)(hj:j∈ks.map (·.1)):dGet (tdK nm ks) (.inr (nm.getD j ""))=some (.int (vz ks j)):=by
 have:∀{ks:List (Nat×Int)},(∀p∈ks,p.1<nm.length)->j<nm.length->j∈ks.map (·.1)->dGet (tdK nm ks) (.inr (nm.getD j ""))=some (.int (vz ks j)):=λ{ks}=>by
  induction ks with
  |nil=>intro _ _ h;exact nomatch h
  |cons p r ih=>
   intro hl hj' hj;by_cases e:p.1=j
   ·simp[dGet,tdK,vz,e]
   ·have ne:nm.getD p.1 "" ≠ nm.getD j "" := λz=>e (by rw[<- jj1 hn (hl p (Yat ..)),z,jj1 hn hj'])
    have:=ih (λq hq=>hl q (Yah _ hq)) hj' (by simpa[Ne.symm e]using hj)
    unfold dGet tdK vz at this ⊢;rw[Yas,YcA (by simpa using ne),YcA (by simpa using e)]
    exact this
 obtain⟨p,hp,e⟩:=List.mem_map.mp hj;exact this h.lt (by rw[<- e];exact h.lt p hp) hj
def jkR {j:Nat}(hj:j∈ks.map (·.1)):dGet (btK ks) (.inl (j:Int))=some (.int (vz ks j)):=by
 induction ks with
 |nil=>exact nomatch hj
 |cons p r ih=>
  by_cases e:p.1=j
  ·simp[dGet,btK,vz,e]
  ·have:=ih (by simpa[Ne.symm e]using hj)
   unfold dGet btK vz at this ⊢;rw[Yas,YcA (by simp;lia),YcA (by simpa using e)]
   exact this
end



def en_l     (g:G a=some (.lst xs)):enI (.loc a) G φ=φ (jeD 0 xs) λG'=>lsG G' a=some xs:=by
 have:lsG G a=some xs:=by unfold lsG;rw[g]
 unfold enI;dsimp only;rw[this]
def jgU   {x:Key}{v:U}(h:∀p∈kvs,p.1≠x):dPut kvs x v=kvs++[(x,v)]:=by
 unfold dPut;rw[if_neg (by
  rw[Ygt];rintro⟨p,hp,e⟩;exact h p hp (by simpa using e))]
def jn7    (g:G a=some (.dK kvs)):lenU [.loc a] G Q=Q (.int kvs.length) G:=by
 unfold lenU;dsimp only;rw[g]
def jom   : isU .non .non φ=φ true:=rfl
def jmf    : isU (.int i) .non φ=φ false:=rfl
def gl0   : glU T.gs 5 φ=φ (.str "-"):=rfl
noncomputable def bsZ  (nm:List Str)(rows:List (List Str)):List Int:=(YaH nm.length).map λj=>vz (stK nm rows rows.length) j
def jhL    hi:(jan ls).getD i []=Ya1 ls[i] " " := by
 unfold jan;rw[YaL,Yay,YaF hi];rfl
def jdF  {nm: List Str}{ss: List Spn}(hn:nm.Nodup)(hd:∀x∈nm,x ≠ "-")(h8:nm.length<=8)(h6:n<=600)(hl:ls.length<=20000)(hb:∀x∈ls,x.length<=9000)(gl:G pl=some (.lst (ls.map .str)))
  (q:jhs nm n (jan ls)->∀G' ,Sa G G'->Q (.tup ((bsZ nm (jan ls)).map .int)) G') (x:∀a b,jdO nm n (jan ls) a b->∀G' ,Sa G G'->X ⟨4,[.int a,.int b]⟩ G') :
  jac T (k+4) jcy [.tup [.tup (nm.map .str),.tup (ss.map Spn.u)],.int n,.loc pl] G Q X:=by
 refine⟨rfl,?_⟩;have e1:atI [U.tup (nm.map U.str),U.tup (ss.map Spn.u)] 0=some (U.tup (nm.map U.str)):=jdN _ _;have rl:(jan ls).length=ls.length:=Yae _;simp! only[jcC,jae,Yaa,ix_t e1];refine⟨by decide,λp1 G1 n1=>?_⟩
 have g1:=n1.sa _ _ gl;dsimp only;rw[en_l g1];refine jaq (λi ς G'=>(∃o5 o6 o7 o8 o9,ς=[some (.tup [.tup (nm.map .str),.tup (ss.map Spn.u)]),some (.int n),some (.loc pl),some (.tup (nm.map .str)),some (.loc p1),o5,o6,o7,o8,o9])/\Sa G G'/\G' p1=some (.dK (tdK nm (stK nm (jan ls) i)))/\jcJ nm n (jan ls) i) ?_ ?_ ⟨⟨_,_,_,_,_,rfl⟩,n1.sa,n1.at,λ_ h=>absurd h (Ybj _)⟩
 ·rintro ς G2 ⟨⟨o5,o6,o7,o8,o9,rfl⟩,s2,g2,hg⟩;have gl2:=s2 _ _ gl;rw[jeB,Yae]at g2 hg;have hk:=hg.ks;have tl:(tdK nm (stK nm (jan ls) ls.length)).length=(stK nm (jan ls) ls.length).length:=Yae _;refine⟨by unfold lsG;rw[gl2],?_⟩
  simp! only[jaR gl2,jn7 g2];have bad:(ls.length<n\/(stK nm (jan ls) ls.length).length<nm.length)->X ⟨4,[.int ls.length,.int 0]⟩ G2:=λz=>x ls.length 0 ⟨hg,.inr ⟨rl.symm,rfl,by rw[rl];exact z⟩⟩ G2 s2
  by_cases z1:ls.length<n
  ·rw[if_pos (by simpa using z1)]
   exact⟨rfl,by rw[Yae];exact bad (.inl z1)⟩
  ·rw[if_neg (by simp;lia)]
   by_cases z2:(stK nm (jan ls) ls.length).length<nm.length
   ·rw[if_pos (by rw[tl];simpa using z2)]
    exact⟨rfl,by rw[Yae];exact bad (.inr z2)⟩
   ·rw[if_neg (by rw[tl];simp;lia)]
    have hR:jhs nm n (jan ls):=⟨by rw[rl];exact hg,by rw[rl];exact λz=>z.elim z1 z2⟩
    refine⟨by rw[Yae];exact Yai h8 (by decide),?_⟩
    refine ja1 (λi acc G'=>G'=G2/\acc=((YaH i).map λj=>vz (stK nm (jan ls) ls.length) j).map .int) ?_ ?_ ⟨rfl,rfl⟩
    ·rintro acc G3 ⟨rfl,rfl⟩;refine⟨trivial,λp4 G4 n4=>?_⟩;simp! only[it_l n4.at];have:=q hR G4 (s2.trans n4.sa);unfold bsZ at this;rw[rl]at this;rw[Yae];exact this
    ·rintro i y acc G3 K hx ⟨rfl,rfl⟩ hk' _;have hi:i<nm.length:=by have:=(List.getElem?_eq_some_iff.mp hx).1;simpa using this
     have eu:y=.str (nm.getD i ""):=by
      have:(nm.map U.str)[i]?=some (.str (nm.getD i "")):=by simp[hi]
      rw[hx]at this;exact Yan this
     subst eu;refine⟨trivial,?_⟩;simp! only[ix_d g2 (jmQ hn hk (hk.all (by omega) hi))]
     refine hk' _ _ ⟨rfl,?_⟩;rw[YbL,Yav,Yav];rfl
 ·rintro i u ς G2 K hx ⟨⟨o5,o6,o7,o8,o9,rfl⟩,s2,g2,hg⟩ hk';obtain⟨u,hu,rfl⟩:=jeC hx;have hi:i<ls.length:=by have:=(List.getElem?_eq_some_iff.mp hu).1;simpa using this
  have eu:u=.str ls[i]:=by
   have:(ls.map U.str)[i]?=some (.str ls[i]):=by simp[hi]
   rw[hu]at this;exact Yan this
  subst eu;rw[YcI];have gl2:=s2 _ _ gl;have hk:=hg.ks;have er:=jhL hi;have hsum:=jay ls[i];have hlen:=hb _ (YbA hi);simp! only[];refine⟨by unfold lsG;rw[gl2],trivial,?_⟩
  refine jc7 hlen λp3 G3 hp3 s3 g3=>?_;have g31:=s3 _ _ g2;by_cases hin:i<n
  ·rw[if_pos (by simpa using hin)]
   refine jdH hn hk (by lia) (by lia) g31 g3 λo ho=>?_
   cases o with
   |some w=>
    show isU (.int w) .non _;rw[jmf,if_pos (show(!false)=true from rfl)];exact⟨rfl,x i w ⟨hg,.inl ⟨by rw[rl];exact hi,.inr ⟨hin,by rw[er];exact ho⟩⟩⟩ G3 (s2.trans s3)⟩
   |none=>
    show isU .non .non _;rw[jom,if_neg (by simp),sl_l g3,jbT,show(some (1:Int))=some ((1:Nat):Int)from rfl,jcW,List.drop_one]
    have hg':jcJ nm n (jan ls) (i+1):=hg.sn hin (by rw[er];exact ho)
    have est:stK nm (jan ls) (i+1)=stK nm (jan ls) i++tl1 nm i (Ya1 ls[i] " "):=by rw[jhD,er]
    obtain⟨ws,ews⟩:∃ws,ws=Ya1 ls[i] " " := ⟨_,rfl⟩;rw[<- ews]at ho est ⊢;intro p4 G4 n4;have g41:=n4.sa _ _ g31;have h41:p4≠p1:=jdb g31 n4.no;have s4:Sa G G4:=s2.trans (s3.trans n4.sa);have ne1:∀{b o},G b=some o->b≠p1:=λ{b o} h z=>by rw[z,n1.no]at h;cases h
    rw[it_l n4.at];by_cases hw:wd ws 1 = "-"
    ·have et:stK nm (jan ls) (i+1)=stK nm (jan ls) i:=by rw[est];unfold tl1;rw[if_pos hw,YbM]
     have l2:ws.length=2:=by
      have h2:=ho.2;by_cases z:2<ws.length
      ·have:=ho.1 2 z;unfold fitB at this;rw[if_neg (by lia),if_neg (λz=>absurd z.1 (by lia)),if_pos hw]at this
       cases this
      ·lia
     have et2:ws.tail=(["-"]:List Str):=by
      match ws,l2,hw with
      |[a,b],_,hw=>exact congrArg (λz=>[z]) hw
     rw[et2];refine jaq (λj ς G'=>(∃o9,ς=[some (.tup [.tup (nm.map .str),.tup (ss.map Spn.u)]),some (.int n),some (.loc pl),some (.tup (nm.map .str)),some (.loc p1),some (.int i),some (.str ls[i]),some (.loc p3),some .non,o9])/\G'=G4) ?_ ?_ ⟨⟨_,rfl⟩,rfl⟩
     ·rintro ς G5 ⟨⟨o,rfl⟩,rfl⟩;exact⟨by unfold lsG;rw[n4.at,et2],hk' _ _ ⟨⟨_,_,_,_,_,rfl⟩,s4,by rw[et];exact g41,hg'⟩⟩
     ·rintro j y ς G5 K' hy ⟨⟨o,rfl⟩,rfl⟩ hk2;have ey:y=.str "-" := by
       have hm:=Ya2 hy;simpa using hm
      subst ey;refine⟨by unfold lsG;rw[n4.at,et2],?_⟩
      simp! only[gl0,jes];rw[if_neg (by simp)]
      exact hk2 _ _ ⟨⟨_,rfl⟩,rfl⟩
    ·have et:tl1 nm i ws=ws.tail.map λw=>(nm.idxOf w,(i:Int)):=by unfold tl1;rw[if_neg hw]
     rw[et]at est;refine jaq (λj ς G'=>(∃o9,ς=[some (.tup [.tup (nm.map .str),.tup (ss.map Spn.u)]),some (.int n),some (.loc pl),some (.tup (nm.map .str)),some (.loc p1),some (.int i),some (.str ls[i]),some (.loc p3),some .non,o9])/\(∀b o,b≠p1->G4 b=some o->G' b=some o)/\G' p1=some (.dK (tdK nm (stK nm (jan ls) i++(ws.tail.take j).map λw=>(nm.idxOf w,(i:Int)))))) ?_ ?_ ⟨⟨_,rfl⟩,λ_ _ _ h=>h,by rw[g41];simp⟩
     ·rintro ς G5 ⟨⟨o,rfl⟩,s5,g5⟩;refine⟨by unfold lsG;rw[s5 _ _ h41 n4.at],hk' _ _ ⟨⟨_,_,_,_,_,rfl⟩,λb o h=>s5 b o (ne1 h) (s4 b o h),?_,hg'⟩⟩
      rw[g5,est,Yae,Ygo]
     ·rintro j y ς G5 K' hy ⟨⟨o,rfl⟩,s5,g5⟩ hk2;have hj:j<ws.tail.length:=by have:=(List.getElem?_eq_some_iff.mp hy).1;simpa using this
      have hj':j+1<ws.length:=by rw[Ycm]at hj;lia
      have ej:ws.tail[j]?=some (wd ws (j+1)):=by rw[YaF hj,jbP hj]
      have ey:y=.str (wd ws (j+1)):=by
       rw[Yay,ej]at hy;exact(Yan hy).symm
      subst ey;obtain⟨hm,ht,_⟩:=jhK ho.1 hw (i:=j+1) (by lia) hj'
      have hk5:Ks nm (stK nm (jan ls) i++(ws.tail.take j).map λw=>(nm.idxOf w,(i:Int))):=by
       have hK:=hg'.ks;rw[est]at hK;have sub:(stK nm (jan ls) i++(ws.tail.take j).map λw=>(nm.idxOf w,(i:Int))).Sublist (stK nm (jan ls) i++ws.tail.map λw=>(nm.idxOf w,(i:Int))):=(List.Sublist.refl _).append ((YcB _ _).map _);exact⟨λp hp=>hK.lt p (sub.subset hp),hK.nd.sublist (sub.map _)⟩
      refine⟨by unfold lsG;rw[s5 _ _ h41 n4.at],?_⟩
      simp! only[gl0,jes];rw[if_pos (by simpa using hd _ hm),jjv g5]
      have hnew:=jla hn hk5.lt (w:=wd ws (j+1)) λp hp z=>by
       rcases List.mem_append.mp hp with hp|hp
       ·exact ht (by rw[<- z];exact YdH hp)
       ·obtain⟨v,hv,rfl⟩:=List.mem_map.mp hp;obtain⟨a,ha,rfl⟩:=List.mem_iff_getElem.mp hv;rw[Ya6]at ha;rw[Yd6,jbP (by lia)]at z
        have:=jgs ho.1 hw (j+1) (a+1) (by lia) (by lia) hj'
        have z:nm.idxOf (wd ws (a+1))=nm.idxOf (wd ws (j+1)):=z
        lia
      refine⟨?_,λG6 w6=>hk2 _ _ ⟨⟨_,rfl⟩,λb o hb h=>w6.sm b o hb (s5 b o hb h),?_⟩⟩
      ·have:=hk5.le;unfold tdK;rw[Yae];exact YaV (show _<=8 by lia) (by decide)
      ·rw[w6.at,jgU hnew,jcf ej,Yav,<- Ydc];unfold tdK;rw[Yav (l₂:=List.map _ [wd ws (j+1)])];simp only[Yas,YcY,jol hm]
  ·rw[if_neg (by simpa using hin),jmf,if_pos (show(!false)=true from rfl)]
   exact⟨rfl,x i 0 ⟨hg,.inl ⟨by rw[rl];exact hi,.inl ⟨by lia,rfl⟩⟩⟩ G3 (s2.trans s3)⟩

section
variable {k n:Nat}{G:Gp}{Q:K1}{X:KX}{nm:List Str}{ss:List Spn}{ls:List Str}
structure AnB (nm:List Str)(n:Nat)(ls:List Str)(G:Gp)(Q:K1):Prop where
 r:jhs nm n (jan ls)->∀G',Sa G G'->Q (.tup ((bsZ nm (jan ls)).map .int)) G'
 f:∀a b,jdO nm n (jan ls) a b->∀p G',Sa G G'->G' p=some (.lst [.int a,.int b])->Q (.loc p) G'
def jh8   (hn:nm.Nodup)(hd:∀x∈nm,x ≠ "-")(h8:nm.length<=8)(h6:n<=600)(hl:ls.length<=20000)(hb:∀x∈ls,x.length<=9000)(gl:G pl=some (.lst (ls.map .str)))
  (q:AnB nm n ls G Q):jac T (k+5) jbq [.tup [.tup (nm.map .str),.tup (ss.map Spn.u)],.int n,.loc pl] G Q X:=by
 refine⟨rfl,?_⟩;simp! only[jbt,jae,Yaa];refine jdF (k:=k) hn hd h8 h6 hl hb gl (λhR G1 s1=>?_) (λa b hF G1 s1=>⟨.inl trivial,?_⟩)
 ·simp! only[];exact q.r hR G1 s1
 ·simp[hsH,hvH,jbL,lit1,litH,atsH,atH,clsF,clsA,-Yd1];intro p G2 n2;exact q.f a b hF p G2 (s1.trans n2.sa) n2.at
def jop   z (l:List Int):((l.map U.int).any λy=>eqF y (.int z))=decide (z∈l):=by
 rw[Ya5,Ygt,decide_eq_true_eq];constructor
 ·rintro⟨y,hy,e⟩;obtain⟨x,hx,rfl⟩:=List.mem_map.mp hy;have:x=z:=by simpa[eqF]using e
  rw[<- this];exact hx
 ·intro h;exact⟨.int z,List.mem_map.mpr ⟨z,h,rfl⟩,by simp[eqF]⟩
noncomputable def nU  (l:List Nat):List U:=(l.map λj:Nat=>(j:Int)).map .int
def in_n      (g:G a=some (.lst (nU l)))(h:φ (decide (z∈l.map λj:Nat=>(j:Int)))):inU (.int z) (.loc a) G φ:=by
 refine in_l g rfl (by unfold nU;simp[flat]) ?_
 unfold nU;rw[jop];exact h
def jfR {r:Nat}{tl:List Nat}{pk pw:Addr}{ws:List Str}(hw:ws.length<=10000)(ht:tl.length<=8)(hkw:pw≠pk)(h1:1<=ws.length)(h0:wd ws 0=nstr r)(gk:G pk=some (.lst (nU tl)))(gw:G pw=some (.lst (ws.map .str)))
  (q:∀o G',FwB nm tl r ws o->(∀b m,b≠pk->G b=some m->G' b=some m)->(o=none->G' pk=some (.lst (nU (tl++(tl1 nm r ws).map (·.1)))))->Q (oN o) G'):jac T (k+1) jbM [.tup (nm.map .str),.loc pk,.loc pw] G Q X:=by
 have f0:fitB nm tl r ws 0=true:=by unfold fitB;rw[if_pos rfl];exact decide_eq_true h0
 refine⟨rfl,?_⟩;simp! only[jbN,jae,Yaa,jaR gw];by_cases l1:ws.length=1
 ·rw[if_pos (by simp[l1])]
  have:=q (some 1) G ⟨λj hj=>by rw[show j=0 by lia];exact f0,.inr ⟨l1.symm,by lia⟩⟩ (λ_ _ _ h=>h) (λz=>nomatch z)
  exact this
 rw[if_neg (by simp;lia)]
 have a1:atI (ws.map U.str) 1=some (.str (wd ws 1)):=jaM (j:=1) (by lia)
 simp! only[ix_l gw a1,jaR gw];show(if decide (wd ws 1 = "-")=true then _ else _)
 by_cases hd:wd ws 1 = "-"
 ·rw[if_pos (decide_eq_true hd)];have f1:fitB nm tl r ws 1=true:=by unfold fitB;rw[if_neg (by lia),if_pos ⟨rfl,hd⟩]
  have f01:∀j,j<2->fitB nm tl r ws j=true:=λj hj=>by
   rcases(show j=0\/j=1 by lia)with z|z<;>rw[z]
   ·exact f0
   ·exact f1
  by_cases l2:2<ws.length
  ·rw[if_pos (by simpa using (by exact_mod_cast l2))]
   refine q (some 2) G ⟨f01,.inl ⟨l2,?_⟩⟩ (λ_ _ _ h=>h) (λz=>nomatch z);unfold fitB;rw[if_neg (by lia),if_neg (λz=>absurd z.1 (by lia)),if_pos hd]
  ·rw[if_neg (by simp;lia)]
   refine q none G ⟨λj hj=>f01 j (by lia),by lia⟩ (λ_ _ _ h=>h) λ_=>?_
   unfold tl1;rw[if_pos hd,gk];simp
 ·rw[if_neg (by simpa using hd)]
  have e1:((((ws.map U.str).length:Int))-1).toNat=ws.length-1:=by rw[Yae];lia
  refine⟨by lia,by lia,by lia,by rw[Yae];lia,?_⟩
  rw[e1];refine jaq (λi ς G'=>(∃o4 o5,ς=[some (.tup (nm.map .str)),some (.loc pk),some (.loc pw),some (.int (if i=0 then -1 else (nm.idxOf (wd ws i):Int))),o4,o5])/\(∀b m,b≠pk->G b=some m->G' b=some m)/\G' pk=some (.lst (nU (tl++(ws.tail.take i).map nm.idxOf)))/\∀j,j<i+1->fitB nm tl r ws j=true) ?_ ?_ ⟨⟨_,_,rfl⟩,λ_ _ _ h=>h,by rw[gk];simp,λj hj=>by rw[show j=0 by lia];exact f0⟩
  ·rintro ς G1 ⟨⟨o4,o5,rfl⟩,s1,g1,hf⟩;have el:(rngU 1 (ws.length-1)).length=ws.length-1:=by unfold rngU;simp
   rw[el]at g1 hf;refine⟨trivial,?_⟩;simp! only[];refine q none G1 ⟨λj hj=>hf j (by lia),by lia⟩ s1 λ_=>?_
   unfold tl1;rw[if_neg hd,g1,Ybt (by rw[Ycm];exact Yag _),Ybp]
   rfl
  ·rintro i x ς G1 K hx ⟨⟨o4,o5,rfl⟩,s1,g1,hf⟩ hk';obtain⟨hi,rfl⟩:=jcQ hx;have gw1:=s1 _ _ hkw gw;have ai:atI (ws.map U.str) (1+(i:Int))=some (.str (wd ws (i+1))):=by
    rw[show 1+(i:Int)=((i+1:Nat):Int) by lia]
    exact jaM (by lia)
   refine⟨trivial,?_⟩;simp! only[ix_l gw1 ai];have e1i:1+(i:Int)=((i+1:Nat):Int):=by lia
   have stop:fitB nm tl r ws (i+1)=false->Q (.int (1+(i:Int))) G1:=λz=>by
    rw[e1i];exact q (some (i+1)) G1 ⟨hf,.inl ⟨by lia,z⟩⟩ s1 (λz=>nomatch z)
   have fe:fitB nm tl r ws (i+1)=if wd ws (i+1)∉nm then false else if nm.idxOf (wd ws (i+1))∈tl then false else decide (i+1=1\/nm.idxOf (wd ws i)<nm.idxOf (wd ws (i+1))):=by
    unfold fitB;rw[if_neg (by lia),if_neg (λz=>hd z.2),if_neg hd]
    rfl
   refine in_t ?_;by_cases hm:wd ws (i+1)∈nm
   ·rw[if_neg (λz=>z hm)]at fe;rw[decide_eq_true hm,if_pos rfl];show jau .index _ _ _ _;refine jiA hm ?_;rw[jew];by_cases hle:i+1=1\/nm.idxOf (wd ws i)<nm.idxOf (wd ws (i+1))
    ·have hne:¬((nm.idxOf (wd ws (i+1)):Int)<=if i=0 then -1 else (nm.idxOf (wd ws i):Int)):=by split<;>lia
     rw[decide_eq_false hne,if_neg (by simp)]
     refine in_n g1 ?_;have hmem:((nm.idxOf (wd ws (i+1)):Int)∈(tl++(ws.tail.take i).map nm.idxOf).map λj:Nat=>(j:Int))↔nm.idxOf (wd ws (i+1))∈tl:=by
      constructor
      ·intro z;obtain⟨j,hj,e⟩:=List.mem_map.mp z;have e:j=nm.idxOf (wd ws (i+1)):=by exact_mod_cast e
       subst e;rcases List.mem_append.mp hj with h|h
       ·exact h
       ·obtain⟨v,hv,e⟩:=List.mem_map.mp h;obtain⟨a,ha,rfl⟩:=List.mem_iff_getElem.mp hv;rw[Ya6]at ha;rw[Yd6,jbP (by lia)]at e
        exfalso;have:nm.idxOf (wd ws (a+1))<=nm.idxOf (wd ws i):=by
         by_cases z:a+1=i
         ·rw[z];exact Yag _
         ·exact YbQ (jgs hf hd i (a+1) (by lia) (by lia) (by lia))
        rcases hle with z|z<;>lia
      ·exact λz=>List.mem_map.mpr ⟨_,Ybm _ z,rfl⟩
     by_cases ht':nm.idxOf (wd ws (i+1))∈tl
     ·rw[decide_eq_true (hmem.mpr ht'),if_pos rfl];exact stop (by rw[fe,if_pos ht'])
     ·rw[decide_eq_false (λz=>ht' (hmem.mp z)),if_neg (by simp),jb4 g1]
      show jau .append _ _ _ _;rw[jeL g1];have hti:i<ws.tail.length:=by rw[Ycm];exact hi
      have ei:ws.tail[i]?=some (wd ws (i+1)):=by rw[YaF hti,jbP hti]
      refine⟨?_,λG2 w2=>hk' _ _ ⟨⟨_,_,by rw[if_neg (by lia)]⟩,λb m hb h=>w2.sm b m hb (s1 b m hb h),?_,λj hj=>?_⟩⟩
      ·have hz:(10010:Nat)<=Yaf:=by decide
       unfold nU;rw[Yae,Yae,YaA,Yae,Ya6]
       lia
      ·rw[w2.at,jcf ei,Yav,<- Ydc];unfold nU;simp
      ·rcases Nat.lt_succ_iff_lt_or_eq.mp hj with z|z
       ·exact hf j z
       ·rw[z,fe,if_neg ht'];exact decide_eq_true hle
    ·have hyes:(nm.idxOf (wd ws (i+1)):Int)<=if i=0 then -1 else (nm.idxOf (wd ws i):Int):=by rw[if_neg (by lia)];lia
     rw[decide_eq_true hyes,if_pos rfl];exact stop (by rw[fe,decide_eq_false hle];split<;>rfl)
   ·rw[if_pos hm]at fe;rw[decide_eq_false hm,if_neg (by simp),if_pos (decide_eq_true (by split<;>lia))]
    exact stop fe
end


def jpV    (g:G a=some (.dK (btK ks)))(q:newO G (.lst (nU (ks.map (·.1)))) Q):mkDU (.loc a) G Q:=by
 unfold mkDU;dsimp only;rw[g];refine⟨(ks.map λp:Nat×Int=>p.1).map λj:Nat=>(j:Int),?_,q⟩;unfold btK;rw[Ybp,Ybp,Ybp];rfl
def jmx   {j:Nat}(h:j∉ks.map (·.1)):dGet (btK ks) (.inl (j:Int))=none:=by
 unfold dGet btK;rw[Option.map_eq_none_iff,List.find?_eq_none];intro p hp;obtain⟨q,hq,rfl⟩:=List.mem_map.mp hp;intro z;have z:(q.1:Int)=(j:Int):=by simpa using z
 exact h (List.mem_map.mpr ⟨q,hq,by exact_mod_cast z⟩)
def jpU    (g:G a=some (.dK kvs)):mtU .setd (.loc a) G=some ("dict", "dict.setdefault"):=by unfold mtU;dsimp only;rw[g]
def jm6      (g:G a=some (.dK kvs))(hl:kvs.length<Yaf)(h:dGet kvs (.inl z)=some u)(q:Q u G):jau .setd (.loc a) [.int z,v] G Q:=by
 unfold jau jjs;dsimp only;rw[g];dsimp only[kU];rw[h];exact⟨hl,q⟩
def jm5      (g:G a=some (.dK kvs))(hl:kvs.length<Yaf)(h:dGet kvs (.inl z)=none)(q:putO G a (.dK (dPut kvs (.inl z) v)) (Q v)):jau .setd (.loc a) [.int z,v] G Q:=by
 unfold jau jjs;dsimp only;rw[g];dsimp only[kU];rw[h];exact⟨hl,q⟩
def jpY      (g:G a=some (.dK kvs))(h:dGet kvs (.inl z)=some u):ixU (.loc a) (.int z) G Q=Q u G:=by
 unfold ixU;dsimp only;rw[g];show(match dGet kvs (.inl z)with|some u=>Q u G|none=>False)=_
 rw[h]
def jnW     (h:(nU l)[j]?=some y):∃hj:j<l.length,y=.int (l[j]:Int):=by
 unfold nU at h;rw[Yay,Yay]at h;have hj:j<l.length:=Ybw λz=>by rw[YcG (by lia)]at h;cases h
 rw[YaF hj]at h;exact⟨hj,(Yan h).symm⟩
def jlW  {α:Type}{l:List α}(h:l.Nodup) hj:l[j]∉l.take j:=λz=>by
 obtain⟨a,ha,e⟩:=List.mem_iff_getElem.mp z;rw[Ya6]at ha;rw[Yd6]at e;have:=(Ygq (h₀:=by lia) (h₁:=hj) h).mp e
 lia
def jmT   (h:z.natAbs.log2<1920)(q:Q (.str (nstr z)) G):strU [.int z] G Q:=⟨h,q⟩
def jlS  {ss: List Spn}(hn:nm.Nodup)(h8:nm.length<=8)(h6:n<=600)(hl:ls.length<=20000)(hb:∀x∈ls,x.length<=9000)(gl:G pl=some (.lst (ls.map .str)))
  (q:AnB nm n ls G Q):jac T (k+2) jbz [.tup [.tup (nm.map .str),.tup (ss.map Spn.u)],.int n,.loc pl] G Q X:=by
 refine⟨rfl,?_⟩;have e1:atI [U.tup (nm.map U.str),U.tup (ss.map Spn.u)] 0=some (U.tup (nm.map U.str)):=jdN _ _;have rl:(jan ls).length=ls.length:=Yae _;have hs5:(30000:Nat)<=Yaf:=by decide
 simp! only[jbD,jae,Yaa];refine⟨by decide,λp1 G1 n1=>?_⟩
 have g1:=n1.sa _ _ gl;simp! only[jaR g1];refine⟨by lia,by simp;lia,?_⟩
 refine jaq (λi ς G'=>(∃o4 o5 o6 o7 o8,ς=[some (.tup [.tup (nm.map .str),.tup (ss.map Spn.u)]),some (.int n),some (.loc pl),some (.loc p1),o4,o5,o6,o7,o8])/\Sa G G'/\G' p1=some (.dK (btK (stK nm (jan ls) i)))/\jcJ nm n (jan ls) i) ?_ ?_ ⟨⟨_,_,_,_,_,rfl⟩,n1.sa,n1.at,λ_ h=>absurd h (Ybj _)⟩
 ·rintro ς G2 ⟨⟨o4,o5,o6,o7,o8,rfl⟩,s2,g2,hg⟩;have gl2:=s2 _ _ gl;have el:(rngU 0 ls.length).length=ls.length:=by unfold rngU;simp
  rw[Yae,el]at g2 hg;have hk:=hg.ks;have tl:(btK (stK nm (jan ls) ls.length)).length=(stK nm (jan ls) ls.length).length:=Yae _;simp! only[jaR gl2,jn7 g2,ix_t e1];refine⟨trivial,?_⟩;have bad:(ls.length<n\/(stK nm (jan ls) ls.length).length<nm.length)->newO G2 (MO.lst [U.int ls.length,U.int 0]) Q:=λz p G3 n3=>q.f ls.length 0 ⟨hg,.inr ⟨rl.symm,rfl,by rw[rl];exact z⟩⟩ p G3 (s2.trans n3.sa) n3.at
  rw[Yae,Yae];by_cases z1:ls.length<n
  ·rw[if_pos (by simpa using z1)]
   exact⟨by lia,bad (.inl z1)⟩
  ·rw[if_neg (by simp;lia)]
   by_cases z2:(stK nm (jan ls) ls.length).length<nm.length
   ·rw[if_pos (by rw[tl];simpa using z2)]
    exact⟨by lia,bad (.inr z2)⟩
   ·rw[if_neg (by rw[tl];simp;lia)]
    have hR:jhs nm n (jan ls):=⟨by rw[rl];exact hg,by rw[rl];exact λz=>z.elim z1 z2⟩
    have eln:(rngU 0 nm.length).length=nm.length:=by unfold rngU;simp
    refine⟨by lia,by lia,by rw[eln];lia,?_⟩
    refine ja1 (λi acc G'=>G'=G2/\acc=((YaH i).map λj=>vz (stK nm (jan ls) ls.length) j).map .int) ?_ ?_ ⟨rfl,rfl⟩
    ·rintro acc G3 ⟨rfl,rfl⟩;refine⟨trivial,λp4 G4 n4=>?_⟩;simp! only[it_l n4.at];have:=q.r hR G4 (s2.trans n4.sa);unfold bsZ at this;rw[rl]at this;rw[eln];exact this
    ·rintro i y acc G3 K hx ⟨rfl,rfl⟩ hk' _;obtain⟨hi,rfl⟩:=jaK hx;refine⟨trivial,?_⟩;rw[jpY g2 (jkR (hk.all (by lia) hi))]
     refine hk' _ _ ⟨rfl,?_⟩;rw[YbL,Yav,Yav];rfl
 ·rintro i u ς G2 K hx ⟨⟨o4,o5,o6,o7,o8,rfl⟩,s2,g2,hg⟩ hk';obtain⟨hi,rfl⟩:=jaK hx;have hi:i<ls.length:=by simpa using hi
  have gl2:=s2 _ _ gl;have hk:=hg.ks;have er:=jhL hi;have ai:atI (ls.map U.str) (i:Int)=some (.str ls[i]):=jbb (by simp[hi])
  simp! only[ix_l gl2 ai];refine⟨trivial,?_⟩;have hlen:=hb _ (YbA hi);have hsum:=jay ls[i];have w1:=jfI ls[i];show jau .split _ _ _ _;refine jee hlen λp3 G3 n3=>?_;have fin:∀w,jdO nm n (jan ls) i w->∀G':Gp,Sa G G'->newO G' (MO.lst [U.int i,U.int w]) Q:=λw hF G' s' p G4 n4=>q.f i w hF p G4 (s'.trans n4.sa) n4.at
  have s3:Sa G G3:=s2.trans n3.sa;by_cases hin:(n:Int)<=(i:Int)
  ·rw[if_pos (decide_eq_true hin)];exact⟨by lia,fin 0 ⟨hg,.inl ⟨by rw[rl];exact hi,.inl ⟨by lia,rfl⟩⟩⟩ G3 s3⟩
  rw[if_neg (by simpa using hin)]
  obtain⟨ws,ews⟩:∃ws,ws=Ya1 ls[i] " " := ⟨_,rfl⟩;rw[<- ews]at n3 er w1 hsum;have g3:=n3.at
  have a0:atI (ws.map U.str) 0=some (.str (wd ws 0)):=jaM (j:=0) (by lia)
  rw[ix_l g3 a0];refine jmT (z:=(i:Int)) (jfa (by lia) (by lia)) ?_
  rw[jes];by_cases h0:wd ws 0=nstr i
  ·rw[decide_eq_true h0,if_neg (by simp)]
   have g31:=n3.sa _ _ g2;have h31:p3≠p1:=jdb g2 n3.no;refine jpV g31 λp4 G4 n4=>?_;rw[ix_t e1];have h43:p3≠p4:=λz=>by rw[z,n4.no]at g3;cases g3
   have h41:p1≠p4:=λz=>by rw[z,n4.no]at g31;cases g31
   have g43:=n4.sa _ _ g3;have hk8:=hk.le;refine jfR (nm:=nm) (r:=i) (k:=k) (by lia) (by rw[Yae];lia) h43 w1 h0 n4.at g43 λo G5 ho s5 g5=>?_
   have s5':Sa G G5:=λb m h=>s5 b m (λz=>by have:=s3 _ _ h;rw[z,n4.no]at this;cases this) (n4.sa _ _ (s3 _ _ h))
   cases o with
   |some w=>
    show isU (.int w) .non _;rw[jmf,if_pos (show(!false)=true from rfl)];exact⟨by lia,fin w ⟨hg,.inl ⟨by rw[rl];exact hi,.inr ⟨by lia,by rw[er];exact ho⟩⟩⟩ G5 s5'⟩
   |none=>
    show isU .non .non _;rw[jom,if_neg (by simp)]
    have g5:=g5 rfl;have g51:=s5 _ _ h41 (n4.sa _ _ g31);have hg':jcJ nm n (jan ls) (i+1):=hg.sn (by lia) (by rw[er];exact ho)
    have est:stK nm (jan ls) (i+1)=stK nm (jan ls) i++tl1 nm i ws:=by rw[jhD,er]
    have hK:=hg'.ks;rw[est]at hK;have hKl:=hK.le;rw[YaA]at hKl;obtain⟨ks,eks⟩:∃ks,ks=stK nm (jan ls) i:=⟨_,rfl⟩;obtain⟨ts,ets⟩:∃ts,ts=tl1 nm i ws:=⟨_,rfl⟩;rw[<- eks,<- ets]at hK est hKl;rw[<- eks,<- ets]at g5;rw[<- eks]at g51;have tsn:∀p∈ts,p.2=(i:Int):=λp hp=>by
     rw[ets]at hp;unfold tl1 at hp;split at hp
     ·exact nomatch hp
     ·obtain⟨w,_,rfl⟩:=List.mem_map.mp hp;rfl
    obtain⟨al,eal⟩:∃al,al=ks++ts:=⟨_,rfl⟩;rw[<- Yav]at g5;rw[<- eal]at g5 hK est;have lal:al.length=ks.length+ts.length:=by rw[eal,YaA]
    have ne1:∀{b o},G b=some o->b≠p1:=λ{b o} h z=>by rw[z,n1.no]at h;cases h
    rw[it_l g5];refine jaq (λj ς G'=>(∃o8,ς=[some (.tup [.tup (nm.map .str),.tup (ss.map Spn.u)]),some (.int n),some (.loc pl),some (.loc p1),some (.int i),some (.loc p3),some (.loc p4),some .non,o8])/\(∀b m,b≠p1->G5 b=some m->G' b=some m)/\G' p1=some (.dK (btK (al.take (max j ks.length))))) ?_ ?_ ⟨⟨_,rfl⟩,λ_ _ _ h=>h,by rw[g51,Nat.zero_max,eal,List.take_left]⟩
    ·rintro ς G6 ⟨⟨o,rfl⟩,s6,g6⟩;refine⟨by unfold lsG;rw[s6 _ _ (Ne.symm h41) g5],hk' _ _ ⟨⟨_,_,_,_,_,rfl⟩,λb m h=>s6 b m (ne1 h) (s5' b m h),?_,hg'⟩⟩
     rw[g6,est,Ybt];unfold nU;rw[Yae,Yae,Yae]
     lia
    ·rintro j y ς G6 K' hy ⟨⟨o,rfl⟩,s6,g6⟩ hk2;obtain⟨hj,rfl⟩:=jnW hy;have hj:j<al.length:=by simpa using hj
     rw[Ydj];refine⟨by unfold lsG;rw[s6 _ _ (Ne.symm h41) g5],?_⟩
     have hbl:(btK (al.take (max j ks.length))).length<Yaf:=by
      unfold btK;rw[Yae,Ya6]
      lia
     simp! only[jpU g6];by_cases hjk:j<ks.length
     ·have hin:al[j].1∈(al.take (max j ks.length)).map (·.1):=List.mem_map.mpr ⟨al[j],List.mem_take_iff_getElem.mpr ⟨j,by lia,rfl⟩,rfl⟩
      refine jm6 g6 hbl (jkR hin) (hk2 _ _ ⟨⟨_,rfl⟩,s6,?_⟩);rw[g6,show max (j+1) ks.length=max j ks.length by lia]
     ·have em:max j ks.length=j:=by lia
      rw[em]at g6 hbl;have nin:al[j].1∉(al.take j).map (·.1):=by
       have:=jlW hK.nd (j:=j) (by simpa using hj)
       rw[Ydj,<- List.map_take]at this;exact this
      refine jm5 g6 hbl (jmx nin) λG7 w7=>hk2 _ _ ⟨⟨_,rfl⟩,λb m hb h=>w7.sm b m hb (s6 b m hb h),?_⟩;have ej:al[j]?=some al[j]:=YaF hj;have e2:al[j].2=(i:Int):=tsn _ (by
       have:al[j]=ts[j-ks.length]'(by lia):=by
        subst eal;rw[List.getElem_append_right (by lia)]
       rw[this];exact YbA _)
      rw[w7.at,show max (j+1) ks.length=j+1 by lia,jcf ej,jgU λp hp z=>?_]
      ·unfold btK;rw[Yav,Yas,YcY,e2]
      ·obtain⟨q',hq,rfl⟩:=List.mem_map.mp hp;have z:(q'.1:Int)=(al[j].1:Int):=by simpa using z
       exact nin (List.mem_map.mpr ⟨q',hq,by exact_mod_cast z⟩)
  ·rw[decide_eq_false h0,if_pos (by simp)]
   refine⟨by lia,fin 0 ⟨hg,.inl ⟨by rw[rl];exact hi,.inr ⟨by lia,?_⟩⟩⟩ G3 s3⟩
   rw[er];exact⟨λ_ h=>absurd h (Ybj _),.inl ⟨by lia,by unfold fitB;rw[if_pos rfl];exact decide_eq_false h0⟩⟩

structure Bd (L M:Nat)(ls:List Str):Prop where
 n:ls.length<=M
 l:∀x∈ls,x.length<=L/\As x
section
variable {L M M':Nat}{a b:List Str}
def Bd.cut  (h:Bd L M a) lo hi:Bd L M (Z.cut a lo hi):=⟨Yai (by unfold Z.cut;rw[Ya6,YbR];lia) h.n,λx hx=>h.l x (Yfx (List.mem_of_mem_take hx))⟩
def Bd.up   (h:Bd L M a)(hl:L<=L')(hm:M<=M'):Bd L' M' a:=⟨Yai h.n hm,λx hx=>⟨Yai (h.l x hx).1 hl,(h.l x hx).2⟩⟩
end


def ft_i   (h:-100000<=i/\i<=100000):Fits 1921 0 (.int i):=Fits.int (YaV (show i.natAbs<=100000 by lia) (Yap (by decide:100000<2 ^ 17) (Nat.pow_le_pow_right (by decide) (by decide))))
theorem jeE   : ∀l:List Int,DUs G (l.map .int) (l.map .int)
 |[]=>.nil
 |i::l=>.cons (.int i) (jeE l)
def Fw.le    (h:Fw fit n l (some w)):w<=n:=by
 rcases h.2 with⟨z,_⟩|⟨z,_⟩<;>lia
def jnb   (hb:∀x∈ls,x.length<=9000/\As x)(hj:j<ls.length):(rwZ ls j).length<=9001:=by
 have:=jay (wd ls j);have:=(hb _ (jbv hj)).1;unfold rwZ
 lia
def jlo   (h:Row0 ls):(nmZ ls).length<=8/\∀x∈nmZ ls,Nm x:=by
 have l:(rwZ ls 0).length<=9:=Ydm λz=>by
  have:=h.1 9 z;unfold fitW at this;rw[if_neg (by lia),decide_eq_false (λz=>by lia)]at this
  cases this
 refine⟨by unfold nmZ;rw[YbR];lia,λx hx=>?_⟩
 unfold nmZ at hx;obtain⟨i,hi,e⟩:=List.mem_iff_getElem.mp hx;rw[YbR]at hi;have:=h.1 (i+1) (by lia)
 unfold fitW at this;rw[if_neg (by lia)]at this
 have:=(of_decide_eq_true this).2.1;have e2:wd (rwZ ls 0) (i+1)=x:=by
  rw[<- e,List.getElem_drop];unfold wd;rw[YaL,YaF (by lia)]
  simp[Yfw]
 rw[e2]at this;exact this
def jle   (h8:nm.length<=8)(h:Fw (fitS nm ws) ws.length 5 none):Ft 10000 1 (jhE nm ws):=by
 obtain⟨l5,m1,m2⟩:=five h;have i1:=Yb6 m1;have i2:=Yb6 m2;have num:∀j,3<=j->j<5->∃t:Int,nmW (wd ws j)=some t/\0<=t/\t<=9999:=λj h3 h5=>by
  have:=h.1 j (by lia)
  unfold fitS at this;rw[if_neg (by lia),if_neg (by lia),if_neg (by lia)]at this
  cases e:nmW (wd ws j)with
  |none=>rw[e]at this;exact absurd this (by simp)
  |some t=>
   have:=jic (wd ws j);rw[e]at this;exact⟨t,rfl,this.1,this.2.1⟩
 obtain⟨a,ea,a0,a1⟩:=num 3 (by lia) (by lia)
 obtain⟨b,eb,b0,b1⟩:=num 4 (by lia) (by lia)
 have w0:wd ws 0 = "apart" \/ wd ws 0 = "span" := by
  have:=of_decide_eq_true (h.1 0 (by lia))
  simp only[YaG,Yar,or_false]at this;exact this.symm
 unfold jhE;rw[ea,eb];refine Ft.tup (n:=1921) (m:=5) (Yag _) (λu hu=>?_) (by decide)
 simp only[YaG,Yar,or_false]at hu;rcases hu with rfl|rfl|rfl|rfl|rfl
 ·exact(Ft.str (m:=8) (jfB w0).1 (jfB w0).2).mono (by decide) (Yag _)
 ·exact jgP (by lia)
 ·exact jgP (by lia)
 ·exact jgP (by lia)
 ·exact jgP (by lia)
def jmA   (hl:ls.length<=20000)(hb:∀x∈ls,x.length<=9000/\As x) :
  ∃z ,∀G (Q:U->U->Gp->Prop),(∀u G',Sa G G'->Q u (.str z) G')->An ls G (λu G'=>jfK [u] G' (Q u)):=by
 by_cases hF:∃a b,OutF ls a b
 ·obtain⟨a,b,hF⟩:=hF;have ab:a<=20000/\b<=9001:=by
   rcases hF with⟨_,rfl,rfl⟩|⟨n,rfl,f⟩|⟨_,_,l,_,⟨_,rfl⟩|⟨_,f⟩⟩
   ·lia
   ·have:=f.le;have:=jnb hb (j:=0) (List.length_pos_iff.mpr n)
    lia
   ·lia
   ·have:=f.le;have:=jnb hb l
    lia
  have f:Fits 16000000 60 (.list ([(a:Int),(b:Int)].map YcK)):=by
   refine(Fits.lstLe (n:=1921) (k:=0) (m:=8) (N:=16000) (by simp) (λd hd=>?_) (by decide)).mono (by decide) (by decide)
   obtain⟨z,hz,rfl⟩:=List.mem_map.mp hd;simp only[YaG,Yar,or_false]at hz;rcases hz with rfl|rfl<;>exact ft_i (by lia)
  refine⟨(PyData.list ([(a:Int),(b:Int)].map YcK)).shown,λG Q q=>⟨λhR=>(hF.not hR).elim,λa' b' hF' p G' _ s g=>?_⟩⟩;obtain⟨rfl,rfl⟩:=hF.uniq hF';exact⟨.list ([(a:Int),(b:Int)].map YcK),.lst (by unfold lsG;rw[g];rfl) (jeE [(a:Int),(b:Int)]),f,q _ _ s⟩
 ·by_cases hR:OutR ls
  ·obtain⟨n,r,g⟩:=hR;obtain⟨x8,xn⟩:=jlo r;have l1:0<ls.length:=List.length_pos_iff.mpr n;have l24:ls.length<=25:=Ydm λz=>by have:=(g 25 (by lia) z).1;lia
   have f1:Ft 675 1 (.tup ((nmZ ls).map .str)):=Ft.tup (m:=8) (n:=82) (k:=0) (by simpa using x8) (λu hu=>by
    obtain⟨x,hx,rfl⟩:=List.mem_map.mp hu;exact Ft.str (m:=8) (xn x hx).l8 (xn x hx).ch) (by decide)
   have f2:Ft 240051 2 (.tup (spsZ ls (ls.length-1))):=Ft.tup (m:=24) (n:=10000) (k:=1) (by unfold spsZ;simp;lia) (λu hu=>by
    unfold spsZ at hu;obtain⟨j,hj,rfl⟩:=List.mem_map.mp hu;have hj:=List.mem_range.mp hj;exact jle x8 (g (j+1) (by lia) (by lia)).2) (by decide)
   have f3:Ft 480109 3 (.tup [.tup ((nmZ ls).map .str),.tup (spsZ ls (ls.length-1))]):=Ft.tup (m:=2) (n:=240051) (k:=2) (Yag _) (λu hu=>by
    rcases YaG.mp hu with rfl|hu
    ·exact f1.mono (by decide) (by decide)
    ·rw[List.mem_singleton.mp hu];exact f2) (by decide)
   exact⟨_,λG Q q=>⟨λ_ G' s=>jnd f3 (by decide) (by decide) (q _ _ s),λa b h=>(hF ⟨a,b,h⟩).elim⟩⟩
  ·exact⟨"",λG Q q=>⟨λh=>(hR h).elim,λa b h=>(hF ⟨a,b,h⟩).elim⟩⟩
def jie    {l:List Str}(ga:G a=some (.lst (l.map .str)))(gb:G b=some (.lst (l.map .str)))(h:∀x∈l,∀c∈x.cps.toList,c<128)(q:φ false):cmpU .NotEq (.loc a) (.loc b) G φ:=by
 obtain⟨s1,d1⟩:=jcg (G:=G) h;refine⟨.list (l.map .str),.list (l.map .str),.lst (by unfold lsG;rw[ga]) d1,.lst (by unfold lsG;rw[gb]) d1,s1,s1,?_⟩
 rw[Yey _ s1.1];exact q

noncomputable def nmz  (zs:List (Str×Int))(t:Int):List Str:=(zs.filter λp=>decide (p.2=t)).map (·.1)
noncomputable def wz  (zs:List (Str×Int))(t:Int):List Str:=if (nmz zs t).isEmpty=true then ["-"] else nmz zs t
noncomputable def jbu  (zs:List (Str×Int))(t:Int):List Str:=nstr t::wz zs t
noncomputable def jfX  (zs:List (Str×Int))(t:Int):Str:=YaU " " (jbu zs t)
noncomputable def jgY  (zs:List (Str×Int))(n:Nat):List Str:=(YaH n).map λt:Nat=>jfX zs (t:Int)
def jgE   (h0:0<=t)(h1:t<600):(nstr t).length<=3/\∀c∈(nstr t).cps.toList,c<128/\48<=c/\c<=57:=by
 have h:∀n∈YaH 600,(nstr (n:Int)).length<=3/\∀c∈(nstr (n:Int)).cps.toList,c<128/\48<=c/\c<=57:=by decide +kernel
 have:=h t.toNat (List.mem_range.mpr (by lia))
 rw[YcT h0]at this;exact this
structure Zs (zs:List (Str×Int))(P:Int):Prop where
 l0:0<zs.length
 l8:zs.length<=8
 nm:∀p∈zs,Nm p.1
 nd:(zs.map (·.1)).Nodup
 bt:∀p∈zs,0<=p.2/\p.2<P
section
variable {zs:List (Str×Int)}{P t:Int}
def jl2   : x∈nmz zs t↔(x,t)∈zs:=by
 unfold nmz;rw[List.mem_map];constructor
 ·rintro⟨⟨y,u⟩,hp,rfl⟩;obtain⟨h1,h2⟩:=List.mem_filter.mp hp;have:u=t:=by simpa using h2
  rw[<- this];exact h1
 ·intro h;exact⟨(x,t),List.mem_filter.mpr ⟨h,by simp⟩,rfl⟩
def jia  : (nmz zs t).length<=zs.length:=by
 unfold nmz;rw[Yae];exact List.length_filter_le _ _
def Zs.w   (h:Zs zs P)(hx:x∈wz zs t):x.length<=8/\∀c∈x.cps.toList,c<128/\c≠32:=by
 unfold wz at hx;split at hx
 ·rw[List.mem_singleton.mp hx];decide +kernel
 ·have:=h.nm _ (jl2.mp hx);exact⟨this.l8,λc hc=>⟨this.ch c hc,λz=>absurd (this.lw c hc) (by lia)⟩⟩
def jmD  (h:Zs zs P):(wz zs t).length<=8:=by
 unfold wz;split
 ·decide
 ·exact Yai jia h.l8
theorem jhA   : ∀{l:List Str},(∀x∈l,x.length<=n)->(l.map (·.length)).sum<=l.length*n
 |[],_=>Ybh _
 |x::r,h=>by
  rw[Yas,Ye6,Ybd,Yfv];have:=jhA (l:=r) λy hy=>h y (Yah _ hy);have:=h x (by simp)
  lia
def jgj  (h:Zs zs P)(h0:0<=t)(h1:t<600):(∀x∈jbu zs t,x.length<=8/\∀c∈x.cps.toList,c<128/\c≠32)/\(jbu zs t).length<=9/\((jbu zs t).map (·.length)).sum<=72:=by
 have a:∀x∈jbu zs t,x.length<=8/\∀c∈x.cps.toList,c<128/\c≠32:=λx hx=>by
  rcases YaG.mp hx with rfl|hx
  ·obtain⟨l,q⟩:=jgE h0 h1;exact⟨by lia,λc hc=>⟨(q c hc).1,by have:=(q c hc).2.1;lia⟩⟩
  ·exact h.w hx
 have b:(jbu zs t).length<=9:=by
  show(wz zs t).length+1<=9;have:=jmD (t:=t) h
  lia
 refine⟨a,b,Yai (jhA λx hx=>(a x hx).1) ?_⟩
 lia
def jl5  (h:Zs zs P)(h0:0<=t)(h1:t<600):(jfX zs t).length<=100/\∀c∈(jfX zs t).cps.toList,c<128:=by
 obtain⟨a,b,c⟩:=jgj (t:=t) h h0 h1;refine⟨?_,?_⟩
 ·have:=YeO " " (jbu zs t);have e:(" " : Str).length=1:=rfl;rw[e]at this;show(YaU " " (jbu zs t)).length<=100
  lia
 ·have key:∀(ws:List Str),(∀x∈ws,∀c∈x.cps.toList,c<128)->∀c∈(YaU " " ws).cps.toList,c<128:=by
   intro ws
   induction ws with
   |nil=>intro _ c hc;exact absurd hc (by show c∉([]:List Nat);simp)
   |cons x r ih=>
    intro hw c hc;cases r with
    |nil=>exact hw x (by simp) c hc
    |cons y r=>
     rw[jcT,jfp,jfp]at hc;rcases List.mem_append.mp hc with hc|hc
     ·rcases List.mem_append.mp hc with hc|hc
      ·exact hw x (by simp) c hc
      ·have:c∈(" " : Str).cps.toList->c<128:=by
        intro z;have:c=32:=by simpa[jlf]using z
        lia
       exact this hc
     ·exact ih (λz hz=>hw z (Yah _ hz)) c hc
  exact key _ λx hx c hc=>((a x hx).2 c hc).1
end

def je4   (hf:Fd G f c)(h1:1<=P)(h2:P<=600)(w8:W<=8)(q:∀(bs:List Int) G' ,bs.length=W->(∀b∈bs,0<=b/\b<P)->Fd G' f c->Sm f G G'->Q (jlU bs) G'):jac T (k+2) jdh [.loc f,.int W,.int P] G Q X:=by
 refine⟨rfl,?_⟩;simp! only[jdx,jae,Yaa];refine⟨by lia,by lia,by rw[jaF];exact Yai w8 (by decide),?_⟩
 refine ja1 (λi acc G'=>Fd G' f c/\Sm f G G'/\∃bs:List Int,acc=bs.map .int/\bs.length=i/\∀b∈bs,0<=b/\b<P) ?_ ?_ ⟨hf,Sm.refl,[],rfl,rfl,λ_ h=>nomatch h⟩
 ·rintro acc G1 ⟨f1,s1,bs,rfl,hl,hb⟩;rw[jaF]at hl;refine⟨trivial,λpb G2 n2=>?_⟩;simp! only[it_l n2.at];exact q bs _ hl hb (f1.new n2) (s1.nw n2)
 ·rintro i x acc G1 K hx ⟨f1,s1,bs,rfl,hl,hb⟩ hk _;refine⟨trivial,jaj f1 (by lia) (by lia) λr G2 a2 b2 f2 s2=>hk _ _ ⟨f2,s1.trans s2,bs++[r],by simp,by simp[hl],λb hb'=>?_⟩⟩
  rcases List.mem_append.mp hb' with z|z
  ·exact hb b z
  ·rw[List.mem_singleton.mp z];exact⟨a2,b2⟩

noncomputable def jej  (zs:List (Str×Int))(ss:List Spn):U:=.tup [.tup ((zs.map (·.1)).map .str),.tup (ss.map Spn.u)]
noncomputable def btU  (zs:List (Str×Int)):U:=.tup ((zs.map (·.2)).map .int)

def at_x  {zs: List (Str×Int)}{j:Nat}(h:zs[j]?=some p):atI ((zs.map (·.1)).map U.str) (j:Int)=some (.str p.1):=jbb (by simp[h])
def at_b  {zs: List (Str×Int)}{j:Nat}(h:zs[j]?=some p):atI ((zs.map (·.2)).map U.int) (j:Int)=some (.int p.2):=jbb (by simp[h])
def jgF     : nmz (l++[p]) t=nmz l t++if p.2=t then [p.1] else []:=by
 unfold nmz;rw[List.filter_append,Yav];congr 1;by_cases h:p.2=t
 ·simp[h]
 ·simp[h]
def jil  {t:Int}(h0:0<=t)(h1:t<600):t.natAbs.log2<1920:=by
 have h:∀n∈YaH 600,n.log2<1920:=by decide +kernel
 exact h t.natAbs (List.mem_range.mpr (by lia))
def jmp   a:a ++ " -" = YaU " " [a, "-"]:=by
 show a ++ " -" = a ++ " " ++ "-";refine jfH ?_;rw[jfp,jfp,jfp];have e1:(" -" : Str).cps.toList=[32,45]:=by decide +kernel
 have e2:(" " : Str).cps.toList=[32]:=by decide +kernel
 have e3:("-" : Str).cps.toList=[45]:=by decide +kernel
 rw[e1,e2,e3];simp
def je3  {n: Nat}(hz:Zs zs n)(hn:n<=600)(q:∀p G' ,G p=none->Sa G G'->G' p=some (.lst ((jgY zs n).map .str))->Q (.loc p) G'):jac T (k+1) jdg [jej zs ss,.int n,btU zs] G Q X:=by
 refine⟨rfl,?_⟩;simp! only[jdw,jae,Yaa,jej,btU];refine⟨by decide,λp1 G1 n1=>⟨by lia,by lia,?_⟩⟩
 refine jaq (λi ς G'=>(∃o4 o5 o6,ς=[some (jej zs ss),some (.int n),some (btU zs),some (.loc p1),o4,o5,o6])/\Sa G G'/\G' p1=some (.lst (((YaH i).map λt:Nat=>jfX zs (t:Int)).map .str))) ?_ ?_ ⟨⟨_,_,_,rfl⟩,n1.sa,by rw[n1.at];rfl⟩
 ·rintro ς G2 ⟨⟨o4,o5,o6,rfl⟩,s2,g2⟩;rw[jaF]at g2;simp! only[];exact⟨trivial,q p1 G2 n1.no s2 g2⟩
 ·rintro i x ς G2 K hx ⟨⟨o4,o5,o6,rfl⟩,s2,g2⟩ hk;obtain⟨hi,rfl⟩:=jaK hx;have hi:i<n:=by simpa using hi
  simp! only[jej,btU];refine⟨trivial,jil (by lia) (by lia),by decide,λp3 G3 n3=>⟨by lia,by have:=hz.l8;simp;lia,?_⟩⟩
  have g3:=n3.sa _ _ g2;have h31:p3≠p1:=jdb g2 n3.no;refine jaq (λj ς G'=>(∃o6,ς=[some (jej zs ss),some (.int n),some (btU zs),some (.loc p1),some (.int i),some (.loc p3),o6])/\(∀b o,b≠p3->G3 b=some o->G' b=some o)/\G' p3=some (.lst ((nstr i::nmz (zs.take j) i).map .str))) ?_ ?_ ⟨⟨_,rfl⟩,λb o _ h=>h,by rw[n3.at];rfl⟩
  ·rintro ς G4 ⟨⟨o6',rfl⟩,s4,g4⟩;rw[jaF]at g4;have g4':G4 p3=some (.lst ((nstr i::nmz zs i).map .str)):=by
    rw[g4,Ybt (by simp)]
   have g41:=s4 _ _ (Ne.symm h31) g3;have s5:Sa G G4:=λb o h=>s4 b o (λz=>by rw[z]at h;have:=n3.no;rw[s2 _ _ h]at this;cases this) (n3.sa _ _ (s2 _ _ h))
   refine⟨trivial,?_⟩;have fin:∀(z:Str) (o:Option U),z=jfX zs i->jau .append (.loc p1) [.str z] G4 (λ_ G1=>K [some (jej zs ss),some (.int n),some (btU zs),some (.loc p1),some (.int i),some (.loc p3),o] G1):=λz o ez=>by
    rw[jeL g41];refine⟨by rw[Yae,Yae,Yd5];exact Yap (Yap hi hn) (by decide),λG5 w5=>hk _ _ ⟨⟨_,_,_,rfl⟩,λb o h=>w5.sm b o (λz=>by rw[z,n1.no]at h;cases h) (s5 b o h),?_⟩⟩
    rw[w5.at,YbL,Yav,Yav,ez];rfl
   simp! only[jb4 g41,jaR g4'];by_cases he:nmz zs i=[]
   ·rw[he];rw[if_neg (by simp)]
    refine⟨jil (by lia) (by lia),?_⟩
    refine jba (Yai (YcM (jgE (t:=i) (by lia) (by lia)).1 _) (by decide)) ?_
    exact fin _ _ (by unfold jfX jbu wz;rw[he,jmp];rfl)
   ·have hw:jbu zs i=nstr i::nmz zs i:=by
     unfold jbu wz;rw[if_neg (by simpa using he)]
    rw[if_pos (by have:=List.length_pos_iff.mpr he;simp;lia)]
    simp! only[mt_join,jfd g4'];obtain⟨_,b1,b2⟩:=jgj (t:=i) hz (by lia) (by lia)
    rw[hw]at b1 b2;exact⟨by decide,Yai (Nat.add_le_add b2 b1) (by decide),fin _ _ (by unfold jfX;rw[hw])⟩
  ·rintro j y ς G4 K' hy ⟨⟨o6',rfl⟩,s4,g4⟩ hk';obtain⟨hj,rfl⟩:=jaK hy;have hj:j<zs.length:=by simpa using hj
   have ep:zs[j]?=some zs[j]:=by simp[hj]
   simp! only[jej,btU,ix_t (at_b ep),ix_t (at_x ep)];refine⟨trivial,?_⟩;have e1:atI [U.tup ((zs.map (·.1)).map U.str),U.tup (ss.map Spn.u)] 0=some (U.tup ((zs.map (·.1)).map U.str)):=jdN _ _;by_cases hb:zs[j].2=i
   ·rw[if_pos (by simpa using hb)]
    simp! only[jb4 g4,ix_t e1,ix_t (at_x ep),jeL g4];refine⟨by simp;exact YaV (YcM (Yai jia (Yai (List.length_take_le' _ _) hz.l8)) 1) (by decide),λG5 w5=>hk' _ _ ⟨⟨_,rfl⟩,λb o hb' h=>w5.sm b o hb' (s4 b o hb' h),?_⟩⟩
    rw[w5.at,jcf ep,jgF,if_pos hb];simp
   ·rw[if_neg (by simpa using hb)]
    refine hk' _ _ ⟨⟨_,rfl⟩,s4,?_⟩;rw[g4,jcf ep,jgF,if_neg hb,YbM]

def jmU      (h:p∈stK nm rows m):0<=p.2/\p.2<m:=by
 unfold stK at h;obtain⟨r,hr,h⟩:=List.mem_flatMap.mp h;have hr:=List.mem_range.mp hr;unfold tl1 at h;split at h
 ·exact nomatch h
 ·obtain⟨w,_,rfl⟩:=List.mem_map.mp h;exact⟨Ygc r,by show(r:Int)<m;lia⟩
def joR     : 0<=vz (stK nm rows m) j/\vz (stK nm rows m) j<=m:=by
 unfold vz;cases h:(stK nm rows m).find? λp=>decide (p.1=j)with
 |none=>exact⟨Int.le_refl _,Ygc m⟩
 |some p=>
  have:=jmU (List.mem_of_find?_eq_some h);exact⟨this.1,Int.le_of_lt this.2⟩
def FwB.le      (h:FwB nm tl r ws (some w)):w<=ws.length:=by
 rcases h.2 with⟨z,_⟩|⟨z,_⟩<;>lia
def jkd     (h8:nm.length<=8)(hl:ls.length<=20000)(hb:∀x∈ls,x.length<=9000) :
  ∃z ,∀G (Q:U->U->Gp->Prop),(∀u G',Sa G G'->Q u (.str z) G')->AnB nm n ls G (λu G'=>jfK [u] G' (Q u)):=by
 have rl:(jan ls).length=ls.length:=Yae _;by_cases hF:∃a b,jdO nm n (jan ls) a b
 ·obtain⟨a,b,hF⟩:=hF;have ab:a<=20000/\b<=9001:=by
   rcases hF.2 with⟨l,⟨_,z⟩|⟨_,z⟩⟩|⟨l,z,_⟩
   ·rw[rl]at l;lia
   ·rw[rl]at l;have:=z.le;rw[jhL l]at this;have h1:=jay ls[a];have h2:=hb _ (YbA l)
    lia
   ·rw[rl]at l;lia
  have f:Fits 16000000 60 (.list ([(a:Int),(b:Int)].map YcK)):=by
   refine(Fits.lstLe (n:=1921) (k:=0) (m:=8) (N:=16000) (by simp) (λd hd=>?_) (by decide)).mono (by decide) (by decide)
   obtain⟨z,hz,rfl⟩:=List.mem_map.mp hd;simp only[YaG,Yar,or_false]at hz;rcases hz with rfl|rfl<;>exact ft_i (by lia)
  refine⟨(PyData.list ([(a:Int),(b:Int)].map YcK)).shown,λG Q q=>⟨λhR=>(hR.not hF).elim,λa' b' hF' p G' s g=>?_⟩⟩;obtain⟨rfl,rfl⟩:=hF.uniq hF';exact⟨.list ([(a:Int),(b:Int)].map YcK),.lst (by unfold lsG;rw[g];rfl) (jeE [(a:Int),(b:Int)]),f,q _ _ s⟩
 ·have f:Fits 16000000 60 (.tuple ((bsZ nm (jan ls)).map YcK)):=by
   refine(Fits.tupLe (n:=1921) (k:=0) (m:=8) (N:=16000) (by unfold bsZ;simpa using h8) (λd hd=>?_) (by decide)).mono (by decide) (by decide)
   obtain⟨z,hz,rfl⟩:=List.mem_map.mp hd;unfold bsZ at hz;obtain⟨j,_,rfl⟩:=List.mem_map.mp hz;have:=joR (nm:=nm) (rows:=jan ls) (m:=(jan ls).length) (j:=j);rw[rl]at this ⊢;exact ft_i (by lia)
  exact⟨_,λG Q q=>⟨λhR G' s=>⟨.tuple ((bsZ nm (jan ls)).map YcK),.tup (jeE _),f,q _ _ s⟩,λa b h=>(hF ⟨a,b,h⟩).elim⟩⟩
structure Bt (W n:Nat)(bs:List Int):Prop where
 l:bs.length=W
 b:∀b∈bs,0<=b/\b<n
theorem jkX  {α β:Type}:∀{xs:List α} {bs:List β},bs.length=xs.length->(xs.zip bs).map (·.1)=xs/\(xs.zip bs).map (·.2)=bs
 |[],[],_=>⟨rfl,rfl⟩
 |[],_::_,h=>by simp at h
 |_::_,[],h=>by simp at h
 |x::xs,b::bs,h=>by
  obtain⟨h1,h2⟩:=jkX (xs:=xs) (bs:=bs) (by simpa using h)
  exact⟨by simp[h1],by simp[h2]⟩
def joQ     (x0:0<xs.length)(x8:xs.length<=8)(hx:Nms xs)(h:Bt xs.length n bs):Zs (xs.zip bs) n:=by
 obtain⟨e1,e2⟩:=jkX h.l;have hl:(xs.zip bs).length=xs.length:=by rw[List.length_zip,h.l];simp
 exact⟨by lia,by lia,λp hp=>hx.ok _ (by rw[<- e1];exact YdH hp),by rw[e1];exact hx.nd,λp hp=>h.b _ (by rw[<- e2];exact YdH hp)⟩
def jjE  {xs:List Str}(h:bs.length=xs.length):jej (xs.zip bs) ss=.tup [.tup (xs.map .str),.tup (ss.map Spn.u)]/\btU (xs.zip bs)=jlU bs:=by
 obtain⟨e1,e2⟩:=jkX h;unfold jej btU;rw[e1,e2];exact⟨rfl,rfl⟩
def jms   (h:Nm x):x ≠ "-" := λz=>by
 have:=h.lw 45 (by rw[z];decide +kernel)
 lia


def jeg   (h:As x) lo hi:As (YcR x lo hi):=λc hc=>by
 unfold YcR at hc;split at hc
 ·exact h c hc
 ·have hc:c∈(YeS (λi=>x.cps[i]?) (Builtin.Str.strSliceIndices lo hi 1 x.length)):=by simpa using hc
  obtain⟨i,_,e⟩:=List.mem_filterMap.mp hc;exact h c (Array.mem_toList_iff.mpr (Yfh e))
def jqd   (h:As x):As (YdO x none none (-1,t)):=λc hc=>by
 unfold YdO at hc;split at hc
 ·exact h c hc
 ·obtain⟨i,_,e⟩:=List.mem_filterMap.mp (by simpa using hc)
  exact h c (Array.mem_toList_iff.mpr (Yfh e))
noncomputable def sgT  : Str:=(" !\"#$&'()*+,-./0123456789:;<=>?@ABCDEFGHIJKLMNOPQRSTUVWXYZ[\\]^_`" : Str)++("abcdefghijklmnopqrstuvwxyz{|}~" : Str)++repS " " 6
def jkr  : sgT.length=100:=by decide +kernel
def jpq  : As sgT:=by
 have:∀c∈sgT.cps.toList,c<128:=by decide +kernel
 exact this
def jnX   (q:Q (.str (repS " " 6)) G):binU .Mult (.str " ") (.int 6) G Q:=⟨by decide,by decide,by decide +kernel,q⟩
def jgB  (q:Q (.str sgT) G):jac T (k+1) jbQ [] G Q X:=by
 refine⟨rfl,?_⟩;simp! only[jds,jae,Yaa];refine jba (by decide +kernel) ?_
 refine jnX ?_;exact jba (by decide +kernel) q
def jmh   {l:List Int}{kk:Bool->Prop}(g:G p=some (.lst (l.map .int)))(g':G p'=some (.lst []))(q:kk (!l.isEmpty)):cmpU .NotEq (.loc p) (.loc p') G kk:=by
 have hs:∀u∈l.map U.int,Sml 0 u:=λu hu=>by
  obtain⟨x,_,rfl⟩:=List.mem_map.mp hu;exact Sml.int _
 obtain⟨h1,h2,h3⟩:=smls hs;refine⟨.list (pds (l.map U.int)),.list [],.lst (by unfold lsG;rw[g]) (jfj h1),.lst (by unfold lsG;rw[g']) .nil,⟨h2,?_⟩,⟨by decide,by decide⟩,?_⟩
 ·show YbZ _+1<=100
  lia
 ·have:YaJ (.list (pds (l.map U.int))) (.list [])=l.isEmpty:=by
   cases l<;>simp[pds,YaJ,Ycq]
  rw[this];exact q

section
variable {k:Nat}{G G0:Gp}{Q:K1}{X:KX}{f c p:Addr}{x w:Str}
def jpv   (h:s.length<=Yaf)(q:∀t ,Q (.str (YdO s none none (-1,t))) G):revU (.str s) (.int (-1)) G Q:=⟨rfl,h,q⟩
def jjp  {i:Nat}{ys:List Str}(s0:Sm f G0 G)(p0:G0 p=none)(hf:Fd G f c)(pf:p≠f/\p≠c)(hx:x.length<=2000)(ha:As x)(hy:ys.length=3)
  (hb:∀y∈ys,y.length<=3*x.length+10/\As y) (g:G p=some (.lst (ys.map .str)))
  (q:∀(y:Str) G' ,y.length<=3*x.length+10->As y->Fd G' f c->Sm f G0 G'->Q (.str y) G') :
  jaC T.gs (jac T (k+1)) ja2 ⟨λ_ G'=>Q .non G',Q,λx _ G'=>X x G'⟩ [some (.loc f),some (.str x),o2,o3,some (.int i),some (.str w),some (.loc p)] G:=by
 have hz:(10000:Nat)<=Yaf:=by decide
 have hs:x.length<=Yaf:=by lia
 have sl:∀lo hi,(YcR x lo hi).length<=x.length:=λlo hi=>Yc1 x lo hi;simp! only[ja2,jb4 g];refine⟨hs,hs,jpv (by have:=sl (some ((i:Int))) (some ((i:Int)+2));lia) λt=>?_⟩
 have l1:=sl none (some (i:Int));have l2:=sl (some (i:Int)) (some ((i:Int)+2));have l3:=sl (some ((i:Int)+2)) none;have l4:=Txt.sliceBy_le (YcR x (some (i:Int)) (some ((i:Int)+2))) none none (-1,t) (show(-1:Int)≠0 by decide)
 refine jba (by lia) ⟨hs,jba (by rw[jaO];lia) ?_⟩
 rw[jeL g];refine⟨by rw[Yae];lia,λG1 w1=>?_⟩
 have f1:=hf.off pf w1;have s1:Sm f G0 G1:=Sm.wr Sm.refl p0 s0 w1;simp! only[];refine jaj (k:=k) f1 (by decide) (by decide) λr G2 r0 r1 f2 s2=>?_
 have g2:=s2 _ _ pf.1 w1.at
 refine jit g2 r0 (by simp;lia) λu hu=>?_
 have fin:∀y,y.length<=3*x.length+10->As y->Q (.str y) G2:=λy h1 h2=>q y G2 h1 h2 f2 (s1.trans s2);rcases List.mem_append.mp hu with hu|hu
 ·obtain⟨y,hm,rfl⟩:=List.mem_map.mp hu;exact fin y (hb y hm).1 (hb y hm).2
 ·rw[List.mem_singleton.mp hu];exact fin _ (by rw[jaO,jaO];lia) (((jeg ha _ _).app (jqd (jeg ha _ _))).app (jeg ha _ _))
def jgr    (s0:Sm f G0 G)(hf:Fd G f c)(hx:x.length<=2000)(ha:As x)
  (q:∀(y:Str) G' ,y.length<=3*x.length+10->As y->Fd G' f c->Sm f G0 G'->Q (.str y) G') :
  jaC T.gs (jac T (k+1)) ja3 ⟨λ_ G'=>Q .non G',Q,λx _ G'=>X x G'⟩ [some (.loc f),some (.str x),o2,o3,o4,none,none] G:=by
 have hz:(10000:Nat)<=Yaf:=by decide
 have hs:x.length<=Yaf:=by lia
 have sl:∀lo hi,(YcR x lo hi).length<=x.length:=λlo hi=>Yc1 x lo hi;simp! only[ja3,jfb];refine⟨hs,?_⟩;refine jaj (k:=k) hf (by lia) (by lia) λr G1 r0 r1 f1 s1=>?_
 obtain⟨i,rfl⟩:=Ya0 r0;simp! only[];refine jgB (k:=k) ?_;simp! only[];refine jgB (k:=k) ?_;simp! only[jfb,jkr];refine⟨by decide,?_⟩
 refine jaj (k:=k) f1 (by decide) (by decide) λd G2 d0 d1 f2 s2=>?_
 have sl100:sgT.cps.toList.length=100:=by decide +kernel
 obtain⟨e,he,ee⟩:=jfx (l:=sgT.cps.toList) (r:=d) d0 (by rw[sl100];exact d1)
 refine ix_s (by rw[jkr];decide) ee ?_
 have hw:(⟨#[e]⟩:Str).length=1/\As ⟨#[e]⟩:=⟨rfl,λc hc=>by
  have:c=e:=by simpa using hc
  rw[this];exact jpq e he⟩
 generalize (⟨#[e]⟩:Str)=w at hw ⊢;simp! only[];have l1:=sl none (some (i:Int));have l2:=sl (some (i:Int)) none;have l3:=sl (some ((i:Int)+1)) none;refine⟨hs,jba (by lia) ⟨hs,jba (by rw[jaO];lia) ⟨hs,jba (by lia) ⟨hs,jba (by rw[jaO];lia) ⟨hs,hs,jba (by lia) ⟨by decide,λp G3 n3=>?_⟩⟩⟩⟩⟩⟩
 have st:=s0.trans (s1.trans s2);have pf:=f2.away n3;have p0:G0 p=none:=by
  cases h:G0 p with
  |none=>rfl
  |some o=>have:=st _ _ pf.1 h;rw[n3.no]at this;cases this
 refine jjp (k:=k) (ys:=[_,_,_]) (st.trans n3.sa.sm) p0 (f2.new n3) pf hx ha rfl (λy hy=>?_) n3.at q;simp only[YaG,Yar,or_false]at hy;rcases hy with rfl|rfl|rfl
 ·exact⟨by rw[jaO,jaO];lia,((jeg ha _ _).app hw.2).app (jeg ha _ _)⟩
 ·exact⟨by rw[jaO,jaO];lia,((jeg ha _ _).app hw.2).app (jeg ha _ _)⟩
 ·exact⟨by rw[jaO];lia,(jeg ha _ _).app (jeg ha _ _)⟩
end

section
variable {k:Nat}{G G0:Gp}{Q:K1}{X:KX}{f c p:Addr}{x w:Str}
def jpZ   (h:j<n):ixN n (j:Int)=some j:=jiv h
def jnU   (h0:-1<=z)(h1:z<=10000):(nstr z).length<=5/\As (nstr z)/\z.natAbs.log2<1920:=by
 by_cases h:z=-1
 ·subst h;refine⟨by decide +kernel,?_,by decide⟩
  have:∀c∈(nstr (-1)).cps.toList,c<128:=by decide +kernel
  exact this
 ·by_cases h2:z=10000
  ·subst h2;refine⟨by decide +kernel,?_,by decide⟩
   have:∀c∈(nstr 10000).cps.toList,c<128:=by decide +kernel
   exact this
  ·obtain⟨a,b,_⟩:=jcj (t:=z) (by lia) (by lia)
   exact⟨by lia,λc hc=>by have:=b c hc;lia,jfa (by lia) (by lia)⟩
def jjq   {l:List Int}(s0:Sm f G0 G)(pw0:G0 pw=none)(hf:Fd G f c)(pf:pw≠f/\pw≠c)(hx:x.length<=2000)(ha:As x)(ew:ws=Ya1 x " ")
  (gw:G pw=some (.lst (ws.map .str))) (gn:G pn=some (.lst (l.map .int))) (nf:pn≠f) (hl:l.length<=5000) (hi:∀z∈l,∃n:Nat,z=n/\n<ws.length/\∃t,nmW (wd ws n)=some t)
  (q:∀(y:Str) G' ,y.length<=3*x.length+10->As y->Fd G' f c->Sm f G0 G'->Q (.str y) G') :
  jaC T.gs (jac T (k+1)) ja4 ⟨λ_ G'=>Q .non G',Q,λx _ G'=>X x G'⟩ [some (.loc f),some (.str x),some (.loc pw),some (.loc pn),none,none,none] G:=by
 have hz:(10000:Nat)<=Yaf:=by decide
 simp! only[ja4];refine⟨by decide,λp1 G1 n1=>?_⟩
 refine jmh (n1.sa _ _ gn) n1.at ?_;have f1:=hf.new n1;have s1:Sm f G0 G1:=s0.trans n1.sa.sm;by_cases h0:l=[]
 ·subst h0;rw[if_neg (by simp)]
  simp! only[];exact jgr (k:=k) s1 f1 hx ha q
 ·rw[if_pos (by simpa using h0)]
  simp! only[];refine jaj (k:=k) f1 (by decide) (by decide) λd G2 d0 d1 f2 s2=>?_
  have s2':=s1.trans s2;simp! only[];by_cases hd:d=0
  ·rw[if_pos (by simpa using hd)]
   have gn2:=s2 _ _ nf (n1.sa _ _ gn);simp! only[jaR gn2];have lp:0<l.length:=List.length_pos_iff.mpr h0;rw[Yae];refine jaj (k:=k) f2 (by lia) (by lia) λr G3 r0 r1 f3 s3=>?_
   have gn3:=s3 _ _ nf gn2;refine jaL l gn3 r0 r1 λz hz'=>?_;obtain⟨n,rfl,nl,t,et⟩:=hi z hz';have gw3:G3 pw=some (.lst (ws.map .str)):=s3 _ _ pf.1 (s2 _ _ pf.1 (n1.sa _ _ gw));simp! only[ix_l gw3 (jaM nl)];have hwd:(wd ws n).length<=10000/\∀c∈(wd ws n).cps.toList,c<128:=by
    have hm:=jbv nl;rw[ew]at hm ⊢;have:=jjc hm;have e:=jay x;unfold Sz at this;exact⟨by lia,jcP ha _ hm⟩
   refine jc8 (k:=k) hwd λG4 s4=>?_;rw[et];obtain⟨t0,t1,_⟩:0<=t/\t<=9999/\_:=by have:=jic (wd ws n);rw[et]at this;exact this
   show _;simp! only[oI];refine⟨by decide,λp5 G5 n5=>?_⟩
   have f5:=(f3.sa s4).new n5;refine jaj (k:=k) f5 (by decide) (by decide) λe G6 e0 e1 f6 s6=>?_
   have g6:=s6 _ _ ((f3.sa s4).away n5).1 n5.at
   refine jaL [1,-1] g6 e0 e1 λv hv=>?_;have hv:v=1\/v=-1:=by simpa using hv
   simp! only[];obtain⟨b1,b2,b3⟩:=jnU (z:=t+v) (by lia) (by lia)
   refine jmT b3 ?_;have gw6:G6 pw=some (.lst (ws.map .str)):=s6 _ _ pf.1 (n5.sa _ _ (s4 _ _ gw3));rw[jm2 gw6 (jpZ (by rw[Yae];exact nl))]
   intro G7 w7;have e7:(ws.map U.str).set n (.str (nstr (t+v)))=(ws.set n (nstr (t+v))).map .str:=by rw[List.map_set]
   have g7:G7 pw=some (.lst ((ws.set n (nstr (t+v))).map .str)):=by rw[<- e7];exact w7.at
   have s7:Sm f G0 G7:=Sm.wr Sm.refl pw0 (s2'.trans (s3.trans (s4.sm.trans (n5.sa.sm.trans s6)))) w7;simp! only[mt_join,jfd g7];have z1:=joO ws n (nstr (t+v));have z2:=jgL (ws.set n (nstr (t+v)));have z3:Sz ws=x.length+1:=by unfold Sz;rw[ew];exact jay x
   refine⟨by decide,?_,q _ G7 (by lia) (jis ((by rw[ew];exact jcP ha:Lk ws).set b2 n)) (f6.off pf w7) s7⟩
   unfold Sz at z1 z3
   lia
  ·rw[if_neg (by simpa using hd)]
   simp! only[];exact jgr (k:=k) s2' f2 hx ha q
def jh6  (hf:Fd G f c)(hx:x.length<=2000)(ha:As x)(q:∀(y:Str) G' ,y.length<=3*x.length+10->As y->Fd G' f c->Sm f G G'->Q (.str y) G') :
  jac T (k+2) jcA [.loc f,.str x] G Q X:=by
 have hz:(10000:Nat)<=Yaf:=by decide
 refine⟨rfl,?_⟩;simp! only[jcD,jae,Yaa];show jau .split _ _ _ _;refine jee (by lia) λp1 G1 n1=>?_
 obtain⟨ws,ew⟩:∃ws,ws=Ya1 x " " := ⟨_,rfl⟩;rw[<- ew]at n1;have wl:ws.length<=2001:=by rw[ew];have:=jay x;lia
 simp! only[jaR n1.at];rw[Yae];refine⟨by lia,by lia,by rw[jaF];lia,?_⟩
 have hwd:∀{n:Nat},n<ws.length->(wd ws n).length<=10000/\∀c∈(wd ws n).cps.toList,c<128:=λnl=>by
  have hm:=jbv nl;rw[ew]at hm ⊢;have:=jjc hm;have e:=jay x;unfold Sz at this;exact⟨by lia,jcP ha _ hm⟩
 refine ja1 (λi acc G'=>(∃l:List Int,acc=l.map .int/\l.length<=i/\∀z∈l,∃n:Nat,z=n/\n<ws.length/\∃t,nmW (wd ws n)=some t)/\Sa G1 G') ?_ ?_ ⟨⟨[],rfl,Yag _,λ_ h=>nomatch h⟩,Sa.refl⟩
 ·rintro acc G2 ⟨⟨l,rfl,ll,hl⟩,s2⟩;rw[jaF]at ll;refine⟨trivial,λp2 G3 n3=>?_⟩;have sa:=n1.sa.trans (s2.trans n3.sa);exact jjq (k:=k) sa.sm n1.no (hf.sa sa) (hf.away n1) hx ha ew (n3.sa _ _ (s2 _ _ n1.at)) n3.at (((hf.new n1).sa s2).away n3).1 (by lia) hl q
 ·rintro i z acc G2 K hz' ⟨⟨l,rfl,ll,hl⟩,s2⟩ hk hn;obtain⟨hi,rfl⟩:=jaK hz';have hi:i<ws.length:=by simpa using hi
  refine⟨trivial,?_⟩;simp! only[ix_l (s2 _ _ n1.at) (jaM hi)];refine jc8 (k:=k) (hwd hi) λG3 s3=>?_;rw[is_o];cases ho:nmW (wd ws i)with
  |none=>exact hn G3 ⟨⟨l,rfl,by lia,hl⟩,s2.trans s3⟩
  |some t=>
   refine hk _ G3 ⟨⟨l++[(i:Int)],by rw[Yav];rfl,by rw[YaA,YbC];lia,λz hz=>?_⟩,s2.trans s3⟩
   rcases List.mem_append.mp hz with hz|hz
   ·exact hl z hz
   ·exact⟨i,List.mem_singleton.mp hz,hi,t,ho⟩
def jaQ    (hf:Fd G f c)(hL:L<=2000)(h0:0<ls.length)(hb:Bd L 601 ls)(gp:G p=some (.lst (ls.map .str)))(pf:p≠f)
  (q:∀p' (ys:List Str) (G':Gp),G p'=none->0<ys.length->Bd (3*L+10) 601 ys->G' p'=some (.lst (ys.map .str))->Fd G' f c->Sm f G G'->Q (.loc p') G') :
  jac T (k+3) jaw [.loc f,.loc p] G Q X:=by
 have hz:(10000:Nat)<=Yaf:=by decide
 have hn:=hb.n;refine⟨rfl,?_⟩;simp! only[jbs,jae,Yaa,jaR gp];rw[Yae];refine jaj (k:=k+1) hf (by lia) (by lia) λr G1 r0 r1 f1 s1=>?_
 obtain⟨i,rfl⟩:=Ya0 r0;have il:i<ls.length:=by lia
 simp! only[];show slU _ _ _ _ _;have gp1:=s1 _ _ pf gp;refine jmY gp1 λp2 G2 h2 s2 g2=>?_;simp! only[ix_l (s2 _ _ gp1) (jaM il)];have hm:=hb.l _ (jbv il);refine jh6 (k:=k) (f1.sa s2) (by lia) hm.2 λy G3 yl ya f3 s3=>?_
 refine⟨by decide,λp4 G4 n4=>?_⟩
 have h2f:p2≠f:=λz=>by obtain⟨ns,a,l,t,e1,_⟩:=f1.ex;rw[z,e1]at h2;cases h2
 have g24:G4 p2=some (.lst ((cut ls none (some (i:Int))).map .str)):=n4.sa _ _ (s3 _ _ h2f g2);have g44:G4 p4=some (.lst ([y].map .str)):=n4.at
 have c1:(cut ls none (some (i:Int))).length<=ls.length:=by rw[jfm,Ya6];lia
 refine joK g24 g44 (by rw[YbC];lia) λp5 G5 h5 s5 g5=>?_
 simp! only[];show slU _ _ _ _ _;have gp5:G5 p=some (.lst (ls.map .str)):=s5 _ _ (n4.sa _ _ (s3 _ _ pf (s2 _ _ gp1)));refine jmY gp5 λp6 G6 h6 s6 g6=>?_;have e1:((i:Int)+1)=((i+1:Nat):Int):=by lia
 have c2:(cut ls (some ((i:Int)+1)) none).length+(i+1)=ls.length:=by rw[e1,jcW,YbR];lia
 have c1':(cut ls none (some (i:Int))).length=i:=by rw[jfm,Ya6];lia
 refine joK (s6 _ _ g5) g6 (by rw[YaA,YbC];lia) λp7 G7 h7 s7 g7=>?_
 have st:Sm f G G6:=s1.trans (s2.sm.trans (s3.trans (n4.sa.trans (s5.trans s6)).sm));have f7:=f3.sa (n4.sa.trans (s5.trans (s6.trans s7)));have p70:G p7=none:=by
  cases h:G p7 with
  |none=>rfl
  |some o=>
   have hf7:p7≠f:=λz=>by obtain⟨ns,a,l,t,e1,_⟩:=(f3.sa (n4.sa.trans (s5.trans s6))).ex;rw[z,e1]at h7;cases h7
   have:=st _ _ hf7 h;rw[h7]at this;cases this
 have b7:Bd (3*L+10) 601 (cut ls none (some (i:Int))++[y]++cut ls (some ((i:Int)+1)) none):=by
  refine⟨by rw[YaA,YaA,YbC];lia,λv hv=>?_⟩
  rcases List.mem_append.mp hv with hv|hv
  ·rcases List.mem_append.mp hv with hv|hv
   ·have:=(hb.cut _ _).l v hv;exact⟨by lia,this.2⟩
   ·rw[List.mem_singleton.mp hv];exact⟨by lia,ya⟩
  ·have:=(hb.cut _ _).l v hv;exact⟨by lia,this.2⟩
 exact q p7 _ G7 p70 (by rw[YaA,YaA,YbC];lia) b7 g7 f7 (st.trans s7.sm)
end


def jn0    (g:G a=some (.lst xs)):mtU .clear (.loc a) G=some ("list", "list.clear"):=by unfold mtU;dsimp only;rw[g]
def jqc    (g:G a=some (.lst xs))(q:∀G',Put G a (.lst []) G'->Q .non G'):jau .clear (.loc a) [] G Q:=by
 unfold jau ji1;dsimp only;rw[g];exact q
def jgG    (h:Pl xs ss):Bd 100 25 (jdk xs ss):=by
 refine⟨by unfold jdk;have:=h.sl;simp;lia,λx hx=>?_⟩
 unfold jdk at hx;rcases YaG.mp hx with rfl|hx
 ·exact jir h.wl
 ·obtain⟨s,hs,rfl⟩:=List.mem_map.mp hx;exact jir (h.sw hs)
def lr_0  (b:Bd 1000 601 ls)(gq:G p=some (.lst (ls.map .str)))(hf:Fd G f c)(q:∀p' G',Fd G' f c->Sm f G G'->K [o0,o1,o2,o3,o4,some (.loc p),some (.loc p')] G') :
  jaC T.gs (jac T (k+6)) jas ⟨K,Q',X'⟩ [o0,o1,o2,o3,o4,some (.loc p),o6] G:=by
 simp! only[jas,it_l gq];intro ph G5 n5;have l2:ls.length<=20000:=Yai b.n (by decide)
 have l9:∀y∈ls,y.length<=9000/\As y:=λy hy=>⟨Yai (b.l y hy).1 (by decide),(b.l y hy).2⟩
 obtain⟨z0,hz0⟩:=jmA l2 l9;refine jjN (k:=k) l2 l9 n5.at (hz0 G5 _ λu G6 s6=>?_);refine jjO (k:=k+3) l2 l9 (s6 _ _ (n5.sa _ _ gq)) (hz0 G6 _ λu' G7 s7=>?_);rw[jes,decide_eq_true rfl,if_neg (by simp)]
 have gh:=s7 _ _ (s6 _ _ n5.at);refine jie gh (s7 _ _ (s6 _ _ (n5.sa _ _ gq))) (λy hy=>(b.l y hy).2) ?_;rw[if_neg (by simp)]
 simp! only[jn0 gh];refine jqc gh λG8 w8=>?_;have s:=n5.sa.trans (s6.trans s7);exact q ph G8 ((hf.sa s).off (hf.away n5) w8) (Sm.wr Sm.refl n5.no s.sm w8)
def lr_2      (hP:Pl xs ss)(hf:Fd G f c)(by':Bd 1000 601 ys)(gb:G pb=some (.lst (ys.map .str)))(gl:G pl=some (.lst ((jdk xs ss).map .str)))
  (q:∀o5 o6 G',Fd G' f c->Sm f G G'->K [o0,o1,some (.loc pl),o3,some (.loc pb),o5,o6] G') :
  jaC T.gs (jac T (k+6)) jax ⟨K,Q',X'⟩ [o0,o1,some (.loc pl),o3,some (.loc pb),o5,o6] G:=by
 simp! only[jax];refine⟨by decide,?_⟩
 refine jaq (λi ς G'=>(∃o5 o6,ς=[o0,o1,some (.loc pl),o3,some (.loc pb),o5,o6])/\Fd G' f c/\Sm f G G') ?_ ?_ ⟨⟨_,_,rfl⟩,hf,Sm.refl⟩
 ·rintro ς G1 ⟨⟨o5,o6,rfl⟩,f1,s1⟩;exact⟨trivial,q _ _ _ f1 s1⟩
 ·rintro i x ς G1 K' hx ⟨⟨o5,o6,rfl⟩,f1,s1⟩ hk;refine⟨trivial,?_⟩;have hx:=Ya2 hx;simp only[YaG,Yar,or_false]at hx;rcases hx with rfl|rfl|rfl
  ·simp! only[];exact lr_0 (k:=k) by' (s1 _ _ (hf.ne_l gb) gb) f1 λp' G2 f2 s2=>hk _ _ ⟨⟨_,_,rfl⟩,f2,s1.trans s2⟩
  ·simp! only[];exact lr_0 (k:=k) by' (s1 _ _ (hf.ne_l gb) gb) f1 λp' G2 f2 s2=>hk _ _ ⟨⟨_,_,rfl⟩,f2,s1.trans s2⟩
  ·simp! only[];exact lr_0 (k:=k) ((jgG hP).up (by decide) (by decide)) (s1 _ _ (hf.ne_l gl) gl) f1 λp' G2 f2 s2=>hk _ _ ⟨⟨_,_,rfl⟩,f2,s1.trans s2⟩
def jdG  (hf:Fd G f c)(q:∀G',Fd G' f c->Q (.bl true) G'):jac T (k+7) jbd [.loc f] G Q X:=by
 refine⟨rfl,?_⟩;simp! only[jbe,jae,Yaa];refine jjR (k:=k+4) hf λP G1 p1 p6 f1 s1=>?_;refine jh7 (k:=k+2) f1 p1 p6 λxs ss G2 x0 x8 hxs sl so f2 s2=>?_;have hP:Pl xs ss:=⟨x0,x8,hxs,sl,so⟩;refine je2 (k:=k+5) hP λpl G3 h3 s3 g3=>?_;have f3:=f2.sa s3;simp! only[jaV];refine⟨by decide,by decide,?_⟩
 refine jaq (λi ς G'=>(∃o3 o4 o5 o6,ς=[some (.loc f),some (jjD xs ss),some (.loc pl),o3,o4,o5,o6])/\Fd G' f c/\G' pl=some (.lst ((jdk xs ss).map .str))) ?_ ?_ ⟨⟨_,_,_,_,rfl⟩,f3,g3⟩
 ·rintro ς G4 ⟨⟨o3,o4,o5,o6,rfl⟩,f4,g4⟩;simp! only[];exact⟨trivial,q _ f4⟩
 ·rintro i x ς G4 K hx ⟨⟨o3,o4,o5,o6,rfl⟩,f4,g4⟩ hk;obtain⟨hi,rfl⟩:=jaK hx;refine⟨trivial,?_⟩;simp! only[];have b0:=jgG hP;refine jaQ (k:=k+3) f4 (L:=100) (by decide) (by unfold jdk;simp) (b0.up (by decide) (by decide)) g4 (f4.ne_l g4) λpb ys G5 h5 ny by5 gy5 f5 s5=>?_
  have gl5:=s5 _ _ (f4.ne_l g4) g4;simp! only[];refine⟨by decide,?_⟩
  split
  ·refine jaQ (k:=k+3) f5 (L:=310) (by decide) ny by5 gy5 (f5.ne_l gy5) λpc zs G6 h6 nz bz6 gz6 f6 s6=>?_
   have gl6:=s6 _ _ (f5.ne_l gl5) gl5;simp! only[];exact lr_2 (k:=k) hP f6 (bz6.up (by decide) (by decide)) gz6 gl6 λo5 o6 G7 f7 s7=>hk _ _ ⟨⟨_,_,_,_,rfl⟩,f7,s7 _ _ (f6.ne_l gl6) gl6⟩
  ·simp! only[];exact lr_2 (k:=k) hP f5 (by5.up (by decide) (by decide)) gy5 gl5 λo5 o6 G7 f7 s7=>hk _ _ ⟨⟨_,_,_,_,rfl⟩,f7,s7 _ _ (f5.ne_l gl5) gl5⟩


def br_0  {n: Nat}{ss: List Spn}(hx:Nms nm)(h8:nm.length<=8)(h6:n<=600)(b:Bd 1000 601 ls)(gq:G p=some (.lst (ls.map .str)))(hf:Fd G f c)(q:∀o8 o9 G',Fd G' f c->Sm f G G'->K [o0,some (.int n),some (.tup [.tup (nm.map .str),.tup (ss.map Spn.u)]),o3,o4,o5,o6,some (.loc p),o8,o9] G') :
  jaC T.gs (jac T (k+6)) jap ⟨K,Q',X'⟩ [o0,some (.int n),some (.tup [.tup (nm.map .str),.tup (ss.map Spn.u)]),o3,o4,o5,o6,some (.loc p),o8,o9] G:=by
 simp! only[jap,it_l gq];intro ph G5 n5;have l2:ls.length<=20000:=Yai b.n (by decide)
 have l9:∀y∈ls,y.length<=9000:=λy hy=>Yai (b.l y hy).1 (by decide)
 obtain⟨z0,hz0⟩:=jkd (nm:=nm) (n:=n) h8 l2 l9;refine jh8 (k:=k+1) hx.nd (λy hy=>jms (hx.ok y hy)) h8 h6 l2 l9 n5.at (hz0 G5 _ λu G6 s6=>?_);refine jlS (k:=k+4) hx.nd h8 h6 l2 l9 (s6 _ _ (n5.sa _ _ gq)) (hz0 G6 _ λu' G7 s7=>?_);rw[jes,decide_eq_true rfl,if_neg (by simp)]
 have gh:=s7 _ _ (s6 _ _ n5.at);refine jie gh (s7 _ _ (s6 _ _ (n5.sa _ _ gq))) (λy hy=>(b.l y hy).2) ?_;rw[if_neg (by simp)]
 have s:=n5.sa.trans (s6.trans s7);exact q _ _ G7 (hf.sa s) s.sm
def br_2  {n: Nat}{ss: List Spn}(hx:Nms nm)(h8:nm.length<=8)(h6:n<=600)(hf:Fd G f c)(by':Bd 1000 601 ys)(gb:G pb=some (.lst (ys.map .str)))(bb:Bd 100 600 bs)(gl:G pl=some (.lst (bs.map .str)))
  (q:∀o7 o8 o9 G',Fd G' f c->Sm f G G'->K [o0,some (.int n),some (.tup [.tup (nm.map .str),.tup (ss.map Spn.u)]),o3,some (.loc pl),o5,some (.loc pb),o7,o8,o9] G') :
  jaC T.gs (jac T (k+6)) jav ⟨K,Q',X'⟩ [o0,some (.int n),some (.tup [.tup (nm.map .str),.tup (ss.map Spn.u)]),o3,some (.loc pl),o5,some (.loc pb),o7,o8,o9] G:=by
 simp! only[jav];refine⟨by decide,?_⟩
 refine jaq (λi ς G'=>(∃o7 o8 o9,ς=[o0,some (.int n),some (.tup [.tup (nm.map .str),.tup (ss.map Spn.u)]),o3,some (.loc pl),o5,some (.loc pb),o7,o8,o9])/\Fd G' f c/\Sm f G G') ?_ ?_ ⟨⟨_,_,_,rfl⟩,hf,Sm.refl⟩
 ·rintro ς G1 ⟨⟨o7,o8,o9,rfl⟩,f1,s1⟩;exact⟨trivial,q _ _ _ _ f1 s1⟩
 ·rintro i x ς G1 K' hi ⟨⟨o7,o8,o9,rfl⟩,f1,s1⟩ hk;refine⟨trivial,?_⟩;have hi:=Ya2 hi;simp only[YaG,Yar,or_false]at hi;rcases hi with rfl|rfl|rfl
  ·simp! only[];exact br_0 (k:=k) hx h8 h6 by' (s1 _ _ (hf.ne_l gb) gb) f1 λo8 o9 G2 f2 s2=>hk _ _ ⟨⟨_,_,_,rfl⟩,f2,s1.trans s2⟩
  ·simp! only[];exact br_0 (k:=k) hx h8 h6 by' (s1 _ _ (hf.ne_l gb) gb) f1 λo8 o9 G2 f2 s2=>hk _ _ ⟨⟨_,_,_,rfl⟩,f2,s1.trans s2⟩
  ·simp! only[];exact br_0 (k:=k) hx h8 h6 (bb.up (by decide) (by decide)) (s1 _ _ (hf.ne_l gl) gl) f1 λo8 o9 G2 f2 s2=>hk _ _ ⟨⟨_,_,_,rfl⟩,f2,s1.trans s2⟩
def jc9  (hf:Fd G f c)(q:∀G',Fd G' f c->Q (.bl true) G'):jac T (k+7) jaZ [.loc f] G Q X:=by
 refine⟨rfl,?_⟩;simp! only[ja0,jae,Yaa];refine⟨by decide,λp0 Ga n0=>?_⟩
 refine jaj (k:=k+5) (hf.new n0) (by decide) (by decide) λd G1 d0 d1 f1 s1=>?_
 refine jaL [2,5,12,30,60] (s1 _ _ (hf.away n0).1 n0.at) d0 d1 λz hz=>?_;obtain⟨n,rfl,n2,n60⟩:∃n:Nat,z=n/\2<=n/\n<=60:=by
  simp only[YaG,Yar,or_false]at hz;exact⟨z.toNat,by lia,by lia,by lia⟩
 simp! only[];refine jh7 (k:=k+2) f1 (by lia) (by lia) λxs ss G2 x0 x8 hxs sl so f2 s2=>?_
 have e1:atI [U.tup (xs.map U.str),U.tup (ss.map Spn.u)] 0=some (U.tup (xs.map U.str)):=jdN _ _;simp! only[ix_t e1];rw[Yae];refine je4 (k:=k+4) f2 (by lia) (by lia) x8 λbs G3 bl bb f3 s3=>?_
 have hB:Bt xs.length n bs:=⟨bl,bb⟩;have hZ:=joQ x0 x8 hxs hB;rw[<- (jjE (ss:=ss) hB.l).1,<- (jjE (ss:=ss) hB.l).2];refine je3 (k:=k+5) hZ (by lia) λpb G4 h4 s4 g4=>?_
 rw[(jjE (ss:=ss) hB.l).1,(jjE (ss:=ss) hB.l).2];obtain⟨ls0,els⟩:∃ls0,ls0=jgY (xs.zip bs) n:=⟨_,rfl⟩;rw[<- els]at g4;have b0:Bd 100 600 ls0:=by
  rw[els];unfold jgY;refine⟨by rw[Yae,Yd5];lia,λy hy=>?_⟩
  obtain⟨t,ht,rfl⟩:=List.mem_map.mp hy;have:=List.mem_range.mp ht;exact jl5 (t:=(t:Int)) hZ (by lia) (by lia)
 have l0:0<ls0.length:=by rw[els];unfold jgY;rw[Yae,Yd5];lia
 have f4:=f3.sa s4;simp! only[jaP];refine⟨by decide,by decide,?_⟩
 refine jaq (λi ς G'=>(∃o5 o6 o7 o8 o9,ς=[some (.loc f),some (.int n),some (.tup [.tup (xs.map .str),.tup (ss.map Spn.u)]),some (jlU bs),some (.loc pb),o5,o6,o7,o8,o9])/\Fd G' f c/\G' pb=some (.lst (ls0.map .str))) ?_ ?_ ⟨⟨_,_,_,_,_,rfl⟩,f4,g4⟩
 ·rintro ς G5 ⟨⟨o5,o6,o7,o8,o9,rfl⟩,f5,g5⟩;simp! only[];exact⟨trivial,q _ f5⟩
 ·rintro i x ς G5 K hx ⟨⟨o5,o6,o7,o8,o9,rfl⟩,f5,g5⟩ hk;obtain⟨hi,rfl⟩:=jaK hx;refine⟨trivial,?_⟩;simp! only[];refine jaQ (k:=k+3) f5 (L:=100) (by decide) l0 (b0.up (by decide) (by decide)) g5 (f5.ne_l g5) λpc ys G6 h6 ny by6 gy6 f6 s6=>?_
  have gl6:=s6 _ _ (f5.ne_l g5) g5;simp! only[];refine⟨by decide,?_⟩
  split
  ·refine jaQ (k:=k+3) f6 (L:=310) (by decide) ny by6 gy6 (f6.ne_l gy6) λpd zs G7 h7 nz bz7 gz7 f7 s7=>?_
   have gl7:=s7 _ _ (f6.ne_l gl6) gl6;simp! only[];exact br_2 (k:=k) hxs x8 (by lia) f7 (bz7.up (by decide) (by decide)) gz7 b0 gl7 λo7 o8 o9 G8 f8 s8=>hk _ _ ⟨⟨_,_,_,_,_,rfl⟩,f8,s8 _ _ (f7.ne_l gl7) gl7⟩
  ·simp! only[];exact br_2 (k:=k) hxs x8 (by lia) f6 (by6.up (by decide) (by decide)) gy6 b0 gl6 λo7 o8 o9 G8 f8 s8=>hk _ _ ⟨⟨_,_,_,_,_,rfl⟩,f8,s8 _ _ (f6.ne_l gl6) gl6⟩
def law_ir   a (ns:List Int)(hl:ns.length<=63):jac T 300 jlX [.loc a] (G0 a ns) (λu _=>u=.bl true) λ_ _=>False:=by
 refine⟨rfl,?_⟩;simp! only[joG,jae,Yaa];refine jlR (by unfold G0;rw[if_pos rfl]) hl λf c G1 f1=>?_
 simp! only[];refine jdG (k:=292) f1 λG2 f2=>?_;simp! only[];refine jc9 (k:=292) f2 λG3 f3=>?_;rfl

noncomputable def sts  : List Stmt:=[s_is_name,s_words_of,s_number_in,s_first_fault,s_works_fault,s_span_fault,s_span_in,s_read_plan,s_line_fault,s_read_board,s_law_feed,s_law_draw,s_law_names,s_law_cycle,s_law_number,s_law_span,s_law_plan,s_law_beats,s_law_lines,s_law_figures,s_law_is_name,s_law_span_words,s_law_read,s_law_told,s_law_board,s_law_board_told,s_law_line_due,s_law_board_due,s_law_signs,s_law_spoilt,s_law_one_spoilt,s_law_lines_right,s_law_boards_right,s_law]
def prog_rep  : jei T 0 T.funs sts=true:=by decide +kernel
def jdJ  : NestS T sts jbl s_works_fault jbV jaS s_first_fault ja8 ja9 where
 sc:=jfJ (by decide +kernel)
 body:=rfl
 text:=⟨_,_,_,_,_,_,_,_,rfl,by unfold tabs;exact YeC _⟩
 wi:=rfl
 wv:=.inr rfl
 fi:=rfl
 fl:=rfl
 gl:=rfl
 dbg:=⟨rfl,rfl,rfl,rfl,rfl⟩
 caps:=λi j e=>by
  rcases i with _|i
  ·cases e;exact⟨by decide,_,rfl,rfl,rfl,rfl⟩
  cases e
 wlt:=by decide
 fge:=by decide
 frees:=by decide +kernel
 cs:=jiZ (by decide +kernel)
 args:=⟨rfl,rfl⟩
 ann:=λ_=>rfl
 bind:=λ_ _ _ _ _ _ _=>rfl
 ff:=rfl
 ffs:=rfl
 ffb:=rfl
 ffp:=rfl
 ffl:=rfl
 hdv:=rfl
 dvb:=rfl
 dvN:=rfl
 hdc:=rfl
 dcp:=rfl
 dcN:=by decide
 ok:=by decide +kernel
 un:=rfl
def jep  : NestS T sts jbB s_span_fault jcs jaS s_first_fault jbh jbj where
 sc:=jfJ (by decide +kernel)
 body:=rfl
 text:=⟨_,_,_,_,_,_,_,_,rfl,by unfold tabs;exact YeB _ (YeC _)⟩
 wi:=rfl
 wv:=.inr rfl
 fi:=rfl
 fl:=rfl
 gl:=rfl
 dbg:=⟨rfl,rfl,rfl,rfl,rfl⟩
 caps:=λi j e=>by
  rcases i with _|i
  ·cases e;exact⟨by decide,_,rfl,rfl,rfl,rfl⟩
  rcases i with _|i
  ·cases e;exact⟨by decide,_,rfl,rfl,rfl,rfl⟩
  cases e
 wlt:=by decide
 fge:=by decide
 frees:=by decide +kernel
 cs:=jiZ (by decide +kernel)
 args:=⟨rfl,rfl⟩
 ann:=λ_=>rfl
 bind:=λ_ _ _ _ _ _ _=>rfl
 ff:=rfl
 ffs:=rfl
 ffb:=rfl
 ffp:=rfl
 ffl:=rfl
 hdv:=rfl
 dvb:=rfl
 dvN:=rfl
 hdc:=rfl
 dcp:=rfl
 dcN:=by decide
 ok:=by decide +kernel
 un:=rfl
def jeq  : NestS T sts jbC s_line_fault jct jaS s_first_fault jbi jbk where
 sc:=jfJ (by decide +kernel)
 body:=rfl
 text:=⟨_,_,_,_,_,_,_,_,rfl,by unfold tabs;exact YeB _ (YeB _ (YeC _))⟩
 wi:=rfl
 wv:=.inr rfl
 fi:=rfl
 fl:=rfl
 gl:=rfl
 dbg:=⟨rfl,rfl,rfl,rfl,rfl⟩
 caps:=λi j e=>by
  rcases i with _|i
  ·cases e;exact⟨by decide,_,rfl,rfl,rfl,rfl⟩
  rcases i with _|i
  ·cases e;exact⟨by decide,_,rfl,rfl,rfl,rfl⟩
  rcases i with _|i
  ·cases e;exact⟨by decide,_,rfl,rfl,rfl,rfl⟩
  rcases i with _|i
  ·cases e;exact⟨by decide,_,rfl,rfl,rfl,rfl⟩
  cases e
 wlt:=by decide
 fge:=by decide
 frees:=by decide +kernel
 cs:=jiZ (by decide +kernel)
 args:=⟨rfl,rfl⟩
 ann:=λ_=>rfl
 bind:=λ_ _ _ _ _ _ _=>rfl
 ff:=rfl
 ffs:=rfl
 ffb:=rfl
 ffp:=rfl
 ffl:=rfl
 hdv:=rfl
 dvb:=rfl
 dvN:=rfl
 hdc:=rfl
 dcp:=rfl
 dcN:=by decide
 ok:=by decide +kernel
 un:=rfl
def prog_eq  : jeU T sts 0 T.funs sts:=⟨rfl,rfl,rfl,rfl,⟨rfl,_,_,_,_,jdJ⟩,⟨rfl,_,_,_,_,jep⟩,rfl,rfl,⟨rfl,_,_,_,_,jeq⟩,rfl,rfl,rfl,rfl,rfl,rfl,rfl,rfl,rfl,rfl,rfl,rfl,rfl,rfl,rfl,rfl,rfl,rfl,rfl,rfl,rfl,rfl,rfl,rfl,rfl,trivial⟩
def tabsU  : ∀t∈tabs,∀t'∈tabs,t.1=t'.1->t=t':=by
 intro t h t' h' e;simp only[tabs,YaG,Yar,or_false]at h;simp only[tabs,YaG,Yar,or_false]at h';rcases h with rfl|rfl|rfl<;>rcases h' with rfl|rfl|rfl<;>first|rfl|exact absurd e (by decide)
noncomputable def tbs  : List (Str×Addr×Addr):=[("works_fault",152,148),("span_fault",159,155),("line_fault",180,176)]
def walk  {l:Yec}{K:Params->Yab}(hn:l.most=some 63)(hdf:d.params.defaults=[])
  (hY:∀(w:World) (h:Heap),YP w h->(K w.params).In h) (hK:∀w:World,((K w.params).all λp=>p.2.cls != .type "list")=true) (hsy:∀w:World,∃o,(K w.params).lookup Ya8=some o/\o.cls=.type "dict")
  (hT:∀(w:World),∀t∈tbs,(∃dr,(PyProof.Rows.recsOf q).find? (λe=>e.name==t.1)=some dr)/\PySem.W.tabIn (K w.params) t.1=some (t.2.1,t.2.2)/\(K w.params).lookup t.2.2=none)
  (F:∀(w:World) mg fa (h:Heap),(K w.params).In h->h.Ns YaC mg->mg d.name=some (.ref fa)->
   ∃fd ,(∀(s:Shared) u ,BindsTo s fd ⟨[u],[]⟩ [("_law_script",u)])/\∀base ,(K w.params).In base->base.Ns YaC mg->BmAt mg base->FnOk l.prog w (K w.params) mg base (CX1 l.prog w) 302 fa fd ["_law_script"] (lSp (K w.params) (jac T 300 jlX))) :
  Ygn q loose XP YP l.row.toRowW d [] (λf vs=>YfV f vs):=
 L2.walk_ofT (n:=63) (k:=302) (x := "_law_script") (CX:=λw=>CX1 l.prog w) (sp:=λw=>lSp (K w.params) (jac T 300 jlX)) hK hT hn (by decide) hdf ⟨rfl,by decide,by decide,rfl⟩ hY hsy F (λw _ _ a ns hl hO hS=>law_sp (by decide) hO hS (law_ir a ns hl)) λ_ _ _ _ _ ⟨_,_,_,_,_,_,_,_,_,_,z⟩=>z
end Z
namespace Y
open PySem L2
set_option maxHeartbeats 0
noncomputable def q0  : Str := "/claim/cut.py"
noncomputable def q1  : Str := "<module>"
noncomputable def q2  : Str := "__main__"
noncomputable def q3  : Str := "TooMany"
noncomputable def q4  : Str := "__init__"
noncomputable def q5  : Str := "NoRing.__init__"
noncomputable def q6  : Str := "beatplans.errors"
noncomputable def q7  : Str := "NoRing"
noncomputable def q8  : Str := "NoPaper.__init__"
noncomputable def q9  : Str := "__module__"
noncomputable def q10  : Str := "__firstlineno__"
noncomputable def q11  : Str := "__static_attributes__"
noncomputable def q12  : Str := "__weakref__"
noncomputable def q13  : Str := "__doc__"
noncomputable def q14  : Str := "self"
noncomputable def q15  : Str := "word"
noncomputable def q16  : Str := "TooMany.__init__"
noncomputable def q17  : Str := "__name__"
noncomputable def q18  : Str := "__package__"
noncomputable def q19  : Str := "__loader__"
noncomputable def q20  : Str := "__spec__"
noncomputable def q21  : Str := "__annotations__"
noncomputable def q22  : Str := "__builtins__"
noncomputable def q23  : Str := "__file__"
noncomputable def q24  : Str := "__cached__"
noncomputable def q25  : Str := "PlanError"
noncomputable def q26  : Str := "NoPaper"
noncomputable def q27  : Str := "__qualname__"
noncomputable def q28  : Str := "at"
noncomputable def q29  : Str := "is_name"
noncomputable def q30  : Str := "beatplans.plans"
noncomputable def q31  : Str := "_law_feed"
noncomputable def q32  : Str := "span_fault"
noncomputable def q33  : Str := "_law_draw"
noncomputable def q34  : Str := "span_in"
noncomputable def q35  : Str := "beatplans.lines"
noncomputable def q36  : Str := "works_fault"
noncomputable def q37  : Str := "NoText"
noncomputable def q38  : Str := "names"
noncomputable def q39  : Str := "words"
noncomputable def q40  : Str := "one"
noncomputable def q41  : Str := "other"
noncomputable def q42  : Str := "low"
noncomputable def q43  : Str := "high"
noncomputable def q44  : Str := "row"
noncomputable def q45  : Str := "line_fault"
noncomputable def q46  : Str := "NoRow.__init__"
noncomputable def q47  : Str := "number_in"
noncomputable def q48  : Str := "_law_names"
noncomputable def q49  : Str := "law_beatplans_k85_lines_and_boards_spoilt_an"
noncomputable def q50  : Str := "NoRow"
noncomputable def q51  : Str := "MOST_SIGNS"
noncomputable def q52  : Str := "MOST_NAMES"
noncomputable def q53  : Str := "MOST_SPANS"
noncomputable def q54  : Str := "MOST_FIGURES"
noncomputable def q55  : Str := "FIGURES"
noncomputable def q56  : Str := "0123456789"
noncomputable def q57  : Str := "words_of"
noncomputable def q58  : Str := "first_fault"
noncomputable def q59  : Str := "read_plan"
noncomputable def q60  : Str := "NO_NAME"
noncomputable def q61  : Str := "-"
noncomputable def q62  : Str := "read_board"
noncomputable def q63  : Str := "NoText.__init__"
noncomputable def q64  : Str := "told"
noncomputable def q65  : Str := "beat"
noncomputable def q66  : Str := "fits"
noncomputable def q67  : Str := "beatplans.boards"
noncomputable def q68  : Str := "_law_script"
noncomputable def q69  : Str := "_law_feed_here"
noncomputable def q70  : Str := "_law_many"
noncomputable def q71  : Str := "_law_cell"
noncomputable def q72  : Str := "_law_mixed"
noncomputable def q73  : Str := "_law_found"
noncomputable def q74  : Str := "line"
noncomputable def q75  : Str := "lines"
noncomputable def q76  : Str := "first"
noncomputable def q77  : Str := "spans"
noncomputable def q78  : Str := "least"
noncomputable def q79  : Str := "_law_is_name"
noncomputable def q80  : Str := "_law_one_spoilt"
noncomputable def q81  : Str := "_law_boards_right"
noncomputable def q82  : Str := "_law_lines_right"
noncomputable def q83  : Str := "_law_line_due"
noncomputable def q84  : Str := "_law_plan"
noncomputable def q85  : Str := "_law_plan_here"
noncomputable def q86  : Str := "_law_cycle_here"
noncomputable def q87  : Str := "_law_beats_here"
noncomputable def q88  : Str := "_law_lines_here"
noncomputable def q89  : Str := "_law_beat"
noncomputable def q90  : Str := "_law_words"
noncomputable def q91  : Str := "_law_work"
noncomputable def q92  : Str := "_law_way"
noncomputable def q93  : Str := "_law_told"
noncomputable def q94  : Str := "_law_cycle"
noncomputable def q95  : Str := "_law_signs"
noncomputable def q96  : Str := "_law_lines"
noncomputable def q97  : Str := "_law_read"
noncomputable def q98  : Str := "_law_turn"
noncomputable def q99  : Str := "_law_bent"
noncomputable def q100  : Str := "_law_some"
noncomputable def q101  : Str := "_law_handed"
noncomputable def q102  : Str := "_law_told_here"
noncomputable def q103  : Str := "_law_board"
noncomputable def q104  : Str := "_law_number"
noncomputable def q105  : Str := "_law_span"
noncomputable def q106  : Str := "_law_beats"
noncomputable def q107  : Str := "_law_figures"
noncomputable def q108  : Str := "_law_span_words"
noncomputable def q109  : Str := "_law_board_told"
noncomputable def q110  : Str := "_law_board_due"
noncomputable def q111  : Str := "_law_spoilt"
noncomputable def q112  : Str := "law"
noncomputable def q113  : Str := "_law_names_here"
noncomputable def q114  : Str := "_law_spans"
noncomputable def q115  : Str := "_law_word"
noncomputable def q116  : Str := "_law_one"
noncomputable def q117  : Str := "_law_other"
noncomputable def q118  : Str := "_law_low"
noncomputable def q119  : Str := "_law_high"
noncomputable def q120  : Str := "_law_at"
noncomputable def q121  : Str := "_law_row"
noncomputable def q122  : Str := "_law_known"
noncomputable def q123  : Str := "_law_last"
noncomputable def q124  : Str := "_law_works"
noncomputable def q125  : Str := "_law_k"
noncomputable def q126  : Str := "e"
noncomputable def q127  : Str := "_law_others"
noncomputable def q128  : Str := "_law_good"
noncomputable def q129  : Str := "_law_ends"
noncomputable def q130  : Str := "_law_more"
noncomputable def h0  : List Value:=[]
noncomputable def o0  : Obj:=sO .none h0
noncomputable def o1  : Obj:=kO q0 q1 q1 182 1 0 0 11 false .none .none .none 185
noncomputable def o2  : Obj:=rO [(some (.ref 13)),(some (.ref 3)),(some (.ref 3)),none,(some (.str q2 164)),none,(some (.ref 0))]
noncomputable def o3  : Obj:=cO q3 [(.ref 24)] [(.ref 63),(.ref 24),(.type "ValueError"),(.type "Exception"),(.type "BaseException"),(.type "object")] 62 [] [(some (.ref 47)),none,(some (.str q3 234)),(some (.str q3 242)),(some (.builtin "ValueError.__new__")),(some (.bool true))]
noncomputable def o4  : Obj:=fO q4 q5 (jaG (Z.top 4) 0) (.str q6 187) 78
noncomputable def o5  : Obj:=tO [(.ref 24)]
noncomputable def o6  : Obj:=tO [(.type "ValueError")]
noncomputable def o7  : Obj:=kO q0 q7 q7 261 13 0 0 69 false .none .none .none 264
noncomputable def o8  : Obj:=gO q4 q8 (jaG (Z.top 2) 0)
noncomputable def o9  (P:Params):Obj:=dO (dE P q9 196 (.str q6 187)::dE P q10 200 (.int 2 199)::dE P q11 201 (.ref 22)::dE P q12 203 (.ref 25)::dE P q13 204 .none::[]) 3
noncomputable def o10  : Obj:=sO (.type "builtin_function_or_method") [(.builtin "type.__prepare__"),(.type "type")]
noncomputable def o11  : Obj:=sO (.type "super") [(.ref 82),(.ref 82),(.ref 82)]
noncomputable def o12  : Obj:=sO .none [(.int 11 0),(.int 4 0),(.ref 59)]
noncomputable def o13  : Obj:=tO [(.str q14 274),(.str q15 275)]
noncomputable def o14  (P:Params):Obj:=dO (dE P q9 214 (.str q6 187)::dE P q10 218 (.int 4 217)::dE P q4 227 (.ref 41)::dE P q11 230 (.ref 42)::dE P q13 231 .none::[]) 2
noncomputable def o15  : Obj:=kO q0 q4 q16 246 11 2 3 54 true (.ref 56) (.ref 57) (.ref 58) 251
noncomputable def o16  : Obj:=sO (.type "builtin_function_or_method") [(.builtin "object.__init_subclass__"),(.ref 24)]
noncomputable def g18  (P:Params):List Yew:=dE P q13 166 .none::dE P q18 167 .none::dE P q19 168 (.builtin "__main__.__loader__#opaque")::dE P q20 169 .none::dE P q21 170 (.ref 6)::dE P q22 171 (.ref 4)::dE P q23 173 (.str q0 172)::dE P q24 174 .none::dE P q25 206 (.ref 24)::dE P q26 233 (.ref 44)::dE P q3 258 (.ref 63)::dE P q7 283 (.ref 82)::[]
noncomputable def o17  (P:Params):Obj:=dO (dE P q17 165 (.str q6 187)::g18 P) 13
noncomputable def o18  : Obj:=sO (.type "builtin_function_or_method") [(.builtin "object.__init_subclass__"),(.ref 63)]
noncomputable def o19  : Obj:=kO q0 q26 q26 209 4 0 0 31 false .none .none .none 212
noncomputable def o20  (P:Params):Obj:=dO (dE P q9 266 (.str q6 187)::dE P q10 270 (.int 13 269)::dE P q4 278 (.ref 79)::dE P q11 280 (.ref 80)::dE P q13 281 .none::[]) 2
noncomputable def o21  (P:Params):Obj:=dO (dE P q9 241 (.str q6 187)::dE P q27 243 (.str q3 242)::dE P q10 245 (.int 9 244)::dE P q4 253 (.ref 60)::dE P q11 255 (.ref 61)::[]) 5
noncomputable def o22  (P:Params):Obj:=dO (dE P q9 196 (.str q6 187)::dE P q27 198 (.str q25 197)::dE P q10 200 (.int 2 199)::dE P q11 201 (.ref 22)::[]) 4
noncomputable def o23  : Obj:=fO q4 q8 (jaG (Z.top 2) 0) (.str q6 187) 40
noncomputable def o24  : Obj:=sO (.type "getset_descriptor") [(.str q12 202),(.ref 24),(.builtin "ExceptionGroup.__weakref__"),.none]
noncomputable def o25  : Obj:=tO [(.str q14 222),(.str q15 223),(.str q28 224)]
noncomputable def o26  : Obj:=rO [(some (.ref 52)),(some (.ref 3)),(some (.ref 49)),none,(some (.str q6 187)),none,(some (.ref 0))]
noncomputable def o27  : Obj:=rO [(some (.ref 20)),(some (.ref 3)),(some (.ref 17)),none,(some (.str q6 187)),none,(some (.ref 0))]
noncomputable def o28  : Obj:=gO q4 q5 (jaG (Z.top 4) 0)
noncomputable def o29  : Obj:=sO (.type "super") [(.ref 44),(.ref 44),(.ref 44)]
noncomputable def o30  : Obj:=tO [(.str q15 254)]
noncomputable def o31  : Obj:=sO (.type "super") [(.ref 63),(.ref 63),(.ref 63)]
noncomputable def o32  : Obj:=sO .none [(.int 6 0),(.int 4 0),(.ref 40)]
noncomputable def o33  : Obj:=tO [(.str q15 279)]
noncomputable def o34  : Obj:=rO [(some (.ref 71)),(some (.ref 3)),(some (.ref 68)),none,(some (.str q6 187)),none,(some (.ref 0))]
noncomputable def o35  : Obj:=kO q0 q4 q8 219 6 3 3 35 true (.ref 37) (.ref 38) (.ref 39) 225
noncomputable def o36  : Obj:=tO [(.str q14 249),(.str q15 250)]
noncomputable def o37  : Obj:=cO q25 [(.type "ValueError")] [(.ref 24),(.type "ValueError"),(.type "Exception"),(.type "BaseException"),(.type "object")] 23 [(.ref 44),(.ref 63),(.ref 82)] [(some (.ref 15)),none,(some (.str q25 189)),(some (.str q25 197)),(some (.builtin "ValueError.__new__")),(some (.bool true))]
noncomputable def o38  (P:Params):Obj:=dO (dE P q9 266 (.str q6 187)::dE P q27 268 (.str q7 267)::dE P q10 270 (.int 13 269)::dE P q4 278 (.ref 79)::dE P q11 280 (.ref 80)::[]) 5
noncomputable def o39  : Obj:=sO (.type "builtin_function_or_method") [(.builtin "object.__init_subclass__"),(.ref 82)]
noncomputable def o40  : Obj:=kO q0 q3 q3 236 9 0 0 50 false .none .none .none 239
noncomputable def o41  : Obj:=kO q0 q25 q25 191 2 0 0 18 false .none .none .none 194
noncomputable def o42  : Obj:=cO q26 [(.ref 24)] [(.ref 44),(.ref 24),(.type "ValueError"),(.type "Exception"),(.type "BaseException"),(.type "object")] 43 [] [(some (.ref 28)),none,(some (.str q26 207)),(some (.str q26 215)),(some (.builtin "ValueError.__new__")),(some (.bool true))]
noncomputable def o43  : Obj:=fO q4 q16 (jaG (Z.top 3) 0) (.str q6 187) 59
noncomputable def h46  : List Value:=h0++[(.int 2 0),(.int 0 0),(.ref 20),(.int 4 0),(.int 0 0),(.ref 33),(.int 9 0),(.int 0 0),(.ref 52),(.int 13 0),(.int 0 0),(.ref 71)]
noncomputable def o44  : Obj:=sO .none h46
noncomputable def o45  : Obj:=rO [(some (.ref 33)),(some (.ref 3)),(some (.ref 30)),none,(some (.str q6 187)),none,(some (.ref 0))]
noncomputable def o46  : Obj:=cO q7 [(.ref 24)] [(.ref 82),(.ref 24),(.type "ValueError"),(.type "Exception"),(.type "BaseException"),(.type "object")] 81 [] [(some (.ref 66)),none,(some (.str q7 259)),(some (.str q7 267)),(some (.builtin "ValueError.__new__")),(some (.bool true))]
noncomputable def o47  : Obj:=tO [(.str q28 228),(.str q15 229)]
noncomputable def o48  : Obj:=gO q4 q16 (jaG (Z.top 3) 0)
noncomputable def o49  : Obj:=sO (.type "super") [(.ref 24),(.ref 24),(.ref 24)]
noncomputable def o50  : Obj:=sO .none [(.int 15 0),(.int 4 0),(.ref 78)]
noncomputable def o51  : Obj:=kO q0 q4 q5 271 15 2 3 73 true (.ref 75) (.ref 76) (.ref 77) 276
noncomputable def o52  : Obj:=sO (.type "builtin_function_or_method") [(.builtin "object.__init_subclass__"),(.ref 44)]
noncomputable def o53  (P:Params):Obj:=dO (dE P q9 241 (.str q6 187)::dE P q10 245 (.int 9 244)::dE P q4 253 (.ref 60)::dE P q11 255 (.ref 61)::dE P q13 256 .none::[]) 2
noncomputable def o54  (P:Params):Obj:=dO (dE P q9 214 (.str q6 187)::dE P q27 216 (.str q26 215)::dE P q10 218 (.int 4 217)::dE P q4 227 (.ref 41)::dE P q11 230 (.ref 42)::[]) 5
noncomputable def o55  : Obj:=fO q29 q29 (Z.top 11) (.str q30 336) 126
noncomputable def o56  : Obj:=gO q31 q31 (Z.top 27)
noncomputable def o57  : Obj:=kO q0 q32 q32 388 55 2 3 154 true (.ref 156) (.ref 157) (.ref 158) 396
noncomputable def o58  : Obj:=kO q0 q33 q33 459 116 2 3 194 true (.ref 196) (.ref 197) (.ref 198) 467
noncomputable def o59  : Obj:=fO q34 q34 (Z.top 20) (.str q35 350) 166
noncomputable def o60  : Obj:=sO (.type "builtin_function_or_method") [(.builtin "object.__init_subclass__"),(.ref 101)]
noncomputable def o61  : Obj:=gO q36 q36 (Z.top 18)
noncomputable def o62  (P:Params):Obj:=dO (dE P q9 291 (.str q6 187)::dE P q27 293 (.str q37 292)::dE P q10 295 (.int 17 294)::dE P q4 304 (.ref 98)::dE P q11 307 (.ref 99)::[]) 5
noncomputable def o63  (P:Params):Obj:=dO (dE P q9 318 (.str q6 187)::dE P q10 322 (.int 22 321)::dE P q4 330 (.ref 117)::dE P q11 332 (.ref 118)::dE P q13 333 .none::[]) 2
noncomputable def o64  : Obj:=tO [(.str q38 402),(.str q39 403),(.str q15 404),(.str q40 405),(.str q41 406),(.str q42 407),(.str q43 408)]
noncomputable def o65  : Obj:=tO [(.str q44 305),(.str q15 306)]
noncomputable def o66  : Obj:=gO q45 q45 (Z.top 24)
noncomputable def o67  : Obj:=gO q4 q46 (jaG (Z.top 6) 0)
noncomputable def o68  : Obj:=fO q47 q47 (Z.top 16) (.str q35 350) 138
noncomputable def o69  : Obj:=gO q48 q48 (Z.top 29)
noncomputable def o70  : Obj:=rO [(some (.ref 90)),(some (.ref 3)),(some (.ref 87)),none,(some (.str q6 187)),none,(some (.ref 0))]
noncomputable def g74  (P:Params):List Yew:=g18 P++[dE P q37 310 (.ref 101),dE P q50 335 (.ref 120),dE P q51 339 (.int 8 338),dE P q52 341 (.int 8 340),dE P q53 343 (.int 24 342),dE P q29 349 (.ref 127),dE P q54 353 (.int 4 352),dE P q55 355 (.str q56 354),dE P q57 362 (.ref 134),dE P q47 368 (.ref 139),dE P q58 378 (.ref 146),dE P q36 387 (.ref 153),dE P q32 398 (.ref 160),dE P q34 411 (.ref 167),dE P q59 424 (.ref 174),dE P q60 428 (.str q61 427),dE P q45 443 (.ref 181),dE P q62 449 (.ref 186),dE P q31 458 (.ref 193),dE P q33 469 (.ref 200),dE P q48 475 (.ref 205)]
noncomputable def o71  (P:Params):Obj:=dO (dE P q17 165 (.str q49 450)::g74 P) 34
noncomputable def o72  : Obj:=fO q31 q31 (Z.top 27) (.str q49 450) 192
noncomputable def o73  : Obj:=kO q0 q4 q63 296 19 3 3 92 true (.ref 94) (.ref 95) (.ref 96) 302
noncomputable def o74  : Obj:=kO q0 q58 q58 369 43 3 3 140 true (.ref 142) (.ref 143) (.ref 144) 376
noncomputable def o75  : Obj:=tO [(.str q38 432),(.str q64 433),(.str q65 434),(.str q39 435),(.str q66 436)]
noncomputable def o76  : Obj:=tO [(.str q14 326),(.str q44 327)]
noncomputable def o77  : Obj:=gO q47 q47 (Z.top 16)
noncomputable def o78  : Obj:=fO q36 q36 (Z.top 18) (.str q35 350) 152
noncomputable def o79  : Obj:=sO .none [(.int 19 0),(.int 4 0),(.ref 97)]
noncomputable def o80  : Obj:=kO q0 q62 q62 444 99 3 3 182 true .none .none (.ref 184) 447
noncomputable def o81  : Obj:=sO (.type "super") [(.ref 120),(.ref 120),(.ref 120)]
noncomputable def o82  : Obj:=kO q0 q57 q57 356 37 1 3 128 true (.ref 130) (.ref 131) (.ref 132) 360
noncomputable def o83  : Obj:=gO q34 q34 (Z.top 20)
noncomputable def o84  : Obj:=cO q37 [(.ref 24)] [(.ref 101),(.ref 24),(.type "ValueError"),(.type "Exception"),(.type "BaseException"),(.type "object")] 100 [] [(some (.ref 85)),none,(some (.str q37 284)),(some (.str q37 292)),(some (.builtin "ValueError.__new__")),(some (.bool true))]
noncomputable def o85  : Obj:=tO [(.str q39 382),(.str q66 383)]
noncomputable def o86  : Obj:=fO q45 q45 (Z.top 24) (.str q67 425) 180
noncomputable def o87  : Obj:=fO q4 q46 (jaG (Z.top 6) 0) (.str q6 187) 116
noncomputable def o88  : Obj:=fO q48 q48 (Z.top 29) (.str q49 450) 204
noncomputable def o89  : Obj:=kO q0 q59 q59 412 69 1 3 168 true (.ref 170) (.ref 171) (.ref 172) 422
noncomputable def o90  : Obj:=kO q0 q50 q50 313 22 0 0 107 false .none .none .none 316
noncomputable def o91  : Obj:=tO [(.str q38 394),(.str q39 395)]
noncomputable def o92  : Obj:=tO [(.str q68 455)]
noncomputable def o93  : Obj:=gO q29 q29 (Z.top 11)
noncomputable def o94  : Obj:=kO q0 q31 q31 452 114 1 3 187 true (.ref 189) (.ref 190) (.ref 191) 456
noncomputable def o95  : Obj:=fO q32 q32 (Z.top 19) (.str q35 350) 159
noncomputable def o96  : Obj:=gO q4 q63 (jaG (Z.top 5) 0)
noncomputable def o97  : Obj:=gO q58 q58 (Z.top 17)
noncomputable def o98  : Obj:=fO q33 q33 (Z.top 28) (.str q49 450) 199
noncomputable def o99  : Obj:=kO q0 q36 q36 379 48 1 3 147 true (.ref 149) (.ref 150) (.ref 151) 385
noncomputable def o100  : Obj:=gO q62 q62 (Z.top 25)
noncomputable def o101  : Obj:=cO q50 [(.ref 24)] [(.ref 120),(.ref 24),(.type "ValueError"),(.type "Exception"),(.type "BaseException"),(.type "object")] 119 [] [(some (.ref 104)),none,(some (.str q50 311)),(some (.str q50 319)),(some (.builtin "ValueError.__new__")),(some (.bool true))]
noncomputable def o102  : Obj:=cO q25 [(.type "ValueError")] [(.ref 24),(.type "ValueError"),(.type "Exception"),(.type "BaseException"),(.type "object")] 23 [(.ref 44),(.ref 63),(.ref 82),(.ref 101),(.ref 120)] [(some (.ref 15)),none,(some (.str q25 189)),(some (.str q25 197)),(some (.builtin "ValueError.__new__")),(some (.bool true))]
noncomputable def o103  : Obj:=gO q57 q57 (Z.top 15)
noncomputable def o104  : Obj:=tO [(.str q69 462),(.str q70 463),(.str q71 464),(.str q72 465),(.str q73 466)]
noncomputable def o105  (P:Params):Obj:=dO (dE P q9 291 (.str q6 187)::dE P q10 295 (.int 17 294)::dE P q4 304 (.ref 98)::dE P q11 307 (.ref 99)::dE P q13 308 .none::[]) 2
noncomputable def o106  : Obj:=kO q0 q45 q45 429 87 4 3 175 true (.ref 177) (.ref 178) (.ref 179) 441
noncomputable def o107  : Obj:=kO q0 q4 q46 323 24 2 3 111 true (.ref 113) (.ref 114) (.ref 115) 328
noncomputable def o108  : Obj:=kO q0 q48 q48 470 129 2 3 201 true .none .none (.ref 203) 473
noncomputable def o109  : Obj:=gO q59 q59 (Z.top 21)
noncomputable def o110  : Obj:=sO .none [(.int 24 0),(.int 4 0),(.ref 116)]
noncomputable def o111  : Obj:=tO [(.str q38 391),(.str q39 392),(.str q66 393)]
noncomputable def h116  : List Value:=h46++[(.int 17 0),(.int 0 0),(.ref 90),(.int 22 0),(.int 0 0),(.ref 109),(.int 30 0),(.int 0 0),(.ref 126),(.int 37 0),(.int 0 0),(.ref 133),(.int 39 0),(.int 0 0),(.ref 138),(.int 43 0),(.int 0 0),(.ref 145),(.int 48 0),(.int 0 0),(.ref 152),(.int 55 0),(.int 0 0),(.ref 159),(.int 66 0),(.int 0 0),(.ref 166),(.int 69 0),(.int 0 0),(.ref 173),(.int 87 0),(.int 0 0),(.ref 180),(.int 99 0),(.int 0 0),(.ref 185),(.int 114 0),(.int 0 0),(.ref 192),(.int 116 0),(.int 0 0),(.ref 199),(.int 129 0),(.int 0 0),(.ref 204)]
noncomputable def o112  : Obj:=sO .none h116
noncomputable def o113  : Obj:=tO [(.str q74 359)]
noncomputable def o114  : Obj:=fO q4 q63 (jaG (Z.top 5) 0) (.str q6 187) 97
noncomputable def o115  : Obj:=fO q58 q58 (Z.top 17) (.str q35 350) 145
noncomputable def o116  : Obj:=tO [(.str q38 437),(.str q64 438),(.str q65 439),(.str q39 440)]
noncomputable def o117  : Obj:=kO q0 q47 q47 363 39 1 3 135 true .none .none (.ref 137) 366
noncomputable def o118  : Obj:=tO [(.str q75 415),(.str q76 416),(.str q28 417),(.str q38 418),(.str q77 419),(.str q44 420),(.str q39 421)]
noncomputable def o119  (P:Params):Obj:=dO (dE P q9 318 (.str q6 187)::dE P q27 320 (.str q50 319)::dE P q10 322 (.int 22 321)::dE P q4 330 (.ref 117)::dE P q11 332 (.ref 118)::[]) 5
noncomputable def o120  : Obj:=kO q0 q37 q37 286 17 0 0 88 false .none .none .none 289
noncomputable def o121  : Obj:=fO q62 q62 (Z.top 25) (.str q67 425) 185
noncomputable def o122  : Obj:=sO (.type "builtin_function_or_method") [(.builtin "object.__init_subclass__"),(.ref 120)]
noncomputable def o123  : Obj:=fO q57 q57 (Z.top 15) (.str q35 350) 133
noncomputable def o124  : Obj:=gO q33 q33 (Z.top 28)
noncomputable def o125  : Obj:=kO q0 q34 q34 399 66 2 3 161 true (.ref 163) (.ref 164) (.ref 165) 409
noncomputable def o126  : Obj:=sO (.type "super") [(.ref 101),(.ref 101),(.ref 101)]
noncomputable def o127  : Obj:=tO [(.str q39 384)]
noncomputable def o128  : Obj:=tO [(.str q44 331)]
noncomputable def o129  : Obj:=tO [(.str q39 372),(.str q78 373),(.str q66 374),(.str q28 375)]
noncomputable def o130  : Obj:=fO q59 q59 (Z.top 21) (.str q35 350) 173
noncomputable def o131  : Obj:=rO [(some (.ref 109)),(some (.ref 3)),(some (.ref 106)),none,(some (.str q6 187)),none,(some (.ref 0))]
noncomputable def o132  : Obj:=gO q32 q32 (Z.top 19)
noncomputable def o133  : Obj:=tO [(.str q14 299),(.str q44 300),(.str q15 301)]
noncomputable def o134  : Obj:=kO q0 q29 q29 344 30 1 3 123 true .none .none (.ref 125) 347
noncomputable def o135  : Obj:=fO q79 q79 (Z.top 37) (.str q49 450) 254
noncomputable def o136  : Obj:=gO q80 q80 (Z.top 47)
noncomputable def o137  : Obj:=fO q81 q81 (Z.top 49) (.str q49 450) 334
noncomputable def o138  : Obj:=kO q0 q82 q82 649 292 1 3 322 true (.ref 324) (.ref 325) (.ref 326) 659
noncomputable def o139  : Obj:=gO q83 q83 (Z.top 43)
noncomputable def o140  : Obj:=gO q84 q84 (Z.top 33)
noncomputable def o141  : Obj:=tO [(.str q85 587),(.str q86 588),(.str q87 589),(.str q88 590),(.str q89 591),(.str q90 592),(.str q91 593)]
noncomputable def o142  : Obj:=tO [(.str q69 486),(.str q86 487),(.str q92 488)]
noncomputable def o143  : Obj:=kO q0 q93 q93 574 217 1 3 270 true (.ref 272) (.ref 273) (.ref 274) 581
noncomputable def o144  : Obj:=kO q0 q94 q94 476 140 1 3 206 true (.ref 208) (.ref 209) (.ref 210) 480
noncomputable def o145  : Obj:=gO q95 q95 (Z.top 45)
noncomputable def o146  : Obj:=gO q96 q96 (Z.top 35)
noncomputable def o147  : Obj:=gO q97 q97 (Z.top 39)
noncomputable def o148  : Obj:=tO [(.str q69 665),(.str q86 666),(.str q85 667),(.str q87 668),(.str q88 669),(.str q98 670),(.str q99 671),(.str q100 672),(.str q101 673),(.str q102 674)]
noncomputable def o149  : Obj:=fO q103 q103 (Z.top 41) (.str q49 450) 282
noncomputable def o150  : Obj:=fO q104 q104 (Z.top 31) (.str q49 450) 218
noncomputable def g156  (P:Params):List Yew:=g74 P++[dE P q94 482 (.ref 212),dE P q104 491 (.ref 219),dE P q105 503 (.ref 226),dE P q84 515 (.ref 233),dE P q106 521 (.ref 238),dE P q96 537 (.ref 245),dE P q107 543 (.ref 250),dE P q79 549 (.ref 255),dE P q108 560 (.ref 262),dE P q97 573 (.ref 269),dE P q93 583 (.ref 276),dE P q103 596 (.ref 283),dE P q109 608 (.ref 290),dE P q83 620 (.ref 297),dE P q110 626 (.ref 302),dE P q95 633 (.ref 309),dE P q111 639 (.ref 314),dE P q80 648 (.ref 321),dE P q82 661 (.ref 328),dE P q81 677 (.ref 335),dE P q112 685 (.ref 342)]
noncomputable def o151  (P:Params):Obj:=dO (dE P q17 165 (.str q49 450)::g156 P) 55
noncomputable def o152  : Obj:=fO q80 q80 (Z.top 47) (.str q49 450) 320
noncomputable def o153  : Obj:=kO q0 q109 q109 597 236 3 3 284 true (.ref 286) (.ref 287) (.ref 288) 606
noncomputable def o154  : Obj:=kO q0 q105 q105 492 149 4 3 220 true (.ref 222) (.ref 223) (.ref 224) 501
noncomputable def o155  : Obj:=tO [(.str q100 630)]
noncomputable def o156  : Obj:=tO [(.str q85 525),(.str q113 526),(.str q114 527),(.str q88 528),(.str q115 529),(.str q116 530),(.str q117 531),(.str q118 532),(.str q119 533),(.str q90 534)]
noncomputable def o157  : Obj:=tO [(.str q88 564),(.str q90 565),(.str q113 566),(.str q120 567),(.str q114 568),(.str q121 569),(.str q73 570)]
noncomputable def o158  : Obj:=fO q83 q83 (Z.top 43) (.str q49 450) 296
noncomputable def o159  : Obj:=fO q84 q84 (Z.top 33) (.str q49 450) 232
noncomputable def o160  : Obj:=gO q103 q103 (Z.top 41)
noncomputable def o161  : Obj:=gO q104 q104 (Z.top 31)
noncomputable def o162  : Obj:=kO q0 q111 q111 634 277 2 3 310 true .none .none (.ref 312) 637
noncomputable def o163  : Obj:=kO q0 q107 q107 538 174 1 3 246 true .none .none (.ref 248) 541
noncomputable def o164  : Obj:=kO q0 q108 q108 550 181 2 3 256 true (.ref 258) (.ref 259) (.ref 260) 558
noncomputable def o165  : Obj:=tO [(.str q113 612),(.str q122 613),(.str q90 614),(.str q123 615),(.str q120 616),(.str q91 617)]
noncomputable def o166  : Obj:=tO [(.str q69 507),(.str q86 508),(.str q124 509),(.str q113 510),(.str q114 511),(.str q125 512)]
noncomputable def o167  : Obj:=kO q0 q112 q112 678 320 1 3 336 true (.ref 338) (.ref 339) (.ref 340) 683
noncomputable def o168  : Obj:=fO q95 q95 (Z.top 45) (.str q49 450) 308
noncomputable def o169  : Obj:=fO q96 q96 (Z.top 35) (.str q49 450) 244
noncomputable def o170  : Obj:=fO q97 q97 (Z.top 39) (.str q49 450) 268
noncomputable def o171  : Obj:=gO q81 q81 (Z.top 49)
noncomputable def o172  : Obj:=kO q0 q110 q110 621 259 3 3 298 true .none .none (.ref 300) 624
noncomputable def o173  : Obj:=kO q0 q106 q106 516 165 3 3 234 true .none .none (.ref 236) 519
noncomputable def o174  : Obj:=tO [(.str q69 643),(.str q88 644),(.str q120 645)]
noncomputable def o175  : Obj:=gO q79 q79 (Z.top 37)
noncomputable def o176  : Obj:=kO q0 q80 q80 640 289 2 3 315 true (.ref 317) (.ref 318) (.ref 319) 646
noncomputable def o177  : Obj:=gO q109 q109 (Z.top 42)
noncomputable def o178  : Obj:=gO q105 q105 (Z.top 32)
noncomputable def o179  : Obj:=tO [(.str q88 577),(.str q73 578),(.str q126 579),(.str q127 580)]
noncomputable def o180  : Obj:=tO [(.str q69 479)]
noncomputable def o181  : Obj:=fO q82 q82 (Z.top 48) (.str q49 450) 327
noncomputable def o182  : Obj:=kO q0 q83 q83 609 246 3 3 291 true (.ref 293) (.ref 294) (.ref 295) 618
noncomputable def o183  : Obj:=kO q0 q84 q84 504 155 2 3 227 true (.ref 229) (.ref 230) (.ref 231) 513
noncomputable def o184  : Obj:=gO q111 q111 (Z.top 46)
noncomputable def o185  : Obj:=gO q107 q107 (Z.top 36)
noncomputable def o186  : Obj:=gO q108 q108 (Z.top 38)
noncomputable def o187  : Obj:=tO [(.str q69 652),(.str q85 653),(.str q88 654),(.str q98 655),(.str q99 656),(.str q100 657),(.str q101 658)]
noncomputable def o188  : Obj:=fO q93 q93 (Z.top 40) (.str q49 450) 275
noncomputable def o189  : Obj:=gO q112 q112 (Z.top 50)
noncomputable def o190  : Obj:=fO q94 q94 (Z.top 30) (.str q49 450) 211
noncomputable def o191  : Obj:=kO q0 q95 q95 627 274 0 3 303 true (.ref 305) (.ref 306) (.ref 307) 631
noncomputable def o192  : Obj:=kO q0 q96 q96 522 167 1 3 239 true (.ref 241) (.ref 242) (.ref 243) 535
noncomputable def o193  : Obj:=kO q0 q97 q97 561 198 1 3 263 true (.ref 265) (.ref 266) (.ref 267) 571
noncomputable def o194  : Obj:=gO q110 q110 (Z.top 44)
noncomputable def o195  : Obj:=gO q106 q106 (Z.top 34)
noncomputable def h202  : List Value:=h116++[(.int 140 0),(.int 0 0),(.ref 211),(.int 142 0),(.int 0 0),(.ref 218),(.int 149 0),(.int 0 0),(.ref 225),(.int 155 0),(.int 0 0),(.ref 232),(.int 165 0),(.int 0 0),(.ref 237),(.int 167 0),(.int 0 0),(.ref 244),(.int 174 0),(.int 0 0),(.ref 249),(.int 178 0),(.int 0 0),(.ref 254),(.int 181 0),(.int 0 0),(.ref 261),(.int 198 0),(.int 0 0),(.ref 268),(.int 217 0),(.int 0 0),(.ref 275),(.int 227 0),(.int 0 0),(.ref 282),(.int 236 0),(.int 0 0),(.ref 289),(.int 246 0),(.int 0 0),(.ref 296),(.int 259 0),(.int 0 0),(.ref 301),(.int 274 0),(.int 0 0),(.ref 308),(.int 277 0),(.int 0 0),(.ref 313),(.int 289 0),(.int 0 0),(.ref 320),(.int 292 0),(.int 0 0),(.ref 327),(.int 305 0),(.int 0 0),(.ref 334),(.int 320 0),(.int 0 0),(.ref 341)]
noncomputable def o196  : Obj:=sO .none h202
noncomputable def o197  : Obj:=tO [(.str q113 553),(.str q90 554),(.str q120 555),(.str q128 556),(.str q129 557)]
noncomputable def o198  : Obj:=fO q109 q109 (Z.top 42) (.str q49 450) 289
noncomputable def o199  : Obj:=fO q105 q105 (Z.top 32) (.str q49 450) 225
noncomputable def o200  : Obj:=gO q93 q93 (Z.top 40)
noncomputable def o201  : Obj:=tO [(.str q68 681),(.str q69 682)]
noncomputable def o202  : Obj:=gO q94 q94 (Z.top 30)
noncomputable def o203  : Obj:=kO q0 q103 q103 584 227 3 3 277 true (.ref 279) (.ref 280) (.ref 281) 594
noncomputable def o204  : Obj:=kO q0 q104 q104 483 142 2 3 213 true (.ref 215) (.ref 216) (.ref 217) 489
noncomputable def o205  : Obj:=fO q111 q111 (Z.top 46) (.str q49 450) 313
noncomputable def o206  : Obj:=fO q107 q107 (Z.top 36) (.str q49 450) 249
noncomputable def o207  : Obj:=fO q108 q108 (Z.top 38) (.str q49 450) 261
noncomputable def o208  : Obj:=gO q82 q82 (Z.top 48)
noncomputable def o209  : Obj:=fO q112 q112 (Z.top 50) (.str q49 450) 341
noncomputable def o210  : Obj:=kO q0 q81 q81 662 305 1 3 329 true (.ref 331) (.ref 332) (.ref 333) 675
noncomputable def o211  : Obj:=fO q110 q110 (Z.top 44) (.str q49 450) 301
noncomputable def o212  : Obj:=fO q106 q106 (Z.top 34) (.str q49 450) 237
noncomputable def o213  : Obj:=tO [(.str q85 600),(.str q86 601),(.str q88 602),(.str q73 603),(.str q126 604),(.str q127 605)]
noncomputable def o214  : Obj:=tO [(.str q69 495),(.str q116 496),(.str q117 497),(.str q86 498),(.str q118 499),(.str q130 500)]
noncomputable def o215  : Obj:=kO q0 q79 q79 544 178 1 3 251 true .none .none (.ref 253) 547
noncomputable def Ha  (P:Params):Heap:=⟨⟨Yci P::YbN P::Ych P::YfE P::Ycg P::Ycf P::Yce P::Ycd P::Ycc P::Ycb P::Yb1 P::tE::o0::o1::o2::[]⟩,{}⟩
noncomputable def t0  (P:Params):Ycw:=(bN (Yci P) (bN (YbN P) (bN (YfE P) (bL (Ycd P)) (bL tE)) (bN (Ycf P) (bL (Ycb P)) (bL o1))) (bN (Ych P) (bN (Ycg P) (bL (Ycc P)) (bL o0)) (bN (Yce P) (bL (Yb1 P)) (bL o2))))
noncomputable def t1  (P:Params):Ycw:=(bN (Yci P) (bN (YbN P) (bN (o17 P) (bN (Ycd P) (bN o6 (bN tE (bL o3) bE) (bN o5 (bL o4) bE)) (bN (o9 P) (bN o8 (bL o7) bE) (bL nO))) (bN tE (bN nO (bN tE (bL o10) bE) (bN o12 (bL o11) bE)) (bN o16 (bN (o14 P) (bL o13) bE) (bL o15)))) (bN (Ycf P) (bN (Ycb P) (bN (o22 P) (bN o19 (bL o18) bE) (bN (o21 P) (bL (o20 P)) bE)) (bN o24 (bN o23 (bL tE) bE) (bL tE))) (bN o1 (bN o27 (bN o25 (bL tE) bE) (bL o26)) (bN o10 (bN o29 (bL o28) bE) (bL o30))))) (bN (Ych P) (bN (Ycg P) (bN (Ycc P) (bN o10 (bN o32 (bL o31) bE) (bN o10 (bL o33) bE)) (bN o37 (bN o35 (bL o34) bE) (bL o36))) (bN o44 (bN o41 (bN nO (bL (o38 P)) bE) (bN o40 (bL o39) bE)) (bN o5 (bN o42 (bL tE) bE) (bL o43)))) (bN (Yce P) (bN (Yb1 P) (bN tE (bN o45 (bL o5) bE) (bN tE (bL o46) bE)) (bN o49 (bN o47 (bL nO) bE) (bL o48))) (bN o2 (bN tE (bN tE (bL o50) bE) (bL tE)) (bN (o54 P) (bN o52 (bL o51) bE) (bL (o53 P)))))))
noncomputable def t2  (P:Params):Ycw:=(bN (Yci P) (bN (YbN P) (bN (o71 P) (bN (Ycd P) (bN o6 (bN tE (bN o3 (bL o55) (bL o56)) (bN tE (bL o57) bE)) (bN o5 (bN o4 (bL tE) bE) (bN tE (bL tE) bE))) (bN (o9 P) (bN o8 (bN o7 (bL tE) (bL o58)) (bN o60 (bL o59) bE)) (bN nO (bN (o62 P) (bL o61) bE) (bN (o63 P) (bL nO) bE)))) (bN tE (bN nO (bN tE (bN o10 (bL tE) (bL nO)) (bN o65 (bL o64) bE)) (bN o12 (bN o11 (bL tE) bE) (bN o67 (bL o66) bE))) (bN o16 (bN (o14 P) (bN o13 (bL o68) (bL o69)) (bN tE (bL tE) bE)) (bN o15 (bN o70 (bL nO) bE) (bN tE (bL tE) bE))))) (bN (Ycf P) (bN (Ycb P) (bN (o22 P) (bN o19 (bN o18 (bL nO) (bL o72)) (bN o73 (bL tE) bE)) (bN (o21 P) (bN (o20 P) (bL o74) bE) (bN o76 (bL o75) bE))) (bN o24 (bN o23 (bN tE (bL o77) (bL tE)) (bN o10 (bL nO) bE)) (bN tE (bN o79 (bL o78) bE) (bN o81 (bL o80) bE)))) (bN o1 (bN o27 (bN o25 (bN tE (bL o82) (bL tE)) (bN o84 (bL o83) bE)) (bN o26 (bN o5 (bL o85) bE) (bN o87 (bL o86) bE))) (bN o10 (bN o29 (bN o28 (bL nO) (bL o88)) (bN o90 (bL o89) bE)) (bN o30 (bN nO (bL o91) bE) (bN o93 (bL o92) bE)))))) (bN (Ych P) (bN (Ycg P) (bN (Ycc P) (bN o10 (bN o32 (bN o31 (bL tE) (bL o94)) (bN o96 (bL o95) bE)) (bN o10 (bN o33 (bL o97) bE) (bN nO (bL nO) bE))) (bN o102 (bN o35 (bN o34 (bL nO) (bL o98)) (bN o5 (bL tE) bE)) (bN o36 (bN tE (bL o99) bE) (bN o101 (bL o100) bE)))) (bN o112 (bN o41 (bN nO (bN (o38 P) (bL o103) (bL o104)) (bN (o105 P) (bL tE) bE)) (bN o40 (bN o39 (bL nO) bE) (bN o107 (bL o106) bE))) (bN o5 (bN o42 (bN tE (bL tE) (bL o108)) (bN o110 (bL o109) bE)) (bN o43 (bN tE (bL o111) bE) (bN nO (bL nO) bE))))) (bN (Yce P) (bN (Yb1 P) (bN tE (bN o45 (bN o5 (bL o113) (bL tE)) (bN o114 (bL nO) bE)) (bN tE (bN o46 (bL o115) bE) (bN tE (bL o116) bE))) (bN o49 (bN o47 (bN nO (bL o117) (bL nO)) (bN (o119 P) (bL o118) bE)) (bN o48 (bN o120 (bL tE) bE) (bN o122 (bL o121) bE)))) (bN o2 (bN tE (bN tE (bN o50 (bL o123) (bL o124)) (bN o126 (bL o125) bE)) (bN tE (bN o10 (bL o127) bE) (bN o128 (bL tE) bE))) (bN (o54 P) (bN o52 (bN o51 (bL o129) bE) (bN o131 (bL o130) bE)) (bN (o53 P) (bN o133 (bL o132) bE) (bN o134 (bL tE) bE)))))))
noncomputable def t3  (P:Params):Ycw:=(bN (Yci P) (bN (YbN P) (bN (o151 P) (bN (Ycd P) (bN o6 (bN tE (bN o3 (bN o55 (bL o135) bE) (bN o56 (bL o136) bE)) (bN tE (bN o57 (bL tE) bE) (bL tE))) (bN o5 (bN o4 (bN tE (bL nO) bE) (bN nO (bL o137) bE)) (bN tE (bN tE (bL tE) bE) (bL tE)))) (bN (o9 P) (bN o8 (bN o7 (bN tE (bL tE) bE) (bN o58 (bL o138) bE)) (bN o60 (bN o59 (bL o139) bE) (bL o140))) (bN nO (bN (o62 P) (bN o61 (bL o141) bE) (bL o142)) (bN (o63 P) (bN nO (bL nO) bE) (bL nO))))) (bN tE (bN nO (bN tE (bN o10 (bN tE (bL tE) bE) (bN nO (bL nO) bE)) (bN o65 (bN o64 (bL tE) bE) (bL tE))) (bN o12 (bN o11 (bN tE (bL o143) bE) (bN o144 (bL tE) bE)) (bN o67 (bN o66 (bL o145) bE) (bL o146)))) (bN o16 (bN (o14 P) (bN o13 (bN o68 (bL o147) bE) (bN o69 (bL o148) bE)) (bN tE (bN tE (bL nO) bE) (bL nO))) (bN o15 (bN o70 (bN nO (bL o149) bE) (bL o150)) (bN tE (bN tE (bL tE) bE) (bL tE)))))) (bN (Ycf P) (bN (Ycb P) (bN (o22 P) (bN o19 (bN o18 (bN nO (bL nO) bE) (bN o72 (bL o152) bE)) (bN o73 (bN tE (bL o153) bE) (bL o154))) (bN (o21 P) (bN (o20 P) (bN o74 (bL tE) bE) (bN tE (bL nO) bE)) (bN o76 (bN o75 (bL o155) bE) (bL o156)))) (bN o24 (bN o23 (bN tE (bN o77 (bL o157) bE) (bN tE (bL tE) bE)) (bN o10 (bN nO (bL o158) bE) (bL o159))) (bN tE (bN o79 (bN o78 (bL o160) bE) (bL o161)) (bN o81 (bN o80 (bL o162) bE) (bL o163))))) (bN o1 (bN o27 (bN o25 (bN tE (bN o82 (bL o164) bE) (bN tE (bL tE) bE)) (bN o84 (bN o83 (bL o165) bE) (bL o166))) (bN o26 (bN o5 (bN o85 (bL tE) bE) (bN tE (bL o167) bE)) (bN o87 (bN o86 (bL o168) bE) (bL o169)))) (bN o10 (bN o29 (bN o28 (bN nO (bL o170) bE) (bN o88 (bL o171) bE)) (bN o90 (bN o89 (bL o172) bE) (bL o173))) (bN o30 (bN nO (bN o91 (bL nO) bE) (bL nO)) (bN o93 (bN o92 (bL o174) bE) (bL o175))))))) (bN (Ych P) (bN (Ycg P) (bN (Ycc P) (bN o10 (bN o32 (bN o31 (bN tE (bL tE) bE) (bN o94 (bL o176) bE)) (bN o96 (bN o95 (bL o177) bE) (bL o178))) (bN o10 (bN o33 (bN o97 (bL o179) bE) (bN o180 (bL tE) bE)) (bN nO (bN nO (bL nO) bE) (bL nO)))) (bN o102 (bN o35 (bN o34 (bN nO (bL nO) bE) (bN o98 (bL o181) bE)) (bN o5 (bN tE (bL o182) bE) (bL o183))) (bN o36 (bN tE (bN o99 (bL tE) bE) (bL tE)) (bN o101 (bN o100 (bL o184) bE) (bL o185))))) (bN o196 (bN o41 (bN nO (bN (o38 P) (bN o103 (bL o186) bE) (bN o104 (bL o187) bE)) (bN (o105 P) (bN tE (bL nO) bE) (bL nO))) (bN o40 (bN o39 (bN nO (bL o188) bE) (bN o190 (bL o189) bE)) (bN o107 (bN o106 (bL o191) bE) (bL o192)))) (bN o5 (bN o42 (bN tE (bN tE (bL o193) bE) (bN o108 (bL tE) bE)) (bN o110 (bN o109 (bL o194) bE) (bL o195))) (bN o43 (bN tE (bN o111 (bL tE) bE) (bL tE)) (bN nO (bN nO (bL nO) bE) (bL nO)))))) (bN (Yce P) (bN (Yb1 P) (bN tE (bN o45 (bN o5 (bN o113 (bL o197) bE) (bN tE (bL tE) bE)) (bN o114 (bN nO (bL o198) bE) (bL o199))) (bN tE (bN o46 (bN o115 (bL o200) bE) (bN o202 (bL o201) bE)) (bN tE (bN o116 (bL tE) bE) (bL tE)))) (bN o49 (bN o47 (bN nO (bN o117 (bL tE) bE) (bN nO (bL nO) bE)) (bN (o119 P) (bN o118 (bL tE) bE) (bL tE))) (bN o48 (bN o120 (bN tE (bL o203) bE) (bL o204)) (bN o122 (bN o121 (bL o205) bE) (bL o206))))) (bN o2 (bN tE (bN tE (bN o50 (bN o123 (bL o207) bE) (bN o124 (bL o208) bE)) (bN o126 (bN o125 (bL tE) bE) (bL tE))) (bN tE (bN o10 (bN o127 (bL nO) bE) (bN nO (bL o209) bE)) (bN o128 (bN tE (bL tE) bE) (bL tE)))) (bN (o54 P) (bN o52 (bN o51 (bN o129 (bL tE) bE) (bN tE (bL o210) bE)) (bN o131 (bN o130 (bL o211) bE) (bL o212))) (bN (o53 P) (bN o133 (bN o132 (bL o213) bE) (bL o214)) (bN o134 (bN tE (bL tE) bE) (bL o215))))))))
noncomputable def Hz  (P:Params):Heap:=⟨⟨Yci P::YbN P::Ych P::o151 P::Ycg P::Ycf P::Yce P::Ycd P::Ycc P::Ycb P::Yb1 P::tE::o196::o1::o2::o6::o10::o22 P::tE::nO::o41::o27::tE::o9 P::o102::o24::o49::o16::o5::o10::o54 P::tE::o32::o19::o45::tE::nO::o25::tE::o8::o35::o23::o47::o14 P::o42::o29::o52::o5::o10::o21 P::tE::o12::o40::o26::tE::nO::o36::tE::o48::o15::o43::o30::o53 P::o3::o31::o18::o5::o10::o38 P::tE::o50::o7::o34::tE::nO::o13::tE::o28::o51::o4::o33::o20 P::o46::o11::o39::o5::o10::o62 P::tE::o79::o120::o70::tE::nO::o133::tE::o96::o73::o114::o65::o105 P::o84::o126::o60::o5::o10::o119 P::tE::o110::o90::o131::tE::nO::o76::tE::o67::o107::o87::o128::o63 P::o101::o81::o122::tE::nO::o93::o134::o55::tE::nO::o113::tE::o103::o82::o123::tE::nO::o77::o117::o68::tE::nO::o129::tE::o97::o74::o115::tE::nO::o85::o127::o61::o99::o78::tE::nO::o111::o91::o132::o57::o95::tE::nO::o64::tE::o83::o125::o59::tE::nO::o118::tE::o109::o89::o130::tE::nO::o75::o116::o66::o106::o86::tE::nO::o100::o80::o121::tE::nO::o92::tE::o56::o94::o72::tE::nO::o104::tE::o124::o58::o98::tE::nO::o69::o108::o88::tE::nO::o180::tE::o202::o144::o190::tE::nO::o142::tE::o161::o204::o150::tE::nO::o214::tE::o178::o154::o199::tE::nO::o166::tE::o140::o183::o159::tE::nO::o195::o173::o212::tE::nO::o156::tE::o146::o192::o169::tE::nO::o185::o163::o206::tE::nO::o175::o215::o135::tE::nO::o197::tE::o186::o164::o207::tE::nO::o157::tE::o147::o193::o170::tE::nO::o179::tE::o200::o143::o188::tE::nO::o141::tE::o160::o203::o149::tE::nO::o213::tE::o177::o153::o198::tE::nO::o165::tE::o139::o182::o158::tE::nO::o194::o172::o211::tE::nO::o155::tE::o145::o191::o168::tE::nO::o184::o162::o205::tE::nO::o174::tE::o136::o176::o152::tE::nO::o187::tE::o208::o138::o181::tE::nO::o148::tE::o171::o210::o137::tE::nO::o201::tE::o189::o167::o209::[]⟩,{}⟩
noncomputable def st1  : List Stmt:=[Z.top 0,Z.top 1,Z.top 2,Z.top 3,Z.top 4]
noncomputable def st2  : List Stmt:=[Z.top 5,Z.top 6,Z.top 7,Z.top 8,Z.top 9,Z.top 10,Z.top 11,Z.top 12,Z.top 13,Z.top 14,Z.top 15,Z.top 16,Z.top 17,Z.top 18,Z.top 19,Z.top 20,Z.top 21,Z.top 22,Z.top 23,Z.top 24,Z.top 25,Z.top 26,Z.top 27,Z.top 28,Z.top 29]
noncomputable def st3  : List Stmt:=[Z.top 30,Z.top 31,Z.top 32,Z.top 33,Z.top 34,Z.top 35,Z.top 36,Z.top 37,Z.top 38,Z.top 39,Z.top 40,Z.top 41,Z.top 42,Z.top 43,Z.top 44,Z.top 45,Z.top 46,Z.top 47,Z.top 48,Z.top 49,Z.top 50]
noncomputable def bd  : List Stmt:=st1++(st2++(st3++[]))
noncomputable abbrev pw  : Program:=PySem.Challenge.pw_beatplans_k85_lines_and_boards_spoilt_an
noncomputable def qw  : Program:={ pw with main:={ pw.main with body:=[Z.top 1,Z.top 2,Z.top 3,Z.top 4,Z.top 5,Z.top 6,Z.top 8,Z.top 9,Z.top 10,Z.top 11,Z.top 13,Z.top 14,Z.top 15,Z.top 16,Z.top 17,Z.top 18,Z.top 19,Z.top 20,Z.top 21,Z.top 23,Z.top 24,Z.top 25,Z.top 27,Z.top 28,Z.top 29,Z.top 30,Z.top 31,Z.top 32,Z.top 33,Z.top 34,Z.top 35,Z.top 36,Z.top 37,Z.top 38,Z.top 39,Z.top 40,Z.top 41,Z.top 42,Z.top 43,Z.top 44,Z.top 45,Z.top 46,Z.top 47,Z.top 48,Z.top 49,Z.top 50] } }
noncomputable def en  : Env:={ scope:=pw.main.scope,locals:=mainNs,globals:=mainNs,cells:=[],code:=.ref 13,frame:=some 14 }
noncomputable def cE  : Code:=.body bd en
noncomputable abbrev pz  : Pos:=⟨0,0,0,0⟩
noncomputable abbrev fz  : List Frame:=[PySem.W.topFrame pz]
noncomputable abbrev s0  (w:World)(os:OsState):Shared:=⟨Yb2 w.params,⟨[]⟩,PySem.W.boot_drawn,PySem.W.boot_toks,os⟩
noncomputable abbrev sz  (w:World)(os:OsState):Shared:=⟨Hz w.params,⟨[]⟩,{},686,os⟩
noncomputable def sT  (t:Params->Ycw)(n k:Nat)(w:World)(os:OsState):PySem.W.SharedT:=⟨t w.params,n,{},⟨[]⟩,{},k,os⟩
section
variable (w:World)(os:OsState)
def jpx  : PySem.W.topGo Ydq pw w 11 (some (.ref 6)) 12 (s0 w os) (YfW pw)=some (⟨Ha w.params,⟨[]⟩,{},187,os⟩,⟨denote Ydq cE,cE,pz,fz⟩):=by
 rw[PySem.W.Fast.te15667345088766844465,YaP,PySem.W.Fast.te11892475500146522536];kernel_rfl
def jpz  : PySem.W.segRun Ydq pw w 11 (some (.ref 6)) 1 1 ⟨Ha w.params,⟨[]⟩,{},187,os⟩ (PySem.W.blockOf bd en cE pz fz)=some (.next,(sT t0 15 187 w os).abs,cE,pz):=by
 rw[PySem.W.Fast.te14374325043358763698,YaP];kernel_rfl
def r1  : Yea Ydq pw w 11 (some (.ref 6)) 1 933 (sT t0 15 187 w os) (Yd0 st1 en cE pz fz)=some (.next,sT t1 85 284 w os,cE,⟨13,0,16,24⟩):=by
 rw[Yb4,YaP];kernel_rfl
def r2  : Yea Ydq pw w 11 (some (.ref 6)) 1 981 (sT t1 85 284 w os) (Yd0 st2 en cE ⟨13,0,16,24⟩ fz)=some (.next,sT t2 206 476 w os,cE,⟨129,0,139,33⟩):=by
 rw[Yb4,YaP];kernel_rfl
def r3  : Yea Ydq pw w 11 (some (.ref 6)) 1 663 (sT t2 206 476 w os) (Yd0 st3 en cE ⟨129,0,139,33⟩ fz)=some (.next,sT t3 343 686 w os,cE,⟨320,0,322,81⟩):=by
 rw[Yb4,YaP];kernel_rfl
def jpy  : Yf6 Ydq pw w 11 (some (.ref 6)) 2 (sT t3 343 686 w os).abs ⟨PySem.W.doneF .next,cE,⟨320,0,322,81⟩,fz⟩=some (sz w os):=by
 rw[PySem.W.Fast.te14082659384304107361,YaP];kernel_rfl
def jpw  : Yf6 Ydq pw w 11 (some (.ref 6)) (12+(1+(933+(981+(663+(2)))))) (s0 w os) (YfW pw)=some (sz w os):=
 PySem.W.go_top (jpx w os) (PySem.W.piece_block (jpz w os) (YdQ (YdP (r1 w os)) (YdQ (YdP (r2 w os)) (YdQ (YdP (r3 w os)) (jpy w os)))))
end
noncomputable def KK  : Params->Yab:=λP=>((1:Addr),YbN P)::((3:Addr),o151 P)::((23:Addr),o9 P)::((24:Addr),o102)::((40:Addr),o35)::((41:Addr),o23)::((43:Addr),o14 P)::((44:Addr),o42)::((59:Addr),o15)::((60:Addr),o43)::((62:Addr),o53 P)::((63:Addr),o3)::((78:Addr),o51)::((79:Addr),o4)::((81:Addr),o20 P)::((82:Addr),o46)::((97:Addr),o73)::((98:Addr),o114)::((100:Addr),o105 P)::((101:Addr),o84)::((116:Addr),o107)::((117:Addr),o87)::((119:Addr),o63 P)::((120:Addr),o101)::((126:Addr),o134)::((127:Addr),o55)::((133:Addr),o82)::((134:Addr),o123)::((138:Addr),o117)::((139:Addr),o68)::((145:Addr),o74)::((146:Addr),o115)::((152:Addr),o99)::((153:Addr),o78)::((159:Addr),o57)::((160:Addr),o95)::((166:Addr),o125)::((167:Addr),o59)::((173:Addr),o89)::((174:Addr),o130)::((180:Addr),o106)::((181:Addr),o86)::((185:Addr),o80)::((186:Addr),o121)::((192:Addr),o94)::((193:Addr),o72)::((199:Addr),o58)::((200:Addr),o98)::((204:Addr),o108)::((205:Addr),o88)::((211:Addr),o144)::((212:Addr),o190)::((218:Addr),o204)::((219:Addr),o150)::((225:Addr),o154)::((226:Addr),o199)::((232:Addr),o183)::((233:Addr),o159)::((237:Addr),o173)::((238:Addr),o212)::((244:Addr),o192)::((245:Addr),o169)::((249:Addr),o163)::((250:Addr),o206)::((254:Addr),o215)::((255:Addr),o135)::((261:Addr),o164)::((262:Addr),o207)::((268:Addr),o193)::((269:Addr),o170)::((275:Addr),o143)::((276:Addr),o188)::((282:Addr),o203)::((283:Addr),o149)::((289:Addr),o153)::((290:Addr),o198)::((296:Addr),o182)::((297:Addr),o158)::((301:Addr),o172)::((302:Addr),o211)::((308:Addr),o191)::((309:Addr),o168)::((313:Addr),o162)::((314:Addr),o205)::((320:Addr),o176)::((321:Addr),o152)::((327:Addr),o138)::((328:Addr),o181)::((334:Addr),o210)::((335:Addr),o137)::((341:Addr),o167)::((342:Addr),o209)::[]
noncomputable def KA  : List Addr:=1::3::23::24::40::41::43::44::59::60::62::63::78::79::81::82::97::98::100::101::116::117::119::120::126::127::133::134::138::139::145::146::152::153::159::160::166::167::173::174::180::181::185::186::192::193::199::200::204::205::211::212::218::219::225::226::232::233::237::238::244::245::249::250::254::255::261::262::268::269::275::276::282::283::289::290::296::297::301::302::308::309::313::314::320::321::327::328::334::335::341::342::[]
noncomputable def fl  : Z.FL:=(127,126,(.str q30 336))::(134,133,(.str q35 350))::(139,138,(.str q35 350))::(146,145,(.str q35 350))::(153,152,(.str q35 350))::(160,159,(.str q35 350))::(167,166,(.str q35 350))::(174,173,(.str q35 350))::(181,180,(.str q67 425))::(186,185,(.str q67 425))::(193,192,(.str q49 450))::(200,199,(.str q49 450))::(205,204,(.str q49 450))::(212,211,(.str q49 450))::(219,218,(.str q49 450))::(226,225,(.str q49 450))::(233,232,(.str q49 450))::(238,237,(.str q49 450))::(245,244,(.str q49 450))::(250,249,(.str q49 450))::(255,254,(.str q49 450))::(262,261,(.str q49 450))::(269,268,(.str q49 450))::(276,275,(.str q49 450))::(283,282,(.str q49 450))::(290,289,(.str q49 450))::(297,296,(.str q49 450))::(302,301,(.str q49 450))::(309,308,(.str q49 450))::(314,313,(.str q49 450))::(321,320,(.str q49 450))::(328,327,(.str q49 450))::(335,334,(.str q49 450))::(342,341,(.str q49 450))::[]
def k_dyn   P:Z.dynB Z.T (KK P) 0 fl Z.T.funs Z.sts=true:=by kernel_rfl
def k_lk   P:fl.map (λx=>(KK P).lookup x.1)=Z.lkR fl Z.T.funs Z.sts:=by kernel_rfl
def k_blt   P:Z.bltB (KK P)=true:=by kernel_rfl
def k_gs   P:Z.gsB (KK P) Z.T.gn Z.T.gs=true:=by kernel_rfl
def k_xb   P:∃mD,L2.XBase (KK P) (Z.gK (KK P)) 24 mD:=Z.xb_mk 24 23 15 189 197 [(.ref 44),(.ref 63),(.ref 82),(.ref 101),(.ref 120)] (by kernel_rfl) (by kernel_rfl)
def k_cs   P:Z.CsA (KK P) Z.T.cs:=⟨Z.xc_mk (k_xb P) "NoPaper" "NoPaper.__init__" ["word", "at"] (jaG (Z.top 2) 0) 44 43 28 207 215 41 40 (.str q6 187) (by kernel_rfl) (by kernel_rfl) (by kernel_rfl) (.inr ⟨_,_,_,_,_,_,_,_,_,_,rfl,by decide,rfl⟩),
 Z.xc_mk (k_xb P) "TooMany" "TooMany.__init__" ["word"] (jaG (Z.top 3) 0) 63 62 47 234 242 60 59 (.str q6 187) (by kernel_rfl) (by kernel_rfl) (by kernel_rfl) (.inl ⟨_,_,_,_,_,rfl,rfl⟩),
 Z.xc_mk (k_xb P) "NoRing" "NoRing.__init__" ["word"] (jaG (Z.top 4) 0) 82 81 66 259 267 79 78 (.str q6 187) (by kernel_rfl) (by kernel_rfl) (by kernel_rfl) (.inl ⟨_,_,_,_,_,rfl,rfl⟩),
 Z.xc_mk (k_xb P) "NoText" "NoText.__init__" ["row", "word"] (jaG (Z.top 5) 0) 101 100 85 284 292 98 97 (.str q6 187) (by kernel_rfl) (by kernel_rfl) (by kernel_rfl) (.inr ⟨_,_,_,_,_,_,_,_,_,_,rfl,by decide,rfl⟩),
 Z.xc_mk (k_xb P) "NoRow" "NoRow.__init__" ["row"] (jaG (Z.top 6) 0) 120 119 104 311 319 117 116 (.str q6 187) (by kernel_rfl) (by kernel_rfl) (by kernel_rfl) (.inl ⟨_,_,_,_,_,rfl,rfl⟩),trivial⟩
noncomputable abbrev rr  : PySem.W.OpenRow:=PySem.Challenge.rw_beatplans_k85_lines_and_boards_spoilt_an.row
noncomputable def Xt  : Shared->Bool:=λs=>PySem.W.xlAt qw [] s&&PySem.W.recOk (PySem.W.RowW.records rr.toRowW) s
noncomputable abbrev hk  : PySem.W.Hook:=PySem.W.kHook KK KA (λ_=>by kernel_rfl)
def jof  (w:World):((Yb2 w.params).isNs YaC&&(⟨[]⟩:Array GenState).size==0,(Yb2 w.params).objs.size,(Yb2 w.params).nsMap YaC "__annotations__")=(true,11,some (YaQ 6)):=by
 rw[PySem.W.Fast.te8920871248978507458];kernel_rfl
def k_l1  (w:World) os:(PySem.W.staticsOk (importedModules pw.main.body) (Yb2 w.params) (Hz w.params)&&PySem.W.namesBound pw (Hz w.params)&&PySem.W.gensDone (sz w os)&&PySem.W.laidKept (Yb2 w.params) (Hz w.params))=true:=by
 rw[Ydh];kernel_rfl
def k_l2  (w:World) os:PySem.W.openSeen qw [] (importedModules pw.main.body) Xt true (sz w os)=PySem.W.openGood qw []:=by
 rw[PySem.W.Fast.te4187177175401517315,Ydh];kernel_rfl
def k_l3   w os:Ydz hk (sz w os)=Ydy hk w:=by kernel_rfl
def k_hl  : PySem.W.LeftO pw qw [] Xt (Ydz hk) (Ydy hk) 5274:=PySem.W.LeftO.of_pieces (PySem.W.boot_open (by kernel_rfl) (by decide) λ_=>by kernel_rfl) jof jpw (by decide) λw=>funext λos=>Prod.ext (k_l1 w os) (Prod.ext (k_l2 w os) (k_l3 w os))
end Y
set_option maxRecDepth 100000 in
set_option maxHeartbeats 0 in
def Z.wellS:PySem.Challenge.rw_beatplans_k85_lines_and_boards_spoilt_an.wellSaid=true:=by decide +kernel
open PySem PySem.W PyProof.Rows
set_option maxRecDepth 100000 in
set_option maxHeartbeats 0 in
theorem PySem.Challenge.cw_beatplans_k85_lines_and_boards_spoilt_an_holds : PySem.Challenge.rw_beatplans_k85_lines_and_boards_spoilt_an.Holds := by
 refine PySem.W.holds_law Z.wellS λsaid=>?_
 refine PySem.W.holds_open (q:=Y.qw) (loose:=[]) (Xt:=Y.Xt) (XP:=PySem.W.XL Y.qw []) (Yf:=Ydz Y.hk) (Ya:=Ydy Y.hk) (YP:=PySem.W.Hook.says Y.hk) (N:=5274) Y.k_hl (PySem.W.Hook.of Y.hk) (PySem.W.Hook.keeps Y.hk) (λs e=>PySem.W.xl_of s (Bool.and_eq_true_iff.mp e).1) PySem.W.XL.keeps (by rfl) (by rfl) (by rfl) (λs e=>PySem.W.recFacts_of (Bool.and_eq_true_iff.mp e).2) (by rfl) said (by decide +kernel) ⟨rfl,rfl,rfl,rfl,rfl,by decide +kernel⟩ ?hw ?hc
 case hw=>w_witness2
 refine Z.walk (l:=PySem.Challenge.rw_beatplans_k85_lines_and_boards_spoilt_an) rfl rfl (λw h Y=>PySem.W.kIn_of Y) ?K ?S ?B ?F
 case K=>intro w;rfl
 case S=>intro w;exact⟨_,rfl,rfl⟩
 case B=>
  intro w t ht
  simp only[Z.tbs,YaG,Yar,or_false]at ht
  rcases ht with rfl|rfl|rfl
  ·exact⟨⟨_,rfl⟩,by kernel_rfl,by kernel_rfl⟩
  ·exact⟨⟨_,rfl⟩,by kernel_rfl,by kernel_rfl⟩
  ·exact⟨⟨_,rfl⟩,by kernel_rfl,by kernel_rfl⟩
 case F=>exact λw mg fa h X G hm=>Z.all2 X G hm Z.prog_rep Z.prog_eq Z.tabsU (Y.k_dyn _) (Y.k_lk _) (Y.k_blt _) (Y.k_gs _) (Y.k_cs _) rfl rfl rfl rfl rfl
